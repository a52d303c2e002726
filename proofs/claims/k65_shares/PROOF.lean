import PyProof.Rows.All
import Wide.All
import OpenK.AllK
import Wide.FinOn
import Lean
import PyProof.EqAt
import PyProof.EqKinds
import PyProof.TupleCall
import PySem.Challenge.RW_crystalwords_k65_shares
set_option Elab.async false
set_option linter.all false
set_option compiler.extract_closed false
set_option genSizeOf false
set_option bootstrap.genMatcherCode false
set_option maxRecDepth 100000
local macro_rules | `(⋯)=>`(by omega)
local macro_rules | `(∅)=>`(by decide)
local macro_rules | `(nofun)=>`(by decide +kernel)
local macro_rules | `(tactic| ext)=>`(tactic| walk_at "r")
noncomputable section
theorem dLe{d k:Nat}(h:d=2\/d=3)(g:3≤k):d≤k:=by
 rcases h with h|h<;>rw[h]
 ·exact Nat.le_trans (by decide) g
 ·exact g
theorem eLe{x d k:Nat}(e:x=d)(h:d=2\/d=3)(g:3≤k):x≤k:=by rw[e];exact dLe h g
theorem eLt{x y k:Nat}(e:x=y)(g:k<y):k<x:=by rw[e];exact g
theorem iNn{x:Int}(h:0<x):¬x<0:=Int.not_lt.mpr (Int.le_of_lt h)
local macro_rules | `(tactic| omega)=>`(tactic| first | (with_reducible first | assumption | exact Int.ne_of_gt (by assumption) | exact iNn (by assumption) | exact Int.le_of_lt (by assumption) | exact eLt (by assumption) (by assumption) | exact dLe (by assumption) (by decide) | exact eLe (by assumption) (by assumption) (by decide) | exact Nat.le_trans (by assumption) (by decide) | exact Nat.lt_of_lt_of_le (by assumption) (by decide) | exact Nat.lt_of_le_of_lt (by assumption) (by decide) | exact Nat.le_trans (Nat.le_of_lt (by assumption)) (by decide) | exact Nat.le_of_lt (by assumption)) | decide | lia | omega +splitDisjunctions)
abbrev SP':=List Int×Int
abbrev LI':=List Int
abbrev PN:=List (PySem.Addr×PySem.Obj)
abbrev VP:=PySem.Value->PySem.Shared->Prop
abbrev LW:=List PySem.Value
abbrev LA:=List PySem.Addr
abbrev MT:=PySem.Str->Option PySem.Value
def zA:=@PySem.wpAny_bind
def zB:=@PySem.wpAny_pure
def zC:=@PySem.Heap.get?_push_of_some
def zD:=@List.getElem?_map
def zE:=@Nat.le_refl
def zF:=@if_neg
def zG:=@if_pos
def zH:=@PyProof.Rows.wpS_bind
def zI:=@Nat.lt_of_lt_of_le
def zJ:=@PyProof.Rows.wpS_pure
def zK:=@List.map_cons
def zL:=@decide_eq_true
def zM:=@List.mem_cons_of_mem
def zN:=@decide_eq_false
def zO:=@Array.length_toList
def zP:=@PySem.Heap.lt_size
def zQ:=@Option.some.inj
def zR:=@Bool.and_eq_true
def zS:=@List.length_append
def zT:=@PySem.Heap.get?_push_size
def zU:=@List.mem_cons_self
def zV:=@Int.toNat_natCast
def zW:=@List.length_cons
def zX:=@Nat.pow_le_pow_right
def zY:=@Nat.ne_of_lt
def zZ:=@List.size_toArray
def yA:=@Ne.symm
def yB:=@PySem.W.mg_of
def yC:=@PyProof.Rows.mulOk_of_bits
def yD:=@PySem.PassesOwn.never
def yE:=@List.length_map
def yF:=@List.mem_of_getElem?
def yG:=@List.getElem?_append_right
def yH:=@Nat.le_trans
def yI:=@List.map_map
def yJ:=@Bool.false_ne_true
def yK:=@List.mem_append_right
def yL:=@List.cons.injEq
def yM:=@of_decide_eq_true
def yN:=@List.append_assoc
def yO:=@Array.toList_append
def yP:=@List.getElem?_range
def yQ:=@LawfulBEq.eq_of_beq
def yR:=@Nat.zero_le
def yS:=@List.length_take
def yT:=@List.getElem?_append_left
def yU:=@Array.getElem?_toList
def yV:=@List.map_append
def yW:=@List.zipWith_cons_cons
def yX:=@List.getElem?_of_mem
def yY:=@PySem.W.mg_none_of
def yZ:=@Nat.lt_of_le_of_lt
def xA:=@Nat.lt_irrefl
def xB:=@List.getElem?_zipWith
def xC:=@List.length_zipWith
def xD:=@List.getElem_mem
def xE:=@List.mem_cons
def xF:=@Int.mul_pos
def xG:=@PySem.wpAny_mono
def xH:=@List.length_replicate
def xI:=@List.lookup_cons
def xJ:=@List.all_cons
def xK:=@Int.eq_ofNat_of_zero_le
def xL:=@PySem.wpAny_newObj_type
def xM:=@PyProof.Rows.wpS_forRange
def xN:=@List.mem_append_left
def xO:=@PySem.W.kia_one
def xP:=@List.ext_getElem
def xQ:=@List.getElem?_eq_getElem
def xR:=@List.map_congr_left
def xS:=@List.take_append_drop
def xT:=@Int.natAbs_mul
def xU:=@PySem.F.excBase_ValueError
def xV:=@Int.fmod_eq_emod_of_nonneg
def xW:=@PySem.wpAny_holding
def xX:=@PySem.wpAny_call_entry
def xY:=@List.take_of_length_le
def xZ:=@PySem.Heap.size_push
def wA:=@Nat.le_of_lt
def wB:=@PySem.wpAny_field
def wC:=@PyProof.Rows.callWith_type1
def wD:=@PySem.wpAny_callSpecial?_slot
def wE:=@Nat.mul_le_mul_right
def wF:=@congrArg
def wG:=@List.eq_of_mem_replicate
def wH:=@List.getElem_map
def wI:=@PySem.wpAny_seqItems
def wJ:=@PySem.F.slot_dict_keyiterator_next
def wK:=@PyProof.Rows.wpS_mono
def wL:=@List.foldl_cons
def wM:=@List.getElem_of_mem
def wN:=@List.replicate_succ
def wO:=@Nat.zero_add
def wP:=@PySem.wpAny_rule
def wQ:=@PyProof.Rows.wpS_modify
def wR:=@List.all_eq_true
def wS:=@List.cons_lt_cons_iff
def wT:=@PySem.wpAny_Call_Name_kw
def wU:=@Nat.two_pow_pos
def wV:=@Int.add_zero
def wW:=@Int.zero_mul
def wX:=@List.append_nil
def wY:=@List.take_add_one
def wZ:=@PySem.wpAny_typeNameOfWhole_keyiter
def vA:=@List.eq_nil_of_length_eq_zero
def vB:=@PySem.mem_of_lookup
def vC:=@PySem.Heap.SameBut.update
def vD:=@Nat.mul_le_mul
def vE:=@Nat.pow_add
def vF:=@PySem.wpAny_setField_rec
def vG:=@List.getElem?_eq_none
def vH:=@PySem.Heap.get?_update_self
def vJ:=@List.perm_append_comm
def vK:=@PySem.wpAny_passesOwn
def vL:=@List.find?_cons
def vM:=@PySem.F.slot_tuple_iterator_next
def vN:=@PySem.wpAny_attempt
def vO:=@List.length_range
def vP:=@List.flatten_cons
def vQ:=@List.eraseIdx_append_of_length_le
def vR:=@List.take_zero
def vS:=@List.take_length
def vU:=@PySem.F.type_list_append
def vV:=@PySem.F.slot_list_append
def vW:=@PySem.wpAny_isInstance
def vX:=@PySem.wpAny_typeNameOf_keyiter
def vY:=@List.zipIdx_cons
def vZ:=@PySem.IntMulOk.of_left
def uA:=@Int.dvd_refl
def uB:=@Int.mul_comm
def uC:=@PySem.F.plainAttrs_list
def uD:=@PySem.intBits_le_64
def uE:=@PySem.wpAny_pyIter_tuple
def uF:=@List.getElem_range
def uG:=@List.forIn_cons
def uH:=@PySem.wpAny_loadPart'
def uI:=@Int.fmod_nonneg_of_pos
def uJ:=@PySem.Heap.get?_update_other
def uK:=@Int.mul_one
def uL:=@List.foldl_append
def uM:=@Array.toList_push
def uN:=@List.getElem?_inj
def uO:=@PySem.wpAny_truthy_bool
def uP:=@PySem.wpAny_typeOf
def uQ:=@Nat.sub_self
def uR:=@List.Pairwise.sublist
def uS:=@PyProof.Rows.wpS_get
def uT:=@Nat.lt_or_ge
def uU:=@Int.le_of_lt
def uV:=@List.length_drop
def uW:=@PySem.W.looks_findIn
def uX:=@Array.toList_reverse
def uY:=@Nat.lt_succ_self
def uZ:=@PySem.Around.under_plainId
def tD:=@List.getD_eq_getElem?_getD
def tE:=@List.eraseIdx_of_length_le
def tF:=@List.any_cons
def tG:=@PySem.wpAny_standAt
def tH:=@List.perm_ext_iff_of_nodup
def tI:=@Int.one_mul
def tJ:=@List.flatten_append
def tK:=@List.filterMap_cons
def tL:=@PySem.codeAny_builtin
def tM:=@Classical.byContradiction
def tN:=@Nat.not_lt_zero
def tO:=@List.mem_or_eq_of_mem_set
def tP:=@PySem.wpAny_execs_nil
def tQ:=@List.drop_eq_getElem_cons
def tR:=@Int.fmod_lt_of_pos
def tS:=@of_decide_eq_false
def tU:=@Int.fdiv_one
def tV:=@PySem.SeqAt.Reads.unique
def tW:=@List.getElem?_take_of_lt
def tX:=@List.mem_of_mem_eraseIdx
def tY:=@PySem.W.callWith_K
def tZ:=@List.getElem?_drop
def sD:=@List.Perm.eq_of_pairwise
def sE:=@PySem.Obj.data_mapFields
def sF:=@Nat.succ_mul
def sG:=@List.nodup_nil
def sH:=@List.getElem?_replicate
def sI:=@List.any_eq_false
def sJ:=@Int.natAbs_add_le
def sK:=@PySem.wpAny_pyIter_list
def sL:=@List.drop_sublist
def sQ:=@List.map_id
def sT:=@List.drop_eq_nil_of_le
def sU:=@List.getElem?_set_self
def sV:=@PyProof.Rows.subscriptTail_builtinR
def sW:=@Nat.add_assoc
def sZ:=@List.reverse_nil
def rA:=@List.Perm.append_left
def rB:=@List.getElem?_reverse
def rC:=@Int.zero_add
def rD:=@PySem.codeAny_mono
def rE:=@Nat.min_self
def rF:=@List.of_mem_zip
def rG:=@PySem.F.slot_zip_next
def rH:=@List.length_eraseIdx
def rJ:=@List.getElem?_zipIdx
def rK:=@List.nodup_cons
def rL:=@Nat.ne_of_gt
def rM:=@PySem.wpAny_updateSeq_pair
def rN:=@Nat.le_of_eq
def rO:=@Nat.succ.inj
def rP:=@PySem.Calls.evalArgs_plain
def rQ:=@List.mem_of_mem_take
def rR:=@PySem.W.plainGet_of
def rS:=@PyProof.Rows.wpS_lift
def rT:=@PySem.wpAny_setField
def rV:=@PySem.Paired.snoc
def rW:=@PySem.wpAny_tupleItemsOf
def rX:=@PyProof.Rows.assignInOrder_cons
def rY:=@List.zip_cons_cons
def rZ:=@Array.size_extract
def qB:=@PySem.plainId_quiet
def qC:=@List.take_add
def qD:=@PySem.wpAny_onRaise
def qE:=@PySem.IntMulOk.of_right
def qF:=@PySem.wpAny_dictEntries
def qG:=@Nat.lt_succ_of_lt
def qH:=@Nat.le_of_succ_le
def qI:=@List.reverse_perm
def qJ:=@List.ext_getElem?
def qK:=@PySem.wpAny_pyHash_int
def qL:=@PySem.W.Looks.ld
def qM:=@Nat.mul_lt_mul''
def qN:=@Nat.le_add_right
def qO:=@Nat.mul_comm
def qP:=@Bool.eq_iff_iff
def qQ:=@Int.mul_dvd_mul
def qR:=@PySem.pushCells_keeps
def qT:=@PySem.wpAny_dictEpoch
def qU:=@Nat.log2_lt
def qV:=@List.Perm.refl
def qW:=@Int.mul_le_mul
def qX:=@List.drop_drop
def qZ:=@PySem.isSubtype_stop
def pC:=@PySem.wpAny_call
def pE:=@Nat.pow_succ
def pF:=@Nat.add_comm
def pG:=@Int.mul_zero
def pH:=@PySem.seqIndex_neg
def pI:=@Int.gcd_comm
def pJ:=@Nat.le_succ
def pK:=@Int.neg_mul
def pL:=@Int.dvd_add
def pM:=@Int.dvd_sub
def pN:=@decide_eq_decide
def pO:=@List.mem_range
def pQ:=@dif_pos
def pR:=@List.pairwise_iff_getElem
def pS:=@List.mem_map
def pU:=@beq_iff_eq
def pV:=@beq_eq_false_iff_ne
def pW:=@List.pairwise_cons
def pY:=@List.mem_singleton
def pZ:=@List.pairwise_map
def oA:=@List.mem_append
def oB:=@Int.dvd_neg
def oC:=@List.mem_flatMap
def oE:=@List.pairwise_append
def oF:=@List.getElem?_eq_some_iff
def oG:=@Option.map_eq_some_iff
def oH:=@List.mem_reverse
def oI:=@List.not_lt
def oJ:=@List.mem_flatten
namespace L2
open PySem PySem.Spec PyProof.Rows
open PySem.W (Frag)
abbrev Key:=Sum Int Str
def bV:Key->Value->Bool
 |.inl k,v=>Value.isInt k v
 |.inr x,v=>Value.isStrOf x v
def keyH(w:World):Key->Int
 |.inl k=>hashInt k
 |.inr x=>hashStr w x
theorem iS:∀{k:Key}{v:Value},bV k v=true->(∃i t,k=Sum.inl i/\v=Value.int i t)\/(∃x t,k=Sum.inr x/\v=Value.str x t)
 |.inl i,v,h=>by
  obtain⟨t,e⟩:=Value.isInt_shape (k:=i) (v:=v) h;exact .inl ⟨i,t,rfl,e⟩
 |.inr x,v,h=>by
  obtain⟨t,e⟩:=Value.isStrOf_shape (x:=x) (v:=v) h;exact .inr ⟨x,t,rfl,e⟩
theorem Md(i:Int)(t:Tok):bV (.inl i) (.int i t)=true:=by simp[bV,Value.isInt]
theorem Mc(a b:Int):decide ((Sum.inl a:Key)=Sum.inl b)=(a == b):=by
 by_cases e:a=b
 ·subst e;simp
 ·have h:¬ (Sum.inl a:Key)=Sum.inl b:=λq=>e (Sum.inl.inj q);rw[zN h];exact(pV.mpr e).symm
theorem Mb(a b:Str):decide ((Sum.inr a:Key)=Sum.inr b)=decide (a=b):=by
 by_cases e:a=b
 ·subst e;simp
 ·have h:¬ (Sum.inr a:Key)=Sum.inr b:=λq=>e (Sum.inr.inj q);rw[zN h,zN e]
theorem Ma(a:Int)(b:Str):decide ((Sum.inl a:Key)=Sum.inr b)=false:=zN (λq=>nomatch q)
theorem Nz(a:Str)(b:Int):decide ((Sum.inr a:Key)=Sum.inl b)=false:=zN (λq=>nomatch q)
def Bn(prog:Program)(w:World):PySem.KeyKind prog w Key where
 is:=bV
 hash:=keyH w
 inj:=λv a b ha hb=>by
  rcases iS ha with⟨i,t,rfl,rfl⟩|⟨x,t,rfl,rfl⟩
  ·rcases iS hb with⟨j,u,rfl,e⟩|⟨y,u,rfl,e⟩
   ·injection e with e1 _;rw[e1]
   ·exact nomatch e
  ·rcases iS hb with⟨j,u,rfl,e⟩|⟨y,u,rfl,e⟩
   ·exact nomatch e
   ·injection e with e1 _;rw[e1]
 byValue:=λk v h=>by
  rcases iS h with⟨i,t,rfl,rfl⟩|⟨x,t,rfl,rfl⟩ <;> rfl
 pyHash:=λhv h=>by
  rcases iS hv with⟨i,t,rfl,rfl⟩|⟨x,t,rfl,rfl⟩
  ·exact qK h
  ·exact wpAny_pyHash_str h
 eqBool:=λhu hv h=>by
  rcases iS hu with⟨i,t,rfl,rfl⟩|⟨x,t,rfl,rfl⟩
  ·rcases iS hv with⟨j,u,rfl,rfl⟩|⟨y,u,rfl,rfl⟩
   ·rw[Mc]at h;exact wpAny_eqBool_int h
   ·rw[Ma]at h;exact SeqAt.EqAt.int_str i t y u _ _ _ _ h
  ·rcases iS hv with⟨j,u,rfl,rfl⟩|⟨y,u,rfl,rfl⟩
   ·rw[Nz]at h;exact SeqAt.EqAt.str_int x t j u _ _ _ _ h
   ·rw[Mb]at h;exact wpAny_eqBool_str h
 «strs»:=λk x t v h=>by
  rcases iS h with⟨i,u,rfl,e⟩|⟨y,u,rfl,e⟩
  ·exact nomatch e
  ·injection e with e1 _;subst e1;cases v <;> rfl
theorem Fm(prog:Program)(w:World)(i:Int)(t:Tok):(Bn prog w).is (.inl i) (.int i t)=true:=Md i t
inductive V where
 |non|bl(b:Bool)|int(i:Int)|str(x:Str)|byt(b:Array UInt8)|flt(b:UInt64)|ref(a:Addr)|ty(n:String)
 deriving DecidableEq
def RelV:V->Value->Prop
 |.non,u=>u=Value.none
 |.bl b,u=>u=Value.bool b
 |.int i,u=>∃t,u=Value.int i t
 |.str x,u=>∃t,u=Value.str x t
 |.byt b,u=>∃t,u=Value.bytes b t
 |.flt b,u=>∃t,u=Value.float b t
 |.ref a,u=>u=Value.ref a
 |.ty n,u=>u=Value.type n
abbrev Vals:List V->LW->Prop:=Paired RelV
theorem Vals.length{xs:List V}{us:LW}(r:Vals xs us):xs.length=us.length:=Paired.length r
theorem Vals.get:∀{xs:List V}{us:LW}{i:Nat}{x:V},Vals xs us->xs[i]?=some x->∃u,us[i]?=some u/\RelV x u
 |_,_,_,_,.nil,e=>by simp at e
 |_,_,0,_,.cons r _,e=>by simp at e;subst e;exact⟨_,rfl,r⟩
 |_,_,i+1,x,.cons _ a,e=>by
  obtain⟨u,c,b⟩:=Vals.get (i:=i) (x:=x) a (by simpa using e);exact⟨u,by simpa using c,b⟩
theorem Vals.set{x:V}{u:Value}(r:RelV x u):∀{xs:List V}{us:LW}(i:Nat),Vals xs us->Vals (xs.set i x) (us.set i u)
 |_,_,_,.nil=>.nil
 |_,_,0,.cons _ t=>.cons r t
 |_,_,i+1,.cons q t=>.cons q (Vals.set r i t)
theorem Vals.append:∀{xs ys:List V}{us a:LW},Vals xs us->Vals ys a->Vals (xs++ys) (us++a)
 |_,_,_,_,.nil,s=>s
 |_,_,_,_,.cons r b,s=>.cons r (Vals.append b s)
theorem Vals.take:∀{xs:List V}{us:LW}(n:Nat),Vals xs us->Vals (xs.take n) (us.take n)
 |_,_,0,_=>.nil
 |_,_,_+1,.nil=>.nil
 |_,_,n+1,.cons r t=>.cons r (Vals.take n t)
theorem Vals.drop:∀{xs:List V}{us:LW}(n:Nat),Vals xs us->Vals (xs.drop n) (us.drop n)
 |_,_,0,r=>r
 |_,_,_+1,.nil=>.nil
 |_,_,n+1,.cons _ t=>Vals.drop n t
theorem Vals.none_of:∀{xs:List V}{us:LW}{i:Nat},Vals xs us->xs[i]?=none->us[i]?=none:=λ{xs us i}r e=>by
 have b:=r.length;have a:xs.length<=i:=List.getElem?_eq_none_iff.mp e;exact List.getElem?_eq_none_iff.mpr ⋯
def RelO:Option V->Option Value->Prop
 |some v,some u=>RelV v u
 |none,none=>True
 |_,_=>False
def KV{κ:Type}:List (κ×V)->List (κ×Value)->Prop:=Paired λ(p:κ×V)(q:κ×Value)=>p.1=q.1/\RelV p.2 q.2
def kV:Key->V
 |.inl i=>.int i
 |.inr x=>.str x
inductive HO where
  |lst(xs:List V)
  |tup(xs:List V)
  |dK(kvs:List (Key×V))|dT(kvs:List (List Key×V))
  |set(S:Int->Bool)(n:Nat)
  |ins(C dx:Addr)(fs:List (Str×V))
  |own(x:Addr)
  |xd(fs:List (Str×V))
  |met(f x:Addr)
  |rng(lo hi:Int)
  |frz(o:Obj)(u:HO)
  |tbl(ps:Array Value)
  |ext(φ:Heap->Prop)
abbrev Hp:=Addr->Option HO
def upd(H:Hp)(a:Addr)(o:HO):Hp:=λb=>if b=a then some o else H b
theorem oQ{H:Hp}{a:Addr}{o:HO}:upd H a o a=some o:=by unfold upd;rw[zG rfl]
theorem nC{H:Hp}{a b:Addr}{o:HO}(h:b≠a):upd H a o b=H b:=by unfold upd;rw[zF h]
theorem mE{H:Hp}{a b:Addr}{o:HO}(h:H a=some o)(h':H b=none):a≠b:=by
 intro e;subst e;rw[h]at h';cases h'
section
variable (P:Program) (w:World)
def mB(H:Hp)(h:Heap)(a:Addr):HO->Prop
 |.lst xs=>xs.length<=sizeLine/\∃(its:LW)(n:Nat),Vals xs its/\h.get? a=some {cls:=.type "list",data:=.seq its.toArray n}
 |.tup xs=>xs.length<=sizeLine/\∃its:LW,Vals xs its/\IsTup h a its.toArray
 |.dK kvs=>kvs.length<=sizeLine/\(a == sysModules)=false/\∃vs,KV kvs vs/\h.DictOf (Bn P w) a vs
 | .dT kvs=>kvs.length<=sizeLine/\(a == sysModules)=false/\∃xs:List (List Key×Addr×Value),
   Paired (λ(p:List Key×V)(q:List Key×Addr×Value)=>p.1=q.1/\H q.2.1=some (.tup (p.1.map kV))/\RelV p.2 q.2.2) kvs xs /\
   ∃o es ep,h.get? a=some o/\o.ExactDict/\o.data=.dict es ep/\es.toList=xs.map (entryOfKey (tupleKind (Bn P w)))/\(xs.map (·.1)).Nodup
 |.set S n=>h.SetOf (intKind P w) a S n
 | .ins C dx fs=>H dx=some (.own a)/\fs.length<=1000/\dx≠a/\h.get? a=some (PySem.W.instObj C dx) /\
   ∃mA,h.Ns1 dx mA/\(∀f,RelO (fs.lookup f) (mA f))/\PySem.Within mA (fs.map (·.1))
 |.own _=>∃o,h.get? a=some o
 |.xd fs=>∃mA,h.Ns1 a mA/\∀f,RelO (fs.lookup f) (mA f)
 |.rng lo hi=>∃t u v,h.get? a=some {cls:=.type "range",data:=.fields #[.int lo t,.int hi u,.int 1 v]}
 |.frz o u=>h.get? a=some o/\mB H h a u
 |.tbl ps=>h.get? a=some {cls:=.none,data:=.fields ps}
 |.met f x=>h.get? a=some (PySem.W.methodObj (.ref f) (.ref x))
 |.ext φ=>φ h/\(∃o,h.get? a=some o)/\∀h1 h2:Heap,φ h1->(∀o,h1.get? a=some o->h2.get? a=some o)->φ h2
def HOk(H:Hp)(h:Heap):Prop:=∀a o,H a=some o->mB P w H h a o
end
section
variable {P:Program} {w:World} {H H':Hp} {h h':Heap} {a:Addr} {o:HO}
theorem mB.lt(x:mB P w H h a o):a<h.objs.size:=by
 cases o with
 |lst xs=>obtain⟨_,_,_,_,e⟩:=x;exact zP e
 |tup xs=>obtain⟨_,_,_,p⟩:=x;exact p.lt
 |dK kvs=>obtain⟨_,_,_,_,o,_,_,e,_⟩:=x;exact zP e
 |dT kvs=>obtain⟨_,_,_,_,o,_,_,e,_⟩:=x;exact zP e
 |set b n=>obtain⟨o,_,_,_,e,_⟩:=x;exact zP e
 |ins C c fs=>obtain⟨_,_,_,e,_⟩:=x;exact zP e
 |own y=>obtain⟨_,e⟩:=x;exact zP e
 |xd fs=>obtain⟨_,⟨_,_,_,e,_⟩,_⟩:=x;exact zP e
 |rng lo hi=>obtain⟨_,_,_,e⟩:=x;exact zP e
 |frz g u=>obtain⟨e,_⟩:=x;exact zP e
 |tbl ps=>exact zP (show h.get? a=some _ from x)
 |met f y=>exact zP (show h.get? a=some _ from x)
 |ext d=>obtain⟨_,⟨_,e⟩,_⟩:=x;exact zP e
theorem Paired.mapP{e c:Type}{F G:e->c->Prop}:∀{l₁:List e}{d:List c},Paired F l₁ d->(∀a b,F a b->G a b)->Paired G l₁ d
 |_,_,.nil,_=>.nil
 |_,_,.cons r g,f=>.cons (f _ _ r) (Paired.mapP g f)
theorem mB.stay(x:mB P w H h a o)(k:∀b u,(b=a\/H b=some (.own a))->h.get? b=some u->h'.get? b=some u)
  (m:∀b,H b=some (.own a)->H' b=some (.own a))(G:∀b xs,H b=some (.tup xs)->H' b=some (.tup xs)):mB P w H' h' a o:=by
 induction o with
 |lst xs=>obtain⟨z,its,n,r,e⟩:=x;exact⟨z,its,n,r,k _ _ (.inl rfl) e⟩
 |tup xs=>obtain⟨z,its,r,g,e,c⟩:=x;exact⟨z,its,r,g,k _ _ (.inl rfl) e,c⟩
 |dK kvs=>obtain⟨z,y,vs,r,g,es,ep,e,c⟩:=x;exact⟨z,y,vs,r,g,es,ep,k _ _ (.inl rfl) e,c⟩
 |dT kvs =>
  obtain⟨z,y,xs,r,g,es,ep,e,c⟩:=x;exact⟨z,y,xs,Paired.mapP r λp q z=>⟨z.1,G _ _ z.2.1,z.2.2⟩,g,es,ep,k _ _ (.inl rfl) e,c⟩
 |set J n=>obtain⟨g,es,ep,j,e,c⟩:=x;exact⟨g,es,ep,j,k _ _ (.inl rfl) e,c⟩
 |ins C I fs =>
  obtain⟨d,z,t,e,l,⟨i,es,ep,F,c⟩,r⟩:=x;exact⟨m _ d,z,t,k _ _ (.inl rfl) e,l,⟨i,es,ep,k _ _ (.inr d) F,c⟩,r⟩
 |own y=>obtain⟨g,e⟩:=x;exact⟨g,k _ _ (.inl rfl) e⟩
 |xd fs=>obtain⟨l,⟨i,es,ep,e,c⟩,r⟩:=x;exact⟨l,⟨i,es,ep,k _ _ (.inl rfl) e,c⟩,r⟩
 |rng lo hi=>obtain⟨j,u,v,e⟩:=x;exact⟨j,u,v,k _ _ (.inl rfl) e⟩
 |frz g u D=>obtain⟨e,q⟩:=x;exact⟨k _ _ (.inl rfl) e,D q⟩
 |tbl ps =>
  have e:h.get? a=some {cls:=.none,data:=.fields ps}:=x;show h'.get? a=some {cls:=.none,data:=.fields ps};exact k a _ (.inl rfl) e
 |met f y =>
  have e:h.get? a=some (PySem.W.methodObj (.ref f) (.ref y)):=x;show h'.get? a=some (PySem.W.methodObj (.ref f) (.ref y));exact k a _ (.inl rfl) e
 |ext K=>obtain⟨p,⟨o,e⟩,st⟩:=x;exact⟨st _ _ p λo q=>k _ _ (.inl rfl) q,⟨o,k _ _ (.inl rfl) e⟩,st⟩
theorem HOk.lt(x:HOk P w H h)(e:H a=some o):a<h.objs.size:=(x a o e).lt
theorem HOk.fresh(x:HOk P w H h)(e:h.objs.size<=a):H a=none:=by
 cases q:H a with
 |none=>rfl
 |some u=>exact absurd (zI (x.lt q) e) (xA _)
theorem HOk.kept(x:HOk P w H h)(k:∀b u,h.get? b=some u->h'.get? b=some u):HOk P w H h':=λa o e =>
 (x a o e).stay (λb u _ q=>k b u q) (λ_ q=>q) λ_ _ q=>q
theorem HOk.laid(x:HOk P w H h)(k:∀b u,h.get? b=some u->h'.get? b=some u)(g:h.objs.size<=a)(new:mB P w (upd H a o) h' a o):HOk P w (upd H a o) h':=λb u e=>by
 have f:=x.fresh g
 by_cases d:b=a
 ·subst d;rw[oQ]at e;cases e;exact new
 ·rw[nC d]at e;exact(x b u e).stay (λc v _ q=>k c v q) (λc q=>by rw[nC (mE q f)];exact q) λc xs q=>by rw[nC (mE q f)];exact q
end
def Rd(H:Hp)(a:Addr)(u:HO):Prop:=H a=some u\/∃o,H a=some (.frz o u)
theorem Rd.ok{P:Program}{w:World}{H:Hp}{h:Heap}{a:Addr}{u:HO}(r:Rd H a u)(x:HOk P w H h):mB P w H h a u:=by
 rcases r with r|⟨o,r⟩
 ·exact x a u r
 ·obtain⟨_,q⟩:=x a _ r;exact q
def Mut:Option HO->Prop
 |some (.lst _)=>True
 |some (.dK _)=>True
 |some (.dT _)=>True
 |some (.set _ _)=>True
 |some (.ins _ _ _)=>True
 |some (.ext _)=>True
 |_=>False
section
variable {P:Program} {w:World} {H:Hp} {h h':Heap} {x e:Addr} {o':HO}
theorem HOk.write(ok:HOk P w H h)(f:Mut (H x))(i:e=x\/H e=some (.own x))(k:∀b u,b≠e->h.get? b=some u->h'.get? b=some u)(m:∃u,h'.get? e=some u)
  (new:mB P w (upd H x o') h' x o'):HOk P w (upd H x o') h':=λb u q=>by
 have l:∀c y,H c=some (.own y)->c≠x:=λc y r z=>by subst z;rw[r]at f;exact f
 have n:∀c xs,H c=some (.tup xs)->c≠x:=λc xs r z=>by subst z;rw[r]at f;exact f
 by_cases a:b=x
 ·subst a;rw[oQ]at q;cases q;exact new
 ·rw[nC a]at q
  by_cases d:b=e
  ·have j:H b=some (.own x):=by
    rcases i with z|z
    ·exact absurd (d.trans z) a
    ·rw[d];exact z
   rw[q]at j;cases j;obtain⟨v,o⟩:=m;exact⟨v,by rw[d];exact o⟩
  ·refine(ok b u q).stay (λc v g r=>k c v ?_ r) (λc r=>by rw[nC (l c b r)];exact r) λc xs r=>by rw[nC (n c xs r)];exact r
   rcases g with rfl|g
   ·exact d
   ·rintro rfl;rcases i with z|z
    ·exact l c b g z
    ·rw[g]at z;cases z;exact a rfl
end
structure Un(fs ex:LA)(H H':Hp)(h h':Heap):Prop where
 keep:∀b o,h.get? b=some o->H b=none->b∉fs->b∉ex->h'.get? b=some o
 slot:∀b o,h.get? b=some o->H b=none->b∈fs->b∉ex->∃sl,h'.get? b=some {o with slots:=sl}
 free:∀b o,h.get? b=some o->H b=none->b∉ex->H' b=none
 there:∀b o,h.get? b=some o->b∉ex->∃o',h'.get? b=some o'
 tups:∀b xs,H b=some (.tup xs)->H' b=some (.tup xs)
 frzs:∀b o u,H b=some (.frz o u)->H' b=some (.frz o u)
 tbls:∀b ps,H b=some (.tbl ps)->∃more,H' b=some (.tbl (ps++more))
section
variable {fs fs' ex ex':LA} {H H1 H2:Hp} {h h1 h2 h':Heap} {a x e:Addr} {o:HO}
theorem Un.any(u:Un fs ex H H1 h h1){b:Addr}{c:Obj}(q:h.get? b=some c)(n:H b=none)(f:b∉ex):∃g,h1.get? b=some {c with slots:=g}:=by
 by_cases d:b∈fs
 ·exact u.slot b c q n d f
 ·exact⟨c.slots,u.keep b c q n d f⟩
theorem Un.trans(a:Un fs ex H H1 h h1)(b:Un fs ex H1 H2 h1 h2):Un fs ex H H2 h h2 where
 keep:=λc f q n g d=>b.keep c f (a.keep c f q n g d) (a.free c f q n d) g d
 slot:=λc f q n g d=>by
  obtain⟨p,e1⟩:=a.slot c f q n g d;obtain⟨m,i⟩:=b.slot c _ e1 (a.free c f q n d) g d;exact⟨m,i⟩
 free:=λc f q n d=>by
  obtain⟨j,e1⟩:=a.there c f q d;exact b.free c j e1 (a.free c f q n d) d
 there:=λc f q d=>by
  obtain⟨j,e1⟩:=a.there c f q d;exact b.there c j e1 d
 tups:=λc xs q=>b.tups c xs (a.tups c xs q)
 frzs:=λc f xs q=>b.frzs c f xs (a.frzs c f xs q)
 tbls:=λc ps q=>by
  obtain⟨k,e1⟩:=a.tbls c ps q;obtain⟨l,i⟩:=b.tbls c _ e1;exact⟨k++l,by rw[i,Array.append_assoc]⟩
theorem Un.kept(k:∀b u,h.get? b=some u->h'.get? b=some u):Un fs ex H H h h':=
 ⟨λb c q _ _ _=>k b c q,λb c q _ _ _=>⟨c.slots,k b c q⟩,λ_ _ _ n _=>n,λb c q _=>⟨c,k b c q⟩,λ_ _ q=>q,λ_ _ _ q=>q,λ_ ps q=>⟨#[],by rw[q];simp⟩⟩
theorem Un.refl:Un fs ex H H h h:=Un.kept λ_ _ q=>q
theorem Un.laid(k:∀b u,h.get? b=some u->h'.get? b=some u)(d:h.objs.size<=a)(c:H a=none):Un fs ex H (upd H a o) h h' where
 keep:=λb u q _ _ _=>k b u q
 slot:=λb u q _ _ _=>⟨u.slots,k b u q⟩
 free:=λb u q n _=>by rw[nC (zY (zI (zP q) d))];exact n
 there:=λb u q _=>⟨u,k b u q⟩
 tups:=λb xs q=>by rw[nC (mE q c)];exact q
 frzs:=λb u xs q=>by rw[nC (mE q c)];exact q
 tbls:=λb ps q=>⟨#[],by rw[nC (mE q c),q];simp⟩
theorem Un.write(c:Mut (H x))(l:e=x\/H e=some (.own x))(k:∀b u,b≠e->h.get? b=some u->h'.get? b=some u)(j:∃u,h'.get? e=some u):Un fs ex H (upd H x o) h h':=by
 have i:∀b,H b=none->b≠x:=λb n z=>by subst z;rw[n]at c;exact c
 have f:∀b,H b=none->b≠e:=λb n z=>by
  subst z;rcases l with r|r
  ·exact i b n r
  ·rw[n]at r;cases r
 have d:∀b u,H b=some u->¬ Mut (some u)->b≠x:=λb u q nm z=>by subst z;rw[q]at c;exact nm c
 refine⟨λb u q n _ _=>k b u (f b n) q,λb u q n _ _=>⟨u.slots,k b u (f b n) q⟩,λb u q n _=>by rw[nC (i b n)];exact n,λb u q _=>?_,
  λb xs q=>by rw[nC (d b _ q λz=>z)];exact q,λb u xs q=>by rw[nC (d b _ q λz=>z)];exact q,λb ps q=>⟨#[],by rw[nC (d b _ q λz=>z),q];simp⟩⟩
 by_cases g:b=e
 ·subst g;exact j
 ·exact⟨u,k b u g q⟩
end
def trk(h:Heap)(H:Hp):LA:=(List.range h.objs.size).filter λa=>(H a).isSome
def hidT(h:Heap)(H:Hp):Heap:=PySem.W.hideAll h (trk h H)
theorem Ny(h:Heap)(H:Hp):(hidT h H).objs.size=h.objs.size:=PySem.W.hideAll_size _ _
theorem Nx{h:Heap}{H:Hp}{b:Addr}{o:Obj}(e:h.get? b=some o)(n:H b=none):(hidT h H).get? b=some o:=
 PySem.W.hideAll_get _ e λa=>by
  have q:(H b).isSome=true:=(List.mem_filter.mp a).2;rw[n]at q;simp at q
theorem Nw{h:Heap}{H:Hp}{b:Addr}{o:Obj}(e:(hidT h H).get? b=some o):h.get? b=some o/\H b=none:=by
 have a:h.get? b=some o:=PySem.W.of_hideAll (trk h H) e;refine⟨a,?_⟩;cases q:H b with
 |none=>rfl
 |some x =>
  have c:b∈trk h H:=List.mem_filter.mpr ⟨pO.mpr (zP a),by simp[q]⟩;have z:(hidT h H).get? b=none:=PySem.W.hideAll_none (trk h H) c;rw[z]at e;cases e
def Nv(g h:Heap)(L:Addr):PN:=(List.range h.objs.size).filterMap λa=>if a=L\/(g.get? a).isSome=true then none else(h.get? a).map λo=>(a,o)
def rest(g h:Heap)(L d:Addr):PN:=(Nv g h L).filter λp=>decide (p.1≠d)
structure Mod(K:Frag)(mg:MT)(base:Heap):Prop where
 kin:K.In base
 glob:base.Ns mainGlobals mg
 blt:∃mb,base.Ns builtinsNs mb/\∀x:Str,x≠"__name__" -> mb x=bootBuiltins x
 nolimit:base.NoLimit
structure Cx where
 prog:Program
 w:World
 K:Frag
 mg:MT
 base:Heap
 A:Around
 N:List Str
 s₀:Shared
 H₀:Hp
 env:Env
 outer:List Env
 stack:List Env
 ex:LA
 fn:Str->Bool
 calm:Bool
 pn:PN
 xe:VP
def frs(l:List Env):LA:=l.filterMap (·.frame)
abbrev Cx.fs(X:Cx):LA:=frs X.outer
def Vis(sc:Scope)(x:Str):Prop:=sc.names.lookup x=some .local\/sc.names.lookup x=some .cell\/sc.names.lookup x=some .free
def Loc(sc:Scope)(x:Str):Prop:=sc.names.lookup x=some .local\/sc.names.lookup x=some .cell
def Look(env:Env)(h:Heap)(m:MT)(x:Str)(u:Value):Prop:=
 (env.kindOf x=some .local/\m x=some u)\/((env.kindOf x=some .cell\/env.kindOf x=some .free)/\∃c,env.cells.lookup x=some c/\h.IsCell c (some u))
structure Cx.Ok(X:Cx):Prop where
 mod:Mod X.K X.mg X.base
 kind:X.env.scope.kind=.function
 glob:X.env.globals=mainGlobals
 blt:X.env.builtins=builtinsNs
 above:X.s₀.heap.objs.size<=X.env.locals
 inj:∀x y c,X.env.cells.lookup x=some c->X.env.cells.lookup y=some c->x=y
 has:∀x,(X.env.kindOf x=some .cell\/X.env.kindOf x=some .free)->∃c,X.env.cells.lookup x=some c
 cab:∀x c,X.fn x=true->X.env.cells.lookup x=some c->X.s₀.heap.objs.size<=c
 hd:X.calm=true->X.A.handled=none
 frames:X.A.frames=some X.stack
 stk:X.stack=X.outer\/(X.stack=X.env:: X.outer/\X.env.frame=some X.env.locals)
 exf:∀b∈X.ex,b≠X.env.locals/\∀x c,X.env.cells.lookup x=some c->c≠b
 bs:∀b o,X.base.get? b=some o->X.s₀.heap.get? b=some o/\X.H₀ b=none
 bsz:X.base.objs.size<=X.s₀.heap.objs.size
 noex:∀b o,X.base.get? b=some o->b∉X.ex
 exfs:∀b∈X.ex,b∉X.fs
 funs:X.s₀.heap.FunFrames X.base X.outer
 frf:∀b∈X.fs,X.H₀ b=none
structure Inv(X:Cx)(pins:PN)(σ:List (Option V))(H:Hp)(s:Shared):Prop where
 ok:X.Ok
 os:s.os=X.s₀.os
 bare:AllBare s.gens
 base:Un X.fs X.ex X.H₀ H X.s₀.heap s.heap
 loc:∃m,s.heap.Ns X.env.locals m/\∀(i:Nat)(x:Str)(v:V),X.N[i]?=some x->σ[i]?=some (some v)->Vis X.env.scope x->∃u,RelV v u/\Look X.env s.heap m x u
 cell:∀x c,X.env.cells.lookup x=some c->∃v,s.heap.IsCell c v
 free:H X.env.locals=none
 freeC:∀x c,X.env.cells.lookup x=some c->H c=none
 pin:∀p∈X.pn++pins,s.heap.get? p.1=some p.2/\H p.1=none/\p.1≠X.env.locals/\p.1∉X.fs/\∀v,p.2.data≠.cell v
 hok:HOk X.prog X.w H s.heap
 len:σ.length=X.N.length
section
variable {X:Cx} {pins:PN} {σ:List (Option V)} {H H':Hp} {s:Shared} {h':Heap}
theorem Cx.Ok.nofr(ok:X.Ok){b:Addr}{o:Obj}(e:X.base.get? b=some o):b∉X.fs:=λa=>by
 have:=(ok.funs.mem a).1;rw[e]at this;cases this
theorem Inv.bs(I:Inv X pins σ H s):∀b o,X.base.get? b=some o->s.heap.get? b=some o/\H b=none:=λb o e =>
 ⟨I.base.keep b o (I.ok.bs b o e).1 (I.ok.bs b o e).2 (I.ok.nofr e) (I.ok.noex b o e),I.base.free b o (I.ok.bs b o e).1 (I.ok.bs b o e).2 (I.ok.noex b o e)⟩
theorem Inv.bk(I:Inv X pins σ H s):∀b o,X.base.get? b=some o->s.heap.get? b=some o:=λb o e=>(I.bs b o e).1
theorem Inv.mod(I:Inv X pins σ H s):Mod X.K X.mg X.base:=I.ok.mod
theorem Inv.kIn(I:Inv X pins σ H s):X.K.In s.heap:=I.ok.mod.kin.keeps I.bk
theorem Inv.lt(I:Inv X pins σ H s):X.env.locals<s.heap.objs.size:=let ⟨_,a,_⟩:=I.loc;a.lt
theorem Inv.sz(I:Inv X pins σ H s):X.s₀.heap.objs.size<=s.heap.objs.size:=yH I.ok.above (wA I.lt)
theorem Inv.nofs(I:Inv X pins σ H s){a:Addr}(h:s.heap.objs.size<=a):a∉X.fs:=λb=>by
 obtain⟨_,o,c,_⟩:=I.ok.funs.mem b;exact absurd (zI (zP c) (yH I.sz h)) (xA _)
theorem Inv.cne(I:Inv X pins σ H s):∀x c,X.env.cells.lookup x=some c->c≠X.env.locals:=λx c e z=>by
 obtain⟨v,o,a,b⟩:=I.cell x c e;obtain⟨m,⟨g,es,ep,d,f,_⟩,_⟩:=I.loc;rw[z,d]at a;cases a;rw[f]at b;cases b
theorem Inv.funs(I:Inv X pins σ H s):s.heap.FunFrames X.base X.outer:=by
 have all:∀(l:List Env),(∀b∈frs l,b∈X.fs)->X.s₀.heap.FunFrames X.base l->s.heap.FunFrames X.base l:=by
  intro l
  induction l with
  |nil=>intro _ _;trivial
  |cons env r j =>
   intro f hl;obtain⟨i,⟨L,o,d,k,g,m⟩,hr⟩:=hl;have c:L∈X.fs:=f L (by unfold frs;rw[tK,d];exact zU);obtain⟨n,e⟩:=I.base.slot L o g (I.ok.frf L c) c λz=>I.ok.exfs L z c;exact⟨i,⟨L,_,d,k,e,m⟩,j (λb a=>f b (by unfold frs;rw[tK,d];exact zM _ a)) hr⟩
 exact all X.outer (λ_ a=>a) I.ok.funs
theorem Inv.stack(I:Inv X pins σ H s):s.heap.FunFrames X.base X.stack:=by
 rcases I.ok.stk with e|⟨e,a⟩
 ·rw[e];exact I.funs
 ·rw[e];obtain⟨m,b,_⟩:=I.loc;refine .cons (by rw[I.ok.kind];decide) a b ?_ I.funs;exact Heap.get?_none_of_le (yH I.ok.bsz I.ok.above)
theorem Inv.stkSub(I:Inv X pins σ H s):∀b∈frs X.stack,b∈X.env.locals:: X.fs:=λb a=>by
 rcases I.ok.stk with e|⟨e,c⟩
 ·rw[e]at a;exact zM _ a
 ·rw[e]at a;unfold frs at a;rw[tK,c]at a;exact a
theorem Inv.stkFree(I:Inv X pins σ H s):∀b∈frs X.stack,H b=none:=λb a=>by
 rcases xE.mp (I.stkSub b a) with e|a
 ·rw[e];exact I.free
 ·obtain⟨_,o,c,_⟩:=I.ok.funs.mem a;exact I.base.free b o c (I.ok.frf b a) λz=>I.ok.exfs b z a
theorem Inv.step{g':Array GenState}{t':Nat}{d':Drawn}{ch:LA}(I:Inv X pins σ H s)
  (w:∀b∈ch,(b∈X.ex\/X.s₀.heap.objs.size<=b)/\b≠X.env.locals/\(∀x c,X.env.cells.lookup x=some c->c≠b)/\∀p∈X.pn++pins,p.1≠b)
  (G:∀b o,b≠X.env.locals->b∉X.fs->b∉ch->s.heap.get? b=some o->H b=none->h'.get? b=some o)
  (L:∀b o,b≠X.env.locals->b∈X.fs->b∉ch->s.heap.get? b=some o->H b=none->∃J,h'.get? b=some {o with slots:=J})(D:∀b o,b∉ch->s.heap.get? b=some o->H b=none->H' b=none)
  (there:∀b o,b∉ch->s.heap.get? b=some o->∃j,h'.get? b=some j)
  (a1:∀b xs,H b=some (.tup xs)->H' b=some (.tup xs))(Z:∀b o u,H b=some (.frz o u)->H' b=some (.frz o u))(a3:∀b ps,H b=some (.tbl ps)->∃more,H' b=some (.tbl (ps++more)))
  (ns:∀m,s.heap.Ns X.env.locals m->h'.Ns X.env.locals m)(U:HOk X.prog X.w H' h')(a2:AllBare g'):
  Inv X pins σ H' {s with heap:=h',gens:=g',drawn:=d',toks:=t'}:=by
 have P:∀b o,X.s₀.heap.get? b=some o->b≠X.env.locals:=λb o e=>zY (zI (zP e) I.ok.above);have C:∀b o,X.s₀.heap.get? b=some o->b∉X.ex->b∉ch:=λb o e a f=>by
  rcases(w b f).1 with z|z
  ·exact a z
  ·exact absurd (zI (zP e) z) (xA _)
 have R:∀x c,X.env.cells.lookup x=some c->∀v,s.heap.IsCell c v->h'.IsCell c v:=λx c e v⟨o,g,F⟩=>by
  have y:c∉ch:=λz=>(w c z).2.2.1 x c e rfl
  by_cases M:c∈X.fs
  ·obtain⟨J,q⟩:=L c o (I.cne x c e) M y g (I.freeC x c e);exact⟨_,q,F⟩
  ·exact⟨o,G c o (I.cne x c e) M y g (I.freeC x c e),F⟩
 refine⟨I.ok,I.os,a2,⟨λb o e n f a=>?_,λb o e n f a=>?_,λb o e n a=>?_,λb o e a=>?_,λb xs e=>a1 b xs (I.base.tups b xs e),λb o xs e=>Z b o xs (I.base.frzs b o xs e),λb ps e=>?_⟩,?_,λx c e=>?_,?_,λx c e=>?_,λp N=>?_,U,I.len⟩
 ·exact G b o (P b o e) f (C b o e a) (I.base.keep b o e n f a) (I.base.free b o e n a)
 ·obtain⟨J,e1⟩:=I.base.slot b o e n f a;obtain⟨Y,t⟩:=L b _ (P b o e) f (C b o e a) e1 (I.base.free b o e n a);exact⟨Y,t⟩
 ·obtain⟨j,e1⟩:=I.base.there b o e a;exact D b j (C b o e a) e1 (I.base.free b o e n a)
 ·obtain⟨j,e1⟩:=I.base.there b o e a;exact there b j (C b o e a) e1
 ·obtain⟨S,e1⟩:=I.base.tbls b ps e;obtain⟨W,t⟩:=a3 b _ e1;exact⟨S++W,by rw[t,Array.append_assoc]⟩
 ·obtain⟨m,a0,hl⟩:=I.loc;refine⟨m,ns m a0,λi x v e1 t T=>?_⟩;obtain⟨u,r,l⟩:=hl i x v e1 t T;refine⟨u,r,?_⟩;rcases l with l|⟨k,c,e,z⟩
  ·exact .inl l
  ·exact .inr ⟨k,c,e,R x c e _ z⟩
 ·obtain⟨v,z⟩:=I.cell x c e;exact⟨v,R x c e v z⟩
 ·obtain⟨m,⟨o,_,_,g,_⟩,_⟩:=I.loc;exact D _ o (λz=>(w _ z).2.1 rfl) g I.free
 ·obtain⟨v,o,g,F⟩:=I.cell x c e;exact D c o (λz=>(w c z).2.2.1 x c e rfl) g (I.freeC x c e)
 ·obtain⟨e,n,K,O,d⟩:=I.pin p N;have y:p.1∉ch:=λz=>(w p.1 z).2.2.2 p N rfl;exact⟨G p.1 p.2 K O y e n,D p.1 p.2 y e n,K,O,d⟩
theorem Inv.un{t':Nat}(I:Inv X pins σ H s)(u:Un X.fs [] H H' s.heap h')(j:HOk X.prog X.w H' h'):Inv X pins σ H' {s with heap:=h',toks:=t'}:=by
 obtain⟨m,⟨o,es,ep,c,r⟩,_⟩:=id I.loc;obtain⟨p,f⟩:=u.any c I.free (by simp);exact I.step (g':=s.gens) (d':=s.drawn) (ch:=[]) (λ_ z=>nomatch z) (λb o _ a _ e n=>u.keep b o e n a (by simp)) (λb o _ a _ e n=>u.slot b o e n a (by simp)) (λb o _ e n=>u.free b o e n (by simp)) (λb o _ e=>u.there b o e (by simp)) u.tups u.frzs u.tbls (λt k=>by
  obtain⟨q,g,i,d,l⟩:=k;rw[c]at d;cases d;exact⟨_,g,i,f,l⟩) j I.bare
theorem Inv.call{g':Array GenState}{t':Nat}{d':Drawn}{ch:LA}(I:Inv X pins σ H s)(u:Un (frs X.stack) ch H H' s.heap h')(t:HOk X.prog X.w H' h')(l:AllBare g')
  (i:∀b∈ch,(b∈X.ex\/X.s₀.heap.objs.size<=b)/\b≠X.env.locals/\(∀x c,X.env.cells.lookup x=some c->c≠b)/\∀p∈X.pn++pins,p.1≠b):
  Inv X pins σ H' {s with heap:=h',gens:=g',drawn:=d',toks:=t'}:=by
 obtain⟨m,⟨o,es,ep,f,r⟩,_⟩:=id I.loc;obtain⟨y,d⟩:=u.any f I.free λz=>(i _ z).2.1 rfl;exact I.step (ch:=ch) i (λb o d j a e n=>u.keep b o e n (λz=>(xE.mp (I.stkSub b z)).elim d j) a) (λb o _ _ a e n=>u.any e n a) (λb o a e n=>u.free b o e n a) (λb o a e=>u.there b o e a) u.tups u.frzs u.tbls (λD v=>by
  obtain⟨C,k,q,g,w⟩:=v;rw[f]at g;cases g;exact⟨_,k,q,d,w⟩) t l
theorem Inv.turned{t':Nat}{a:Addr}(I:Inv X pins σ H s)(k:∀b o,b≠a->s.heap.get? b=some o->h'.get? b=some o)(w:H a=none)(f:a≠X.env.locals)
  (t:a∈X.ex\/X.s₀.heap.objs.size<=a)(y:∀x c,X.env.cells.lookup x=some c->c≠a)(l:∀p∈X.pn++pins,p.1≠a):Inv X pins σ H {s with heap:=h',toks:=t'}:=by
 have g:∀b u,H b=some u->b≠a:=λb u e z=>by rw[z,w]at e;cases e
 refine I.step (g':=s.gens) (d':=s.drawn) (ch:=[a]) (λb j=>?_) (λb o _ _ d e _=>k b o (λz=>d (by simp[z])) e) (λb o _ _ d e _=>⟨o.slots,k b o (λz=>d (by simp[z])) e⟩) (λ_ _ _ _ n=>n)
  (λb o d e=>⟨o,k b o (λz=>d (by simp[z])) e⟩) (λ_ _ e=>e) (λ_ _ _ e=>e) (λb ps e=>⟨#[],by rw[e];simp⟩) (λm C=>?_) (λb u e=>?_) I.bare
 ·have e:b=a:=by simpa using j
  subst e;exact⟨t,f,y,l⟩
 ·obtain⟨o,es,ep,i,r⟩:=C;exact⟨o,es,ep,k _ o (yA f) i,r⟩
 ·refine(I.hok b u e).stay (λc v d q=>k c v ?_ q) (λ_ q=>q) λ_ _ q=>q;rcases d with z|z
  ·rw[z];exact g b u e
  ·exact g c _ z
theorem Inv.tok(I:Inv X pins σ H s)(t:Nat):Inv X pins σ H {s with toks:=t}:=I.un (h':=s.heap) (t':=t) Un.refl I.hok
theorem Inv.kept{t':Nat}(I:Inv X pins σ H s)(k:∀b u,s.heap.get? b=some u->h'.get? b=some u):Inv X pins σ H {s with heap:=h',toks:=t'}:=I.un (Un.kept k) (I.hok.kept k)
theorem Inv.laid{a:Addr}{o:HO}{t':Nat}(I:Inv X pins σ H s)(k:∀b u,s.heap.get? b=some u->h'.get? b=some u)(c:s.heap.objs.size<=a)(new:mB X.prog X.w (upd H a o) h' a o):
  Inv X pins σ (upd H a o) {s with heap:=h',toks:=t'}:=I.un (Un.laid k c (I.hok.fresh c)) (I.hok.laid k c new)
theorem Inv.write{x e:Addr}{o:HO}{t':Nat}(I:Inv X pins σ H s)(a:Mut (H x))(d:e=x\/H e=some (.own x))(k:∀b u,b≠e->s.heap.get? b=some u->h'.get? b=some u)(c:∃u,h'.get? e=some u)
  (new:mB X.prog X.w (upd H x o) h' x o):Inv X pins σ (upd H x o) {s with heap:=h',toks:=t'}:=I.un (Un.write a d k c) (I.hok.write a d k c new)
theorem Inv.pins_of{a:PN}(I:Inv X pins σ H s)(h:∀p∈a,s.heap.get? p.1=some p.2/\H p.1=none/\p.1≠X.env.locals/\p.1∉X.fs/\∀v,p.2.data≠.cell v):Inv X a σ H s:=
 ⟨I.ok,I.os,I.bare,I.base,I.loc,I.cell,I.free,I.freeC,λp b=>(oA.mp b).elim (λz=>I.pin p (xN _ z)) (h p),I.hok,I.len⟩
theorem Fl{N:List Str}(d:N.Nodup){i j:Nat}{x:Str}(a:N[i]?=some x)(b:N[j]?=some x):i=j:=by
 obtain⟨e,e1⟩:=oF.mp a;obtain⟨f,c⟩:=oF.mp b;exact(List.getElem_inj d).mp (e1.trans c.symm)
theorem Fk{M:Model}{A:Around}{E:VP}{i:Nat}{x:Str}{v:V}{u:Value}{Q:Unit->Shared->Prop}(I:Inv X pins σ H s)(Z:X.N.Nodup)(hi:X.N[i]?=some x)(l:Loc X.env.scope x)(r:RelV v u)
  (h:∀s',Inv X pins (σ.set i (some v)) H s'->(∃a,Heap.SameBut a s.heap s'.heap/\(a=X.env.locals\/X.env.cells.lookup x=some a))->Q () s')(b3:X.fn x=true\/X.env.scope.names.lookup x=some .local:=by first|exact .inl rfl|exact .inr rfl|assumption):wpAny M A (storeName X.env x u) Q E s:=by
 obtain⟨m,S,hl⟩:=id I.loc;have b4:(X.env.scope.kind == .class || (X.env.scope.kind == .module && X.env.locals != X.env.globals))=false:=by rw[I.ok.kind];rfl
 have a2:i<σ.length:=by rw[I.len];exact(oF.mp hi).1
 have cne:=I.cne;have a1:∀{a:Addr}{h':Heap},(∃o,s.heap.get? a=some o/\H a=none)->Heap.SameBut a s.heap h'->HOk X.prog X.w H h':=λ{a h'}b2 f b b6 e=>by
  obtain⟨_,_,a0⟩:=b2;refine(I.hok b b6 e).stay (λc J g q=>(f.2 c ?_).trans q) (λ_ q=>q) λ_ _ q=>q;rintro rfl;rcases g with rfl|g
  ·rw[a0]at e;cases e
  ·rw[a0]at g;cases g
 rcases l with w|w
 ·refine wpAny_storeName_local w S (λh' a7 f=>?_) b4;obtain⟨a8,_,_,a9,_⟩:=id S;refine h _ ⟨I.ok,I.os,I.bare,⟨λb o e n C l=>?_,λb o e n C l=>?_,I.base.free,λb o e l=>?_,I.base.tups,I.base.frzs,I.base.tbls⟩,⟨_,a7,λj y W e1 t L=>?_⟩,λy c e=>?_,I.free,I.freeC,λp T=>?_,a1 ⟨a8,a9,I.free⟩ f,by simpa using I.len⟩ ⟨_,f,.inl rfl⟩
  ·exact(f.2 b (zY (zI (zP e) I.ok.above))).trans (I.base.keep b o e n C l)
  ·obtain⟨P,e1⟩:=I.base.slot b o e n C l;exact⟨P,(f.2 b (zY (zI (zP e) I.ok.above))).trans e1⟩
  ·obtain⟨N,e1⟩:=I.base.there b o e l;exact⟨N,(f.2 b (zY (zI (zP e) I.ok.above))).trans e1⟩
  ·by_cases D:j=i
   ·subst D;rw[hi]at e1;cases e1;rw[sU a2]at t;cases t;exact⟨u,r,.inl ⟨w,by simp⟩⟩
   ·rw[List.getElem?_set_ne (yA D)]at t;obtain⟨K,O,q⟩:=hl j y W e1 t L;refine⟨K,O,?_⟩;rcases q with⟨k,e⟩|⟨k,c,e,z⟩
    ·refine .inl ⟨k,?_⟩;have:y≠x:=λe=>D (Fl Z e1 (e ▸ hi));simp[this,e]
    ·exact .inr ⟨k,c,e,z.sameBut f (cne y c e)⟩
  ·obtain⟨J,z⟩:=I.cell y c e;exact⟨J,z.sameBut f (cne y c e)⟩
  ·obtain⟨e,n,F,U,d⟩:=I.pin p T;exact⟨(f.2 p.1 F).trans e,n,F,U,d⟩
 ·have R:X.fn x=true:=by
   rcases b3 with z|z
   ·exact z
   ·rw[z]at w;cases w
  obtain⟨c,g⟩:=I.ok.has x (.inl w);obtain⟨J,z⟩:=I.cell x c g;refine wpAny_storeName_cell I.ok.kind w g z (λh' a4 f=>?_);obtain⟨a5,a3,b0⟩:=id z;refine h {s with heap:=h'} ⟨I.ok,I.os,I.bare,⟨λb o e n C l=>?_,λb o e n C l=>?_,I.base.free,λb o e l=>?_,I.base.tups,I.base.frzs,I.base.tbls⟩,⟨m,S.sameBut f (yA (cne x c g)),λj y W e1 t L=>?_⟩,λy G e=>?_,I.free,I.freeC,λp T=>?_,a1 ⟨a5,a3,I.freeC x c g⟩ f,by simpa using I.len⟩ ⟨c,f,.inr g⟩
  ·exact(f.2 b (zY (zI (zP e) (I.ok.cab x c R g)))).trans (I.base.keep b o e n C l)
  ·obtain⟨P,e1⟩:=I.base.slot b o e n C l;exact⟨P,(f.2 b (zY (zI (zP e) (I.ok.cab x c R g)))).trans e1⟩
  ·obtain⟨N,e1⟩:=I.base.there b o e l;exact⟨N,(f.2 b (zY (zI (zP e) (I.ok.cab x c R g)))).trans e1⟩
  ·by_cases D:j=i
   ·subst D;rw[hi]at e1;cases e1;rw[sU a2]at t;cases t;exact⟨u,r,.inr ⟨.inl w,c,g,a4⟩⟩
   ·rw[List.getElem?_set_ne (yA D)]at t;obtain⟨K,O,q⟩:=hl j y W e1 t L;refine⟨K,O,?_⟩;rcases q with q|⟨k,G,e,b1⟩
    ·exact .inl q
    ·refine .inr ⟨k,G,e,b1.sameBut f ?_⟩;rintro rfl;exact D (Fl Z e1 (I.ok.inj _ _ _ e g ▸ hi))
  ·by_cases Y:G=c
   ·subst Y;exact⟨_,a4⟩
   ·obtain⟨b5,b7⟩:=I.cell y G e;exact⟨b5,b7.sameBut f Y⟩
  ·obtain⟨e,n,F,U,d⟩:=I.pin p T;refine⟨(f.2 p.1 ?_).trans e,n,F,U,d⟩;intro q;rw[q,a3]at e;have a6:a5=p.2:=zQ e;exact d J (by rw[←a6];exact b0)
theorem dO{M:Model}{A:Around}{E:VP}{i:Nat}{x:Str}{v:V}{u:Value}{Q:Unit->Shared->Prop}(I:Inv X pins σ H s)(b:X.N.Nodup)(hi:X.N[i]?=some x)(d:Loc X.env.scope x)(r:RelV v u)
  (h:∀s',Inv X pins (σ.set i (some v)) H s'->Q () s')(c:X.fn x=true\/X.env.scope.names.lookup x=some .local:=by first|exact .inl rfl|exact .inr rfl|assumption):wpAny M A (storeName X.env x u) Q E s:=
 Fk I b hi d r (λs' a _=>h s' a) c
theorem Inv.call'{s':Shared}{ch:LA}(I:Inv X pins σ H s)(a:s'.os=s.os)(u:Un (frs X.stack) ch H H' s.heap s'.heap)(i:HOk X.prog X.w H' s'.heap)(f:AllBare s'.gens)
  (d:∀b∈ch,(b∈X.ex\/X.s₀.heap.objs.size<=b)/\b≠X.env.locals/\(∀x c,X.env.cells.lookup x=some c->c≠b)/\∀p∈X.pn++pins,p.1≠b):Inv X pins σ H' s':=by
 obtain⟨h',g',d',t',g⟩:=s';have e:g=s.os:=a;subst e;exact I.call (g':=g') (t':=t') (d':=d') u i f d
end
abbrev XK:=Value->Option Addr->Hp->Prop
abbrev St:=List (Option V)
abbrev VK:=V->Hp->Prop
abbrev TE:=St->Hp->VK->Prop
abbrev TT:=St->Hp->(Bool->Hp->Prop)->Prop
abbrev TA:=St->Hp->(List V->Hp->Prop)->Prop
structure Ends where
 nx:St->Hp->Prop
 rt:VK
 bk:St->Hp->Prop:=λ_ _=>False
 ct:St->Hp->Prop:=λ_ _=>False
abbrev TS:=Ends->St->Hp->Prop
def EP(X:Cx)(pins:PN)(σ:St)(Q:VK)(u:Value)(s':Shared):Prop:=∃v H',Inv X pins σ H' s'/\RelV v u/\Q v H'
def TP(X:Cx)(pins:PN)(σ:St)(Q:Bool->Hp->Prop)(b:Bool)(s':Shared):Prop:=∃H',Inv X pins σ H' s'/\Q b H'
def AP(X:Cx)(pins:PN)(σ:St)(Q:List V->Hp->Prop)(us:LW)(s':Shared):Prop:=∃vs H',Inv X pins σ H' s'/\Vals vs us/\Q vs H'
def SP(X:Cx)(pins:PN)(D:Ends)(f:Flow)(s':Shared):Prop:=
 match f with
 |.next=>∃σ' H',Inv X pins σ' H' s'/\D.nx σ' H'
 |.brk=>∃σ' H',Inv X pins σ' H' s'/\D.bk σ' H'
 |.cont=>∃σ' H',Inv X pins σ' H' s'/\D.ct σ' H'
 |.ret u=>∃v σ' H',Inv X pins σ' H' s'/\RelV v u/\D.rt v H'
def PE(X:Cx)(e:Expr)(t:TE):Prop:=
 ∀(pins:PN)(s:Shared)(σ:St)(H:Hp)(Q:VK),Inv X pins σ H s->t σ H Q->wpAny (model X.prog X.w) X.A (eval e X.env) (EP X pins σ Q) X.xe s
def PT(X:Cx)(e:Expr)(t:TT):Prop:=
 ∀(pins:PN)(s:Shared)(σ:St)(H:Hp)(Q:Bool->Hp->Prop),Inv X pins σ H s->t σ H Q->wpAny (model X.prog X.w) X.A (isTrue e X.env (eval e X.env)) (TP X pins σ Q) X.xe s
def PW(X:Cx)(e:Expr)(t:TT):Prop:=
 ∀(whole:Sem Value)(pins:PN)(s:Shared)(σ:St)(H:Hp)(Q:Bool->Hp->Prop),Inv X pins σ H s->t σ H Q->wpAny (model X.prog X.w) X.A (isTrue e X.env whole) (TP X pins σ Q) X.xe s
theorem PW.pt{X:Cx}{e:Expr}{t:TT}(h:PW X e t):PT X e t:=h _
def PA(X:Cx)(es:List Expr)(t:TA):Prop:=
 ∀(pos:Pos)(pins:PN)(s:Shared)(σ:St)(H:Hp)(Q:List V->Hp->Prop),Inv X pins σ H s->t σ H Q->wpAny (model X.prog X.w) X.A (spliced (backTo pos (starEach es X.env))) (AP X pins σ Q) X.xe s
def PS(X:Cx)(st:Stmt)(t:TS):Prop:=
 ∀(pins:PN)(s:Shared)(σ:St)(H:Hp)(D:Ends),Inv X pins σ H s->t D σ H->wpAny (model X.prog X.w) X.A (exec st X.env) (SP X pins D) X.xe s
def PSs(X:Cx)(st:List Stmt)(t:TS):Prop:=
 ∀(pins:PN)(s:Shared)(σ:St)(H:Hp)(D:Ends),Inv X pins σ H s->t D σ H->wpAny (model X.prog X.w) X.A (execs st X.env) (SP X pins D) X.xe s
theorem thn{c:Type}{d:Sem c}{Q b:c->Shared->Prop}{M:Model}{A:Around}{E:VP}{s:Shared}(h:wpAny M A d Q E s)(e:∀a s,Q a s->b a s):wpAny M A d b E s:=xG h e λ_ _ x=>x
section
variable {X:Cx}
def tVar(i:Nat):TE:=λσ H Q=>∃v,σ[i]?=some (some v)/\Q v H
def tC(v:V):TE:=λ_ H Q=>Q v H
theorem Fj{i:Nat}{x:Str}{o:Pos}(q:X.N[i]?=some x)(w:Vis X.env.scope x)(d:(x == ("__debug__" :Str))=false:=by decide)(t:(x == ("__classdict__" :Str))=false:=by decide):PE X (.Name x o) (tVar i):=by
 intro n s j H Q I h;obtain⟨v,e,h⟩:=h;obtain⟨m,k,hl⟩:=I.loc;obtain⟨u,r,l⟩:=hl i x v q e w;have b:EP X n j Q u s:=⟨v,H,I,r,h⟩;rcases l with⟨a,p⟩|⟨a,c,g,f⟩
 ·exact wpAny_Name (wpAny_loadName_local I.ok.kind a k p b) d
 ·rcases a with a|a
  ·exact wpAny_Name (wpAny_loadName_cell I.ok.kind a g f b) d
  ·exact wpAny_Name (wpAny_loadName_free I.ok.kind a g f b t) d
theorem oW{i j a}:PE X (.Constant (.int i) j a) (tC (.int i)):=λ_ _ _ H _ I h=>wpAny_Constant_int ⟨.int i,H,I.tok _,⟨_,rfl⟩,h⟩
theorem kQ{b j a}:PE X (.Constant (.bool b) j a) (tC (.bl b)):=λ_ _ _ H _ I h=>Constant_bool ⟨.bl b,H,I,rfl,h⟩
theorem dP{j a}:PE X (.Constant .none j a) (tC .non):=λ_ _ _ H _ I h=>Constant_none ⟨.non,H,I,rfl,h⟩
theorem gZ{x j a}:PE X (.Constant (.str x) j a) (tC (.str x)):=λ_ _ _ H _ I h=>Calls.Constant_str ⟨.str x,H,I.tok _,⟨_,rfl⟩,h⟩
def Gl(X:Cx)(x:Str):Prop:=X.env.kindOf x=some .globalImplicit
theorem fZ{E:VP}{b:PN}{s:Shared}{a:St}{H:Hp}{x:Str}{u:Value}{d:Pos}{Q:VP}(I:Inv X b a H s)(c:Gl X x)(e:X.mg x=some u)(h:Q u s)
  (f:(x == ("__debug__" :Str))=false:=by decide):wpAny (model X.prog X.w) X.A (eval (.Name x d) X.env) Q E s:=
 Calls.Name_function_global I.ok.kind c (Calls.loadGlobal_global (by rw[I.ok.glob];exact I.mod.glob.keeps I.bk) e h) f
theorem gC{E:VP}{d:PN}{s:Shared}{a:St}{H:Hp}{x:Str}{u:Value}{g:Pos}{Q:VP}(I:Inv X d a H s)(e:Gl X x)(i:X.mg x=none)(k:bootBuiltins x=some u)(h:Q u s)
  (c:x≠"__name__" := by decide)(j:(x == ("__debug__" :Str))=false:=by decide):wpAny (model X.prog X.w) X.A (eval (.Name x g) X.env) Q E s:=by
 obtain⟨l,b,f⟩:=I.mod.blt;exact Calls.Name_function_global I.ok.kind e (Calls.loadGlobal_builtin (by rw[I.ok.glob];exact I.mod.glob.keeps I.bk) i (by rw[I.ok.blt];exact b.keeps I.bk) ((f x c).trans k) h) j
theorem Nu{x:Str}{v:V}{u:Value}{a:Pos}(b:Gl X x)(c:X.mg x=some u)(r:RelV v u)(d:(x == ("__debug__" :Str))=false:=by decide):PE X (.Name x a) (tC v):=
 λ_ _ _ H _ I h=>fZ I b c ⟨v,H,I,r,h⟩ d
theorem bW{x:Str}{v:V}{u:Value}{d:Pos}(c:Gl X x)(e:X.mg x=none)(f:bootBuiltins x=some u)(r:RelV v u)(b:x≠"__name__" := by decide)(a:(x == ("__debug__" :Str))=false:=by decide):PE X (.Name x d) (tC v):=
 λ_ _ _ H _ I h=>gC I c e f ⟨v,H,I,r,h⟩ b a
variable {a b:Expr} {ta tb:TE} {pos:Pos}
def tB(t:TE):TT:=λσ H Q=>t σ H λx H1=>∃c,x=.bl c/\Q c H1
theorem gD{e:Expr}{f:TE}(h:PE X e f)(k:∀c,isTrue e X.env c=(do let v ←c;standAt e.pos;holding [v] (truthy v)):=by intro _;rfl):PT X e (tB f):=by
 intro l s i H Q I n;refine isTrue_plain (thn (h l s i H _ I n) ?_) (k _);rintro v p ⟨x,o,j,m,g⟩;obtain⟨d,rfl,q⟩:=g;cases m;exact uO ⟨o,j,q⟩
variable {tA tB':TT} {rest:List Expr}
def tAnd(t u:TT):TT:=λσ H Q=>t σ H λc H1=>if c=true then u σ H1 Q else Q false H1
def tOr(t u:TT):TT:=λσ H Q=>t σ H λc H1=>if c=true then Q true H1 else u σ H1 Q
def tNot(t:TT):TT:=λσ H Q=>t σ H λc H1=>Q (!c) H1
theorem iU(d:PT X a tA):PW X (.BoolOp .Or [a] pos) tA:=by
 intro j g s f H Q I h;refine isTrue_or (thn (d g s f H Q I h) λc i e=>?_);cases c with
 |false=>exact isTrue_or_nil e
 |true=>exact e
theorem iC(k:PT X a tA)(j:PW X (.BoolOp .Or (b:: rest) pos) tB'):PW X (.BoolOp .Or (a:: b:: rest) pos) (tOr tA tB'):=by
 intro m g s e H Q I h;refine isTrue_or (thn (k g s e H _ I h) ?_);rintro c l ⟨i,f,d⟩;cases c with
 |true=>exact⟨i,f,d⟩
 |false=>exact j m g l e i Q f d
theorem dQ(e:PT X a tA):PT X (.UnaryOp .Not a pos) (tNot tA):=by
 intro f s g H Q I h;exact isTrue_not (e f s g H (λc d=>Q (!c) d) I h)
def Nt(ta tb:TE):TE:=λσ H Q=>ta σ H λx H1=>∃c,x=.bl c/\if c=true then tb σ H1 Q else Q (.bl false) H1
def tOrV(ta tb:TE):TE:=λσ H Q=>ta σ H λx H1=>∃c,x=.bl c/\if c=true then Q (.bl true) H1 else tb σ H1 Q
def Nr(ta:TE):TE:=λσ H Q=>ta σ H λx H1=>∃c,x=.bl c/\Q (.bl (!c)) H1
theorem Fi{op}{c:TE}(h:PE X a c):PE X (.BoolOp op [a] pos) c:=λe s f H Q I d=>BoolOp_one (h e s f H Q I d)
theorem Bm(k:PE X a ta)(j:PE X (.BoolOp .And (b:: rest) pos) tb):PE X (.BoolOp .And (a:: b:: rest) pos) (Nt ta tb):=by
 intro g s e H Q I h;refine BoolOp_and (thn (k g s e H _ I h) ?_);rintro v l ⟨x,i,f,m,d⟩;obtain⟨c,rfl,d⟩:=d;cases m;refine uO ?_;cases c with
 |true=>exact j g l e i Q f d
 |false=>exact⟨.bl false,i,f,rfl,d⟩
theorem Nq(e:PE X a ta):PE X (.UnaryOp .Not a pos) (Nr ta):=by
 intro i s f H Q I h;refine UnaryOp_ (thn (e i s f H _ I h) ?_);rintro v l ⟨x,k,g,j,d⟩;obtain⟨c,rfl,d⟩:=d;cases j;exact not_of (uO ⟨.bl (!c),k,g,rfl,d⟩)
def tIf(t:TT)(ta tb:TE):TE:=λσ H Q=>t σ H λc H1=>if c=true then ta σ H1 Q else tb σ H1 Q
theorem Fh{c:Expr}(n:PT X c tA)(m:PE X a ta)(l:PE X b tb):PE X (.IfExp c a b pos) (tIf tA ta tb):=by
 intro f s e H Q I h;refine wpAny_IfExp (thn (n f s e H _ I h) ?_);rintro d j ⟨k,i,g⟩;cases d with
 |true=>exact m f j e k Q i g
 |false=>exact l f j e k Q i g
end
def SqL(K:Frag)(H:Hp)(a:Addr)(xs:List V):Prop:=
 Rd H a (.lst xs) \/
  ∃(o:Obj)(its:Array Value)(n:Nat),K.lookup a=some o/\o.cls=.type "list" /\ o.dict=none/\o.data=.seq its n/\its.size<=sizeLine/\Vals xs its.toList
def SqT(K:Frag)(H:Hp)(a:Addr)(xs:List V):Prop:=
 Rd H a (.tup xs) \/
  ∃(o:Obj)(its:Array Value)(n:Nat),K.lookup a=some o/\o.cls=.type "tuple" /\ o.data=.seq its n/\its.size<=sizeLine/\Vals xs its.toList
def absV:Value->Option V
 |.none=>some .non
 |.bool b=>some (.bl b)
 |.int i _=>some (.int i)
 |.str x _=>some (.str x)
 |.bytes b _=>some (.byt b)
 |.float b _=>some (.flt b)
 |.ref a=>some (.ref a)
 |.type n=>some (.ty n)
 |_=>none
theorem RelV.abs{x:V}{u:Value}(r:RelV x u):absV u=some x:=by
 cases x with
 |non=>cases r;rfl
 |bl _=>cases r;rfl
 |int _=>obtain⟨t,rfl⟩:=r;rfl
 |str _=>obtain⟨t,rfl⟩:=r;rfl
 |byt _=>obtain⟨t,rfl⟩:=r;rfl
 |flt _=>obtain⟨t,rfl⟩:=r;rfl
 |ref _=>cases r;rfl
 |ty _=>cases r;rfl
theorem RelV.inj{x y:V}{u:Value}(r:RelV x u)(q:RelV y u):x=y:=zQ (r.abs.symm.trans q.abs)
theorem Vals.inj:∀{xs ys:List V}{us:LW},Vals xs us->Vals ys us->xs=ys
 |_,_,_,.nil,.nil=>rfl
 |_,_,_,.cons r b,.cons a t'=>by rw[r.inj a,Vals.inj b t']
section
variable {X:Cx} {pins:PN} {σ:St} {H:Hp} {s:Shared} {a:Addr} {xs ys:List V}
theorem SqL.of{K:Frag}(h:H a=some (.lst xs)):SqL K H a xs:=.inl (.inl h)
theorem SqT.of{K:Frag}(h:H a=some (.tup xs)):SqT K H a xs:=.inl (.inl h)
theorem Inv.list(I:Inv X pins σ H s)(h:SqL X.K H a xs):∃its:LW,Vals xs its/\PlainL s.heap a its.toArray/\xs.length<=sizeLine:=by
 rcases h with h|⟨o,its,n,b,d,c,f,g,r⟩
 ·obtain⟨z,its,n,r,e⟩:=h.ok I.hok;exact⟨its,r,⟨_,n,e,rfl,rfl,rfl⟩,z⟩
 ·refine⟨its.toList,r,⟨o,n,I.kIn a o b,d,c,by simpa using f⟩,?_⟩;have e:=r.length;simp only[Array.length_toList]at e;omega
theorem Inv.tuple(I:Inv X pins σ H s)(h:SqT X.K H a xs):∃its:LW,Vals xs its/\IsTup s.heap a its.toArray/\xs.length<=sizeLine:=by
 rcases h with h|⟨o,its,n,b,c,d,f,r⟩
 ·obtain⟨z,its,r,p⟩:=h.ok I.hok;exact⟨its,r,p,z⟩
 ·refine⟨its.toList,r,⟨o,I.kIn a o b,c,n,by simpa using d⟩,?_⟩;have e:=r.length;simp only[Array.length_toList]at e;omega
theorem Inv.list_inj(I:Inv X pins σ H s)(h:SqL X.K H a xs)(h':SqL X.K H a ys):xs=ys:=by
 obtain⟨its,r,⟨o,n,e,_,_,d⟩,_⟩:=I.list h;obtain⟨its',f,⟨i,g,b,_,_,d'⟩,_⟩:=I.list h';rw[e]at b;cases b;rw[d]at d';injection d' with c _;have:its=its':=by simpa using wF Array.toList c
 subst this;exact r.inj f
theorem Inv.tuple_inj(I:Inv X pins σ H s)(h:SqT X.K H a xs)(h':SqT X.K H a ys):xs=ys:=by
 obtain⟨its,r,⟨o,e,_,n,d⟩,_⟩:=I.tuple h;obtain⟨its',f,⟨i,b,_,g,d'⟩,_⟩:=I.tuple h';rw[e]at b;cases b;rw[d]at d';injection d' with c _;have:its=its':=by simpa using wF Array.toList c
 subst this;exact r.inj f
end
abbrev Cx.wish(X:Cx)(E:VP):Cx:={X with xe:=E}
abbrev Cx.nox(X:Cx):Cx:=X.wish λ_ _=>False
theorem Cx.Ok.wish{X:Cx}(ok:X.Ok)(E:VP):(X.wish E).Ok:=
 ⟨ok.mod,ok.kind,ok.glob,ok.blt,ok.above,ok.inj,ok.has,ok.cab,ok.hd,ok.frames,ok.stk,ok.exf,ok.bs,ok.bsz,ok.noex,ok.exfs,ok.funs,ok.frf⟩
theorem Cx.Ok.unwish{X:Cx}{E:VP}(ok:(X.wish E).Ok):X.Ok:=
 ⟨ok.mod,ok.kind,ok.glob,ok.blt,ok.above,ok.inj,ok.has,ok.cab,ok.hd,ok.frames,ok.stk,ok.exf,ok.bs,ok.bsz,ok.noex,ok.exfs,ok.funs,ok.frf⟩
section
variable {X:Cx} {pins:PN} {σ:St} {H:Hp} {s:Shared} {E:VP}
theorem Inv.wish(I:Inv X pins σ H s)(E:VP):Inv (X.wish E) pins σ H s:=⟨I.ok.wish E,I.os,I.bare,I.base,I.loc,I.cell,I.free,I.freeC,I.pin,I.hok,I.len⟩
theorem Inv.unwish(I:Inv (X.wish E) pins σ H s):Inv X pins σ H s:=⟨I.ok.unwish,I.os,I.bare,I.base,I.loc,I.cell,I.free,I.freeC,I.pin,I.hok,I.len⟩
theorem SP.unwish{D:Ends}{f:Flow}{s':Shared}(h:SP (X.wish E) pins D f s'):SP X pins D f s':=by
 cases f with
 |next=>obtain⟨a,H',I,q⟩:=h;exact⟨a,H',I.unwish,q⟩
 |brk=>obtain⟨a,H',I,q⟩:=h;exact⟨a,H',I.unwish,q⟩
 |cont=>obtain⟨a,H',I,q⟩:=h;exact⟨a,H',I.unwish,q⟩
 |ret u=>obtain⟨v,a,H',I,r,q⟩:=h;exact⟨v,a,H',I.unwish,r,q⟩
theorem PSs.nox{st:List Stmt}{a:TS}(h:PSs X.nox st a):PSs X st a:=λpins s σ H D I b =>
 xG (h pins s σ H D (I.wish _) b) (λ_ _ q=>q.unwish) λ_ _ z=>False.elim z
end
section
variable {X:Cx} {st:Stmt} {rest:List Stmt} {t u:TS} {e:Expr} {te:TE} {pos:Pos}
def Fg:TS:=λD σ H=>D.nx σ H
def tSeq(t u:TS):TS:=λD σ H=>t {D with nx:=u D} σ H
theorem nS:PSs X [] Fg:=λ_ _ a H _ I h=>tP ⟨a,H,I,h⟩
theorem oN(c:PS X st t)(i:PSs X rest u):PSs X (st:: rest) (tSeq t u):=by
 intro a s d H D I h;refine wpAny_execs_cons (thn (c a s d H {D with nx:=u D} I h) λf j q=>?_);cases f with
 |next =>
  obtain⟨b,H',g,q⟩:=q;exact i a j b H' D g q
 |ret v=>exact q
 |brk=>exact q
 |cont=>exact q
theorem oP(a:PS X st t):PSs X [st] t:=by
 intro b s c H D I h;refine wpAny_execs_cons (thn (a b s c H D I h) λf d q=>?_);cases f with
 |next=>exact tP q
 |ret v=>exact q
 |brk=>exact q
 |cont=>exact q
theorem Inv.quiet{a:PN}{b:St}{H:Hp}{s:Shared}(I:Inv X a b H s):interactive X.env=false:=by simp[interactive,I.ok.kind]
def Np(te:TE):TS:=λD σ H=>te σ H λ_ H1=>D.nx σ H1
theorem kR(d:PE X e te)(i:swapsWith e none pos.line X.env=pure false:=by rfl):PS X (.Expr e pos) (Np te):=by
 intro f s a H D I h;exact wpAny_Expr_any (thn (d f s a H _ I h) λv j⟨x,g,c,k,b⟩=>⟨a,g,c,b⟩) I.quiet i
def tRet(te:TE):TS:=λD σ H=>te σ H D.rt
theorem nA(d:PE X e te):PS X (.Return (some e) pos) (tRet te):=by
 intro f s a H D I h;exact wpAny_Return_some (thn (d f s a H _ I h) λv j⟨x,i,c,g,b⟩=>⟨x,a,i,c,g,b⟩)
def t_B:TS:=λD _ H=>D.rt .non H
def tIfS(c:TT)(t u:TS):TS:=λD σ H=>c σ H λb H1=>if b=true then t D σ H1 else u D σ H1
theorem nT{c:Expr}{a b:List Stmt}{m:TT}(p:PT X c m)(o:PSs X a t)(n:PSs X b u):PS X (.If c a b pos) (tIfS m t u):=by
 intro g s f H D I h;refine wpAny_If (thn (p g s f H _ I h) ?_);rintro d k ⟨l,j,i⟩;cases d with
 |true=>exact o g k f l D j i
 |false=>exact n g k f l D j i
def No:TS:=λ_ _ _=>False
theorem jL:PS X st No:=λ_ _ _ _ _ _ h=>h.elim
end
abbrev TG:=V->St->Hp->(St->Hp->Prop)->Prop
abbrev TGs:=List V->St->Hp->(St->Hp->Prop)->Prop
def PG(X:Cx)(target:Expr)(t:TG):Prop:=
 ∀(pins:PN)(s:Shared)(σ:St)(H:Hp)(v:V)(u:Value)(Q:St->Hp->Prop),Inv X pins σ H s->RelV v u->t v σ H Q ->
  wpAny (model X.prog X.w) X.A (assign target X.env u) (λ_ s'=>∃σ' H',Inv X pins σ' H' s'/\Q σ' H') X.xe s
def PGs(X:Cx)(ts:List Expr)(t:TGs):Prop:=
 ∀(pins:PN)(s:Shared)(σ:St)(H:Hp)(vs:List V)(us:LW)(Q:St->Hp->Prop),Inv X pins σ H s->Vals vs us->t vs σ H Q ->
  wpAny (model X.prog X.w) X.A (assignInOrder ((assignEach ts X.env).map (·.2)) us) (λ_ s'=>∃σ' H',Inv X pins σ' H' s'/\Q σ' H') X.xe s
abbrev TSet:=V->V->V->Hp->(Hp->Prop)->Prop
def PSet(X:Cx)(t:TSet):Prop:=
 ∀(pins:PN)(s:Shared)(σ:St)(H:Hp)(o i v:V)(ov iv u:Value)(Q:Hp->Prop),Inv X pins σ H s->RelV o ov->RelV i iv->RelV v u->t o i v H Q ->
  wpAny (model X.prog X.w) X.A (setItem ov iv u) (λ_ s'=>∃H',Inv X pins σ H' s'/\Q H') X.xe s
abbrev TIp:=V->V->Hp->VK->Prop
def PIp(X:Cx)(op:Operator)(t:TIp):Prop:=
 ∀(pins:PN)(s:Shared)(σ:St)(H:Hp)(x y:V)(v u:Value)(Q:VK),Inv X pins σ H s->RelV x v->RelV y u->t x y H Q ->
  wpAny (model X.prog X.w) X.A (inplaceOp op v u) (EP X pins σ Q) X.xe s
section
variable {X:Cx} {pos:Pos}
def oU(i:Nat):TG:=λv σ H Q=>Q (σ.set i (some v)) H
theorem nN{i:Nat}{x:Str}(c:X.N.Nodup)(hi:X.N[i]?=some x)(d:Loc X.env.scope x)(b:X.fn x=true\/X.env.scope.names.lookup x=some .local:=by first|exact .inl rfl|exact .inr rfl|assumption):PG X (.Name x pos) (oU i):=by
 intro f s e H v u Q I r h;exact wpAny_assign_Name (dO I c hi d r (λs' a=>⟨_,H,a,h⟩) b)
def gNil:TGs:=λvs σ H Q=>vs=[]/\Q σ H
def nV(t:TG)(u:TGs):TGs:=λvs σ H Q=>∃v r,vs=v:: r/\t v σ H λσ' H'=>u r σ' H' Q
theorem lW:PGs X [] gNil:=by
 intro b s a H vs us Q I r h;obtain⟨e,h⟩:=h;subst e;cases r;exact assignInOrder_nil ⟨a,H,I,h⟩
theorem nU{e:Expr}{es:List Expr}{b:TG}{u:TGs}(f:PG X e b)(k:PGs X es u)
  (n:(assignEach (e:: es) X.env).map (·.2)=assign e X.env:: (assignEach es X.env).map (·.2):=by rfl):PGs X (e:: es) (nV b u):=by
 intro a s d H vs us Q I r h;obtain⟨v,o,e1,h⟩:=h;subst e1;cases r with
 |cons r i =>
  rw[n];refine rX (thn (f a s d H _ _ _ I r h) ?_);rintro _ l ⟨j,m,g,c⟩;exact k a l j m _ _ Q g i c
def gTup(K:Frag)(n:Nat)(t:TGs):TG:=λv σ H Q=>∃a xs,v=.ref a/\SqT K H a xs/\xs.length=n/\t xs σ H Q
theorem lY{es:List Expr}{k:Nat}{g:TGs}{n:Nat}(w:X.calm=true)(h:PGs X es g)
  (p:(assignEach es X.env).length=n:=by rfl)(j:(assignEach es X.env).findIdx? (·.1)=none:=by rfl):PG X (.Tuple es k pos) (gTup X.K n g):=by
 intro f s d H v u Q I r c;obtain⟨a,xs,e1,l,hl,c⟩:=c;subst e1;cases r;obtain⟨its,i,t,x⟩:=I.tuple l;refine assign_Tuple_tuple (I.ok.hd w) t (by simp[p,←hl,i.length]) j λh' q=>?_;have m:Inv X f d H {s with heap:=h'}:=I.kept (t':=s.toks) λb o e=>q b o (zY (zP e)) e;exact h f _ d H xs _ Q m (by simpa using i) c
def gSub(to ti:TE)(t:TSet):TG:=λv σ H Q=>to σ H λo H1=>ti σ H1 λi H2=>t o i v H2 λH3=>Q σ H3
theorem bX{o i:Expr}{e f:TE}{g:TSet}(j:PE X o e)(hi:PE X i f)(t:PSet X g)
  (w:∀v,assign (.Subscript o i pos) X.env v=(do
   let a ←holding [v] (eval o X.env)
   let b ←holding [v,a] (eval i X.env)
   standAt pos
   holding [v,a,b] (setItem a b v)
   release [v,a,b] []):=by intro _;rfl):PG X (.Subscript o i pos) (gSub e f g):=by
 intro d s c H v u Q I r h;rw[w];refine zA (xW (thn (j d s c H _ I h) ?_));rintro a l ⟨x,D,k,p,n⟩;refine zA (xW (thn (hi d l c D _ k n) ?_));rintro b m ⟨y,K,z,G,F⟩;refine zA (tG (zA (xW (thn (t d m c K x y v a b u _ z p G r F) ?_))));rintro _ L ⟨J,C,q⟩;exact wpAny_release ⟨c,J,C,q⟩
def tAsg(te:TE)(g:TG):TS:=λD σ H=>te σ H λx H1=>g x σ H1 D.nx
theorem iD{a e:Expr}{te:TE}{g:TG}(j:PE X e te)(m:PG X a g)(p:swapsWithSole [a] e pos.line X.env=pure false:=by rfl)(n:swappedStores [a] e X.env=pure none:=by rfl)
  (f:(assignEach [a] X.env).map (·.2)=[assign a X.env]:=by rfl):PS X (.Assign [a] e pos) (tAsg te g):=by
 intro c s b H D I h;refine wpAny_Assign_stores (thn (j c s b H _ I h) ?_) p n;rintro v k ⟨x,o,i,l,d⟩;rw[f];exact thn (m c k b o x v _ i l d) λ_ r q=>q
theorem oY{i:Nat}{x:Str}{e:Expr}{te:TE}{a:Pos}(m:X.N.Nodup)(hi:X.N[i]?=some x)(o:Loc X.env.scope x)(f:PE X e te)(p:swapsWith e (some (.Name x a)) pos.line X.env=pure false:=by rfl)(j:X.fn x=true\/X.env.scope.names.lookup x=some .local:=by first|exact .inl rfl|exact .inr rfl|assumption):
  PS X (.Assign [.Name x a] e pos) (tAsg te (oU i)):=by
 intro k s c H D I h;refine wpAny_Assign_Name (thn (f k s c H _ I h) ?_) p;rintro v q ⟨y,n,d,l,b⟩;exact dO d m hi o l (λr g=>⟨_,n,g,b⟩) j
def tPar(i j:Nat)(ta:TA):TS:=λD σ H=>ta σ H λvs H1=>∃v w,vs=[v,w]/\D.nx ((σ.set i (some v)).set j (some w)) H1
theorem Nn{i j:Nat}{x y:Str}{a b:Expr}{ta:TA}{m n pt:Pos}{k k2 g}(R:X.calm=true)(u:X.N.Nodup)(hi:X.N[i]?=some x)(Z:X.N[j]?=some y)(P:i≠j)
  (z:X.env.scope.names.lookup x=some .local)(r:X.env.scope.names.lookup y=some .local)(T:PA X [a,b] ta)
  (O:swappedStores [.Tuple [.Name x m,.Name y n] k pt] (.Tuple [a,b] k2 g) X.env=pure (some [x,y]))
  (S:swapsWithSole [.Tuple [.Name x m,.Name y n] k pt] (.Tuple [a,b] k2 g) pos.line X.env=pure false:=by rfl):
  PS X (.Assign [.Tuple [.Name x m,.Name y n] k pt] (.Tuple [a,b] k2 g) pos) (tPar i j ta):=by
 intro t s F H D I h;rw[exec_Assign_arm];refine zA (tG ?_);rw[S];refine zA (zB ?_);rw[zF ∅];refine zA (Tuple_ (thn (T _ t s F H _ I h) ?_));rintro us c ⟨vs,G,K,N,l⟩;obtain⟨v,w,e1,l⟩:=l;subst e1;obtain⟨d,f,rfl,a0,M⟩:∃d f,us=[d,f]/\RelV v d/\RelV w f:=by
  cases N with
  | cons p q =>
   cases q with
   |cons J L =>
    cases L;exact⟨_,_,rfl,p,J⟩
 refine xL ?_ (by show 2<=sizeLine;decide);have V:Inv X t F G {c with heap:=c.heap.push {cls:=.type "tuple",data:=.seq [d,f].toArray}}:=K.kept (t':=c.toks) λb o e=>zC _ e;rw[O];refine zA (zB ?_);show wpAny (model X.prog X.w) X.A (do rule "assign.swapped-stores";let items ←unpackItems (.ref c.heap.objs.size) 2 none;assignInOrder [λv=>bindName X.env y v,λv=>bindName X.env x v] items.reverse;pure Flow.next) _ _ _;refine zA (wP (zA (unpackItems_tuple (items:=#[d,f]) (I.ok.hd R) (IsTup.new c.heap _) λh' Y=>?_)));have W:=V.kept (h':=h') (t':=c.toks) λb o e=>Y b o (zY (zP e)) e;show wpAny _ _ (assignInOrder [λv=>bindName X.env y v,λv=>bindName X.env x v] [f,d] >>= λ_=>pure Flow.next) _ _ _;refine zA (rX (wpAny_bindName (dO W u Z (.inl r) M (λa2 U=>?_) (.inr r))));refine rX (wpAny_bindName (dO U u hi (.inl z) a0 (λa1 C=>assignInOrder_nil (zB ?_)) (.inr z)));rw[List.set_comm _ _ (yA P)]at C;exact⟨_,G,C,l⟩
def tAug(i:Nat)(te:TE)(ti:TIp):TS:=λD σ H=>∃x,σ[i]?=some (some x)/\te σ H λy H1=>ti x y H1 λz H2=>D.nx (σ.set i (some z)) H2
theorem Ff{i:Nat}{x:Str}{e:Expr}{te:TE}{op:Operator}{g:TIp}{C:Pos}(q:X.N.Nodup)(hi:X.N[i]?=some x)(d:Loc X.env.scope x)(o:PE X e te)(j:PIp X op g)(M:X.fn x=true\/X.env.scope.names.lookup x=some .local:=by first|exact .inl rfl|exact .inr rfl|assumption):
  PS X (.AugAssign (.Name x C) op e pos) (tAug i te g):=by
 intro b s f H D I h;obtain⟨v,e1,h⟩:=h;obtain⟨m,N,hl⟩:=I.loc;have P:Vis X.env.scope x:=by rcases d with k|k;exact .inl k;exact .inr (.inl k)
 obtain⟨u,r,l⟩:=hl i x v hi e1 P;refine wpAny_AugAssign_Name ?_;have go:wpAny (model X.prog X.w) X.A (eval e X.env) (λw F=>wpAny (model X.prog X.w) X.A (inplaceOp op u w) (λr V=>wpAny (model X.prog X.w) X.A (storeName X.env x r) (λ_=>SP X b D .next) X.xe V) X.xe F) X.xe s:=by
  refine thn (o b s f H _ I h) ?_;rintro w p ⟨y,R,n,G,t⟩;refine thn (j b p f R v y u w _ n r G t) ?_;rintro z a0 ⟨Z,W,L,T,S⟩;exact dO L q hi d T (λY O=>⟨_,W,O,S⟩) M
 rcases l with⟨a,J⟩|⟨a,c,K,U⟩
 ·exact wpAny_loadName_local I.ok.kind a N J go
 ·rcases a with a|a
  ·exact wpAny_loadName_cell I.ok.kind a K U go
  ·rcases d with k|k
   ·have:X.env.scope.names.lookup x=some .free:=a;rw[k]at this;cases this
   ·have:X.env.scope.names.lookup x=some .free:=a;rw[k]at this;cases this
def ipI(f:Int->Int->Int):TIp:=λx y H Q=>∃i j,x=.int i/\y=.int j/\Q (.int (f i j)) H
theorem Fe:PIp X .Add (ipI λi j=>i+j):=by
 intro e s d H x y v u Q I b a h;obtain⟨i,j,e1,c,q⟩:=h;subst e1;subst c;obtain⟨f,rfl⟩:=b;obtain⟨t',rfl⟩:=a;exact iadd_int ⟨.int _,H,I.tok _,⟨_,rfl⟩,q⟩
def Fd(c:TT)(tb:TS):TS:=λD σ H=>∃W:Nat->St->Hp->Prop,(∃m,W m σ H)/\∀m σ H,W m σ H ->
 c σ H λb H1=>if b=true then∃N:St->Hp->Prop,(∀σ' H',N σ' H'->∃m',m'<m/\W m' σ' H')/\tb {D with nx:=N,ct:=N,bk:=D.nx} σ H1 else D.nx σ H1
theorem Bl{c:Expr}{body:List Stmt}{t:TT}{tb:TS}(w:PassesOwn (model X.prog X.w) X.A X.env X.xe)(L:PT X c t)(M:PSs X body tb):PS X (.While c body [] pos) (Fd t tb):=by
 intro j s O H D I h;obtain⟨P,⟨K,z⟩,turn⟩:=h;refine wpAny_While (codeAny_whileLoop (λn s'=>∃r H',Inv X j r H' s'/\P n r H') ?_ K ⟨O,H,I,z⟩);rintro n F ⟨g,x,C,J⟩;refine vK w (thn (L j F g x _ C (turn n g x J)) ?_);rintro b G ⟨y,u,i⟩;cases b with
 | true =>
  obtain⟨N,q,i⟩:=i;rw[zG rfl];refine vK w (thn (M j G g y _ u i) λf R e=>?_);cases f with
  |next =>
   obtain⟨a,d,o,k⟩:=e;obtain⟨p,m,l⟩:=q a d k;exact⟨p,m,a,d,o,l⟩
  |cont =>
   obtain⟨a,d,o,k⟩:=e;obtain⟨p,m,l⟩:=q a d k;exact⟨p,m,a,d,o,l⟩
  |brk=>exact e
  |ret v=>exact e
 |false =>
  rw[zF yJ];exact tP ⟨g,y,u,i⟩
end
structure It where
 go:Nat->Hp->Prop
 yld:Nat->Hp->V->Hp->Prop
 stop:Nat->Hp->Prop
def FpOk(X:Cx)(pins:PN)(H:Hp)(b:Addr):Prop:=
 H b=none/\b≠X.env.locals/\b∉X.fs/\(b∈X.ex\/X.s₀.heap.objs.size<=b)/\(∀x c,X.env.cells.lookup x=some c->c≠b)/\∀p∈X.pn++pins,p.1≠b
theorem Inv.fpOk{X:Cx}{d:PN}{f:St}{H H':Hp}{s:Shared}{b:Addr}(I:Inv X d f H s)(a:s.heap.objs.size<=b)(g:H' b=none):FpOk X d H' b:=by
 refine⟨g,rL (zI I.lt a),I.nofs a,.inr (yH I.sz a),λx c e z=>?_,λp i z=>?_⟩
 ·obtain⟨v,q⟩:=I.cell x c e;exact absurd (zI q.lt (by rw[z];exact a)) (xA _)
 ·exact absurd (zI (zP (I.pin p i).1) (by rw[z];exact a)) (xA _)
structure Turn(P:Program)(w:World)(K:Frag)(tg:Expr)(J:It)(fp:LA)(it:Addr)(tn:Nat->Heap->Prop):Prop where
 mem:it∈fp
 obj:∀i h,tn i h->∀b∈fp,∃o,h.get? b=some o/\∀v,o.data≠.cell v
 keep:∀i h h',tn i h->(∀b∈fp,∀o,h.get? b=some o->h'.get? b=some o)->tn i h'
 item:∀(X:Cx),X.prog=P->X.w=w->X.K=K->X.calm=true->∀(i:Nat)(pins:PN)(s:Shared)(σ:St)(H:Hp)(E:VP),Inv X pins σ H s->(∀b∈fp,FpOk X pins H b)->tn i s.heap->J.go i H ->
  wpAny (model P w) X.A (pyNext (.ref it)) (λr s1=>∃u,r=some u /\
   wpAny (model P w) X.A (letOwnedTupleGo tg (.ref it) u) (λ_ s2=>∃x H',Inv X pins σ H' s2/\RelV x u/\J.yld i H x H'/\tn (i+1) s2.heap/\∀b∈fp,H' b=none) E s1) E s
 done:∀(X:Cx),X.prog=P->X.w=w->X.K=K->X.calm=true->∀(i:Nat)(pins:PN)(s:Shared)(σ:St)(H:Hp)(E:VP),Inv X pins σ H s->(∀b∈fp,FpOk X pins H b)->tn i s.heap->J.stop i H ->
  wpAny (model P w) X.A (pyNext (.ref it)) (λr s1=>r=none/\Inv X pins σ H s1) E s
 self:∀(A:Around)(i:Nat)(s:Shared)(Q:VP)(E:VP),tn i s.heap->Q (.ref it) s->wpAny (model P w) A (pyIter (.ref it)) Q E s
abbrev TI:=St->Hp->(It->Hp->Prop)->Prop
def PIE(X:Cx)(pins:PN)(σ:St)(tg:Expr)(R:It->Hp->Prop)(itv:Value)(s2:Shared):Prop:=
 ∃(it:Addr)(fp:LA)(tn:Nat->Heap->Prop)(J:It)(H':Hp),itv=.ref it/\Inv X pins σ H' s2/\Turn X.prog X.w X.K tg J fp it tn/\tn 0 s2.heap/\(∀b∈fp,FpOk X pins H' b)/\R J H'
def PI(X:Cx)(tg iter:Expr)(wi:TI):Prop:=
 ∀(pins:PN)(s:Shared)(σ:St)(H:Hp)(R:It->Hp->Prop),Inv X pins σ H s->wi σ H R ->
  wpAny (model X.prog X.w) X.A (eval iter X.env) (λv s1=>wpAny (model X.prog X.w) X.A (pyIter v) (PIE X pins σ tg R) X.xe s1) X.xe s
theorem Bk {M:Model}{A:Around}{E:VP}{s:Shared}{c:Expr}{b:Addr}{u:Value}{o:Obj}{n:String}{vs:Array Value}{Q:Unit->Shared->Prop}(d:s.heap.get? b=some o)(g:o.cls=.type n)(f:o.data=.fields vs)
    (e:["enumerate","zip","dict_itemiterator","dict_reverseitemiterator","odict_iterator","itertools.zip_longest","itertools.pairwise"].contains n=false)(a:Q () s):wpAny M A (letOwnedTupleGo c (.ref b) u) Q E s:=by
  unfold letOwnedTupleGo;cases c <;> first
    |exact zB a
    |(cases u <;> first
        |exact zB a
        | (refine zA (wpAny_load d ?_)
           rw[g,f];show wpAny M A (if(["enumerate","zip","dict_itemiterator","dict_reverseitemiterator","odict_iterator","itertools.zip_longest","itertools.pairwise"].contains n && vs[0]? == some (rawInt _))=true then _ else _) Q E s;rw[zF (by intro h;rw[e,Bool.false_and]at h;cases h)];exact zB a))
def Itl(K:Frag)(a:Addr):It:=
 ⟨λi H=>∃xs x,SqL K H a xs/\xs[i]?=some x,λi H x H'=>H'=H/\∀xs,SqL K H a xs->xs[i]?=some x,λi H=>∃xs,SqL K H a xs/\xs.length<=i⟩
def Itt(K:Frag)(a:Addr):It:=
 ⟨λi H=>∃xs x,SqT K H a xs/\xs[i]?=some x,λi H x H'=>H'=H/\∀xs,SqT K H a xs->xs[i]?=some x,λi H=>∃xs,SqT K H a xs/\xs.length<=i⟩
def Itr(lo:Int)(n:Nat):It:=⟨λi _=>i<n,λi H x H'=>H'=H/\x=.int (lo+i),λi _=>n<=i⟩
theorem Nm{P:Program}{w:World}{K:Frag}{V:Expr}(a g:Addr):Turn P w K V (Itl K a) [g] g (λi h=>h.IsListIter g a i) where
 mem:=by simp
 obj:=λi h st b f=>by
  have e:b=g:=by simpa using f
  subst e;obtain⟨o,e,c,d⟩:=st;exact⟨o,e,λv z=>by rw[d]at z;cases z⟩
 keep:=λi h h' st k=>st.at λo e=>k g (by simp) o e
 item:=by
  intro X y t q M i L s N H E I l st C;subst y t q;obtain⟨xs,x,j,n⟩:=C;obtain⟨its,J,p,T⟩:=I.list j;obtain⟨u,W,a0⟩:=J.get n;obtain⟨F,r,Y,G,D,m⟩:=l g (by simp);refine wpAny_pyNext_list_item st p.isList (x:=u) (by simpa using W) λh' O U=>?_;have S:Inv X L N H {s with heap:=h'}:=I.turned (t':=s.toks) (λb o f e=>(U.2 b f).trans e) F r G D m;obtain⟨o,e,c,d⟩:=id O;exact⟨u,rfl,Bk (s:={s with heap:=h'}) e c d ∅ ⟨x,H,S,a0,⟨rfl,λys R=>by rw[I.list_inj R j];exact n⟩,O,λb f=>(l b f).1⟩⟩
 done:=by
  intro X y t q M i L s N H E I l st C;subst y t q;obtain⟨xs,j,n⟩:=C;obtain⟨its,J,p,T⟩:=I.list j;obtain⟨F,r,Y,G,D,m⟩:=l g (by simp);have hl:=J.length;exact wpAny_pyNext_list_end (I.ok.hd M) st p.isList (by simp;omega) λh' Z=>⟨rfl,I.turned (t':=s.toks) (λb o f e=>Z b o f e) F r G D m⟩
 self:=λ_ _ _ _ _ st h=>wpAny_pyIter_listiter st h
theorem Nl{P:Program}{w:World}{K:Frag}{V:Expr}(a g:Addr):Turn P w K V (Itt K a) [g] g (λi h=>h.IsTupleIter g a i) where
 mem:=by simp
 obj:=λi h st b f=>by
  have e:b=g:=by simpa using f
  subst e;obtain⟨o,e,c,d⟩:=st;exact⟨o,e,λv z=>by rw[d]at z;cases z⟩
 keep:=λi h h' st k=>st.at λo e=>k g (by simp) o e
 item:=by
  intro X y t q M i L s N H E I l st C;subst y t q;obtain⟨xs,x,j,n⟩:=C;obtain⟨its,J,p,T⟩:=I.tuple j;obtain⟨u,W,a0⟩:=J.get n;obtain⟨F,r,Y,G,D,m⟩:=l g (by simp);refine wpAny_pyNext_tuple_item st (show s.heap.IsTuple a its.toArray from p) (x:=u) (by simpa using W) λh' O U=>?_;have S:Inv X L N H {s with heap:=h'}:=I.turned (t':=s.toks) (λb o f e=>(U.2 b f).trans e) F r G D m;obtain⟨o,e,c,d⟩:=id O;exact⟨u,rfl,Bk (s:={s with heap:=h'}) e c d ∅ ⟨x,H,S,a0,⟨rfl,λys R=>by rw[I.tuple_inj R j];exact n⟩,O,λb f=>(l b f).1⟩⟩
 done:=by
  intro X y t q M i L s N H E I l st C;subst y t q;obtain⟨xs,j,n⟩:=C;obtain⟨its,J,p,T⟩:=I.tuple j;obtain⟨F,r,Y,G,D,m⟩:=l g (by simp);have hl:=J.length;exact wpAny_pyNext_tuple_end (I.ok.hd M) st (show s.heap.IsTuple a its.toArray from p) (by simp;omega) λh' Z=>⟨rfl,I.turned (t':=s.toks) (λb o f e=>Z b o f e) F r G D m⟩
 self:=λ_ _ _ _ _ st h=>wpAny_pyIter_tupleiter st h
theorem Nk{P:Program}{w:World}{K:Frag}{G:Expr}(a:Addr)(lo:Int)(n:Nat):Turn P w K G (Itr lo n) [a] a (λi h=>IsRangeIter h a (lo+(i:Nat)*1) ((n:Int)-(i:Nat)) 1) where
 mem:=by simp
 obj:=λi h st b c=>by
  have e:b=a:=by simpa using c
  subst e;exact⟨_,st,λv z=>by
   have F:Data.fields _=Data.cell v:=z;cases F⟩
 keep:=λi h h' st k=>k a (by simp) _ st
 item:=by
  intro X p l g m i x s y H E I d st q;subst p l g;obtain⟨t,j,M,u,r,f⟩:=d a (by simp);have O:=Walks.range (prog:=X.prog) (w:=X.w) (I.ok.hd m) a lo 1 n;refine O.item i s _ _ q st λv h' tk J C L=>?_;obtain⟨R,rfl⟩:=J;have D:Inv X x y H {s with heap:=h',toks:=tk}:=I.turned (λb o c e=>L b o (by simpa using c) e) t j u r f;refine⟨_,rfl,Bk (s:={s with heap:=h',toks:=tk}) (n:= "range_iterator") C rfl rfl ∅ ⟨.int (lo+i),H,D,⟨R,?_⟩,⟨rfl,rfl⟩,C,λb c=>(d b c).1⟩⟩;rw[uK]
 done:=by
  intro X p l g m i x s y H E I d st q;subst p l g;obtain⟨t,j,M,u,r,f⟩:=d a (by simp);exact wpAny_pyNext_range_end (I.ok.hd m) st (by have:n<=i:=q;omega) λh' N=>⟨rfl,I.turned (t':=s.toks) (λb o c e=>N b o c e) t j u r f⟩
 self:=λ_ _ _ _ _ st h=>wpAny_pyIter_rangeiter st h
section
variable {X:Cx} {tg:Expr}
theorem Nj{f:PN}{c:St}{H:Hp}{s:Shared}{R:It->Hp->Prop}{E:VP}{lo hi:Int}{a u v:Tok}{tk:Nat}(I:Inv X f c H s)(j:-(2^62)<=lo)(k:lo<2^62)(i:-(2^62)<=hi)(l:hi<2^62)
  (q:R (Itr lo (hi-lo).toNat) H):wpAny (model X.prog X.w) X.A (pyIter (.ref s.heap.objs.size)) (PIE X f c tg R) E {s with heap:=s.heap.push {cls:=.type "range",data:=.fields #[.int lo a,.int hi u,.int 1 v]},toks:=tk}:=by
 refine wpAny_pyIter_range (IsRange.new ..) (small_one j k i l) ?_;have d:Inv X f c H {s with heap:=s.heap.push {cls:=.type "range",data:=.fields #[.int lo a,.int hi u,.int 1 v]},toks:=tk}:=I.kept λb o e=>zC _ e;refine⟨(s.heap.push {cls:=.type "range",data:=.fields #[.int lo a,.int hi u,.int 1 v]}).objs.size,[(s.heap.push {cls:=.type "range",data:=.fields #[.int lo a,.int hi u,.int 1 v]}).objs.size],_,_,H,rfl,
  d.kept (t':=tk) λb o e=>zC _ e,Nk _ lo (hi-lo).toNat,?_,λb g=>?_,q⟩
 ·have e1:lo+((0:Nat):Int)*1=lo:=by simp
  have m:(((hi-lo).toNat:Nat):Int)-((0:Nat):Int)=Builtin.Range.rangeSize lo hi 1:=by rw[rangeSize_one];split <;> omega
  show IsRangeIter _ _ (lo+((0:Nat):Int)*1) ((((hi-lo).toNat:Nat):Int)-((0:Nat):Int)) 1;rw[e1,m];exact zT _ rfl
 ·have e:b=(s.heap.push {cls:=.type "range",data:=.fields #[.int lo a,.int hi u,.int 1 v]}).objs.size:=by simpa using g
  subst e;exact d.fpOk (zE _) (d.hok.fresh (zE _))
def mH(ta:TA):TI:=λσ H R=>ta σ H λvs H1=>∃j:Int,vs=[.int j]/\-(2^62)<=j/\j<2^62/\R (Itr 0 j.toNat) H1
theorem lJ{a:Expr}{ta:TA}{p c:Pos}(m:Gl X "range")(o:X.mg "range"=none)(d:PA X [a] ta)(t:starEach [a] X.env=[(false,eval a X.env)]:=by rfl):PI X tg (.Call (.Name "range" p) [a] [] c) (mH ta):=by
 intro k s f H R I h;refine Call_ (gC I m o boot_range (wC (thn (d c k s f H _ I h) ?_) t rfl));rintro us v ⟨vs,w,g,l,b⟩;obtain⟨j,e,b,n,q⟩:=b;subst e;cases l with
 |cons r i =>
  cases i;obtain⟨u,rfl⟩:=r;exact call_range_1 (Nj g ⋯ ⋯ b n (by simpa using q))
def tFor(wi:TI)(g:TG)(tb:TS):TS:=λD σ H=>wi σ H λJ H1=>∃W:Nat->Nat->St->Hp->Prop,(∃m,W 0 m σ H1)/\∀i m σ H,W i m σ H ->
 (J.stop i H/\D.nx σ H)\/(J.go i H/\∃N:St->Hp->Prop,(∀σ' H',N σ' H'->∃m',m'<m/\W (i+1) m' σ' H')/\∀x H',J.yld i H x H'->g x σ H' λσ2 H2=>tb {D with nx:=N,ct:=N,bk:=D.nx} σ2 H2)
def dR(fp:LA)(h:Heap):PN:=fp.filterMap λb=>(h.get? b).map λo=>(b,o)
theorem bY{a:LA}{h:Heap}{b:Addr}{o:Obj}(c:b∈a)(e:h.get? b=some o):(b,o)∈dR a h:=List.mem_filterMap.mpr ⟨b,c,by rw[e];rfl⟩
theorem Ni{a:LA}{h:Heap}{p:Addr×Obj}(f:p∈dR a h):p.1∈a/\h.get? p.1=some p.2:=by
 obtain⟨b,c,e⟩:=List.mem_filterMap.mp f;cases q:h.get? b with
 |none=>rw[q]at e;cases e
 |some o =>
  rw[q]at e;have d:(b,o)=p:=zQ e;subst d;exact⟨c,q⟩
theorem Inv.pinned{a:PN}{g:St}{H:Hp}{s:Shared}{c:LA}(I:Inv X a g H s)(m:∀b∈c,FpOk X a H b)(j:∀b∈c,∃o,s.heap.get? b=some o/\∀v,o.data≠.cell v):Inv X (a++dR c s.heap) g H s:=
 I.pins_of λp n=>(oA.mp n).elim (λz=>I.pin p (yK _ z)) λz=>by
  obtain⟨f,e⟩:=Ni z;obtain⟨l,k,q,_⟩:=m p.1 f;obtain⟨o,i,d⟩:=j p.1 f;rw[e]at i;cases i;exact⟨e,l,k,q,d⟩
theorem Inv.unpinned{a pl:PN}{b:St}{H:Hp}{s:Shared}(I:Inv X (a++pl) b H s):Inv X a b H s:=I.pins_of λp c=>I.pin p (yK _ (xN _ c))
theorem lF{G:Expr}{body:List Stmt}{O:TI}{g:TG}{tb:TS}{a6:Pos}(w:PassesOwn (model X.prog X.w) X.A X.env X.xe)(P:X.calm=true)(hi:PI X tg G O)(c1:PG X tg g)(k:PSs X body tb)
  (b4:∀x,foldedSetIterable G X.env x=pure x:=by intro _;rfl):PS X (.For tg G body [] a6) (tFor O g tb):=by
 intro p s U H D I h;refine wpAny_For (thn (hi p s U H _ I h) λv d5 c7=>thn c7 λd4 d6 a5=>?_) b4;obtain⟨d7,z,a1,d8,d3,e,b8,T,c2,Y,a0,⟨b3,a2⟩,turn⟩:=a5;subst e
 -- what stays true of the iterator's objects through the loop
 have F:∀{H':Hp},(∀b∈z,H' b=none)->∀b∈z,FpOk X p H' b:=λb7 b k=>⟨b7 b k,(Y b k).2⟩;refine codeAny_forLoop_any (λn s'=>∃i q H',Inv X p q H' s'/\a1 i s'.heap/\(∀b∈z,H' b=none)/\a0 i n q H') ?_ b3 ⟨0,U,d3,b8,c2,λb k=>(Y b k).1,a2⟩;rintro n L ⟨i,t,C,Z,W,V,b0⟩;rcases turn i n t C b0 with⟨stop,a8⟩|⟨go,N,a7,step⟩
 ·refine vK w (thn (T.done X rfl rfl rfl P i p L t C X.xe Z (F V) W stop) ?_);rintro r c0 ⟨hr,b6⟩;subst hr;exact tP ⟨t,C,b6,a8⟩
 ·refine vK w (thn (T.item X rfl rfl rfl P i p L t C X.xe Z (F V) W go) ?_);rintro r c0 ⟨u,hr,b9⟩;subst hr;refine vK w (thn b9 ?_);rintro _ R ⟨x,M,b1,c8,c4,J,a4⟩;have c3:=b1.pinned (F a4) (T.obj _ _ J);refine vK w (thn (c1 _ R t M x u _ c3 c8 (step x M c4)) ?_);rintro _ c5 ⟨c9,a3,d1,b5⟩;refine vK w (thn (k _ c5 c9 a3 _ d1 b5) λf K l=>?_);have S:∀{j:St}{c:Hp},Inv X (p++dR z R.heap) j c K->N j c->∃m,m<n/\∃i q H',Inv X p q H' K/\a1 i K.heap/\(∀b∈z,H' b=none)/\a0 i m q H':=λ{j c}a y=>by
   obtain⟨d0,b2,d2⟩:=a7 j c y;refine⟨d0,b2,i+1,j,c,a.unpinned,T.keep _ _ _ J λb k o e=>(a.pin (b,o) (yK _ (yK _ (bY k e)))).1,λb k=>?_,d2⟩;obtain⟨o,e,d⟩:=T.obj _ _ J b k;exact(a.pin (b,o) (yK _ (yK _ (bY k e)))).2.1
  cases f with
  |next=>obtain⟨j,c,a,y⟩:=l;exact S a y
  |cont=>obtain⟨j,c,a,y⟩:=l;exact S a y
  |brk=>obtain⟨j,c,a,l⟩:=l;exact⟨j,c,a.unpinned,l⟩
  |ret v=>obtain⟨a9,j,c,a,c6,l⟩:=l;exact⟨a9,j,c,a.unpinned,c6,l⟩
end
theorem Nh{K:Frag}{a:Addr}{xs:List V}{g:TG}{tb:TS}{D:Ends}{b:St}{H:Hp}(c:Nat->St->Hp->Prop)(r:c 0 b H)(hl:∀i b H,i<=xs.length->c i b H->SqL K H a xs)
  (u:∀i x b H,xs[i]?=some x->c i b H->g x b H λj k=>tb {D with nx:=c (i+1),ct:=c (i+1),bk:=D.nx} j k)(t:∀b H,c xs.length b H->D.nx b H):
  ∃f:Nat->Nat->St->Hp->Prop,(∃m,f 0 m b H)/\∀i m b H,f i m b H ->
   ((Itl K a).stop i H/\D.nx b H)\/((Itl K a).go i H/\∃N:St->Hp->Prop,(∀d H',N d H'->∃l,l<m/\f (i+1) l d H')/\∀x H',(Itl K a).yld i H x H'->g x b H' λj k=>tb {D with nx:=N,ct:=N,bk:=D.nx} j k):=by
 refine⟨λi m b H=>m=xs.length-i/\i<=xs.length/\c i b H,⟨xs.length,by simp,yR _,r⟩,?_⟩;rintro i m b H ⟨rfl,hi,p⟩;have q:=hl i b H hi p
 by_cases n:i<xs.length
 ·refine .inr ⟨⟨xs,xs[i],q,by simp[n]⟩,c (i+1),λd H' o=>⟨xs.length-(i+1),⋯,rfl,n,o⟩,λx H' y=>?_⟩;obtain⟨e,y⟩:=y;subst e;exact u i x b _ (y xs q) p
 ·have e:i=xs.length:=⋯
  subst e;exact .inl ⟨⟨xs,q,zE _⟩,t b H p⟩
theorem Ng{K:Frag}{a:Addr}{xs:List V}{g:TG}{tb:TS}{D:Ends}{b:St}{H:Hp}(c:Nat->St->Hp->Prop)(r:c 0 b H)(hl:∀i b H,i<=xs.length->c i b H->SqT K H a xs)
  (u:∀i x b H,xs[i]?=some x->c i b H->g x b H λj k=>tb {D with nx:=c (i+1),ct:=c (i+1),bk:=D.nx} j k)(t:∀b H,c xs.length b H->D.nx b H):
  ∃f:Nat->Nat->St->Hp->Prop,(∃m,f 0 m b H)/\∀i m b H,f i m b H ->
   ((Itt K a).stop i H/\D.nx b H)\/((Itt K a).go i H/\∃N:St->Hp->Prop,(∀d H',N d H'->∃l,l<m/\f (i+1) l d H')/\∀x H',(Itt K a).yld i H x H'->g x b H' λj k=>tb {D with nx:=N,ct:=N,bk:=D.nx} j k):=by
 refine⟨λi m b H=>m=xs.length-i/\i<=xs.length/\c i b H,⟨xs.length,by simp,yR _,r⟩,?_⟩;rintro i m b H ⟨rfl,hi,p⟩;have q:=hl i b H hi p
 by_cases n:i<xs.length
 ·refine .inr ⟨⟨xs,xs[i],q,by simp[n]⟩,c (i+1),λd H' o=>⟨xs.length-(i+1),⋯,rfl,n,o⟩,λx H' y=>?_⟩;obtain⟨e,y⟩:=y;subst e;exact u i x b _ (y xs q) p
 ·have e:i=xs.length:=⋯
  subst e;exact .inl ⟨⟨xs,q,zE _⟩,t b H p⟩
theorem Nf{lo:Int}{n:Nat}{g:TG}{tb:TS}{D:Ends}{a:St}{H:Hp}(b:Nat->St->Hp->Prop)(q:b 0 a H)
  (t:∀i a H,i<n->b i a H->g (.int (lo+i)) a H λf k=>tb {D with nx:=b (i+1),ct:=b (i+1),bk:=D.nx} f k)(r:∀a H,b n a H->D.nx a H):
  ∃d:Nat->Nat->St->Hp->Prop,(∃m,d 0 m a H)/\∀i m a H,d i m a H ->
   ((Itr lo n).stop i H/\D.nx a H)\/((Itr lo n).go i H/\∃N:St->Hp->Prop,(∀c H',N c H'->∃l,l<m/\d (i+1) l c H')/\∀x H',(Itr lo n).yld i H x H'->g x a H' λf k=>tb {D with nx:=N,ct:=N,bk:=D.nx} f k):=by
 refine⟨λi m a H=>m=n-i/\i<=n/\b i a H,⟨n,by simp,yR _,q⟩,?_⟩;rintro i m a H ⟨rfl,hi,p⟩
 by_cases j:i<n
 ·refine .inr ⟨j,b (i+1),λc H' o=>⟨n-(i+1),⋯,rfl,j,o⟩,λx H' y=>?_⟩;obtain⟨e,y⟩:=y;subst e y;exact t i a _ j p
 ·have e:i=n:=⋯
  subst e;exact .inl ⟨zE _,r a H p⟩
abbrev R2:=V->V->Hp->VK->Prop
def OpR(X:Cx)(f:Value->Value->Sem Value)(r:R2):Prop:=
 ∀(pins:PN)(s:Shared)(σ:St)(H:Hp)(x y:V)(v u:Value)(Q:VK),Inv X pins σ H s->RelV x v->RelV y u->r x y H Q ->
  wpAny (model X.prog X.w) X.A (f v u) (EP X pins σ Q) X.xe s
def UnR(X:Cx)(f:Value->Sem Value)(r:V->Hp->VK->Prop):Prop:=
 ∀(pins:PN)(s:Shared)(σ:St)(H:Hp)(x:V)(v:Value)(Q:VK),Inv X pins σ H s->RelV x v->r x H Q ->
  wpAny (model X.prog X.w) X.A (f v) (EP X pins σ Q) X.xe s
def lZ(X:Cx)(f:Value)(r:List V->Hp->VK->Prop):Prop:=
 ∀(pins:PN)(s:Shared)(σ:St)(H:Hp)(xs:List V)(us:LW)(Q:VK),Inv X pins σ H s->Vals xs us->r xs H Q ->
  wpAny (model X.prog X.w) X.A (call f us) (EP X pins σ Q) X.xe s
def tOp(r:R2)(ta tb:TE):TE:=λσ H Q=>ta σ H λx H1=>tb σ H1 λy H2=>r x y H2 Q
def tUn(r:V->Hp->VK->Prop)(ta:TE):TE:=λσ H Q=>ta σ H λx H1=>r x H1 Q
def rI(C:Int->Int->Prop)(g:Int->Int->V):R2:=λx y H Q=>∃i j,x=.int i/\y=.int j/\C i j/\Q (g i j) H
def rI0(g:Int->Int->V):R2:=λx y H Q=>∃i j,x=.int i/\y=.int j/\Q (g i j) H
def rU(g:Int->V):V->Hp->VK->Prop:=λx H Q=>∃i,x=.int i/\Q (g i) H
section
variable {X:Cx} {a b c:Expr} {ta tb tc:TE} {pos:Pos}
theorem binT(n:PE X a ta)(l:PE X b tb){g:PN}{s:Shared}{d:St}{H:Hp}{R:V->V->Hp->Prop}(I:Inv X g d H s)
  (h:ta d H λx j=>tb d j λy e=>R x y e){Q:VP}{f:Value->Value->Sem Value}
  (t:∀v u i x y e,Inv X g d e i->RelV x v->RelV y u->R x y e->wpAny (model X.prog X.w) X.A (f v u) Q X.xe i):
  wpAny (model X.prog X.w) X.A (eval a X.env) (λv k=>wpAny (model X.prog X.w) X.A (eval b X.env) (λu r=>wpAny (model X.prog X.w) X.A (f v u) Q X.xe r) X.xe k) X.xe s:=by
 refine thn (n g s d H _ I h) ?_;rintro v w ⟨x,j,p,z,m⟩;refine thn (l g w d j _ p m) ?_;rintro u i ⟨y,e,q,o,C⟩;exact t v u i x y e q z o C
theorem oR{op:Operator}{r:R2}(d:OpR X (binaryOp op) r)(f:PE X a ta)(e:PE X b tb):PE X (.BinOp a op b pos) (tOp r ta tb):=by
 intro l s g H Q I h;exact wpAny_BinOp (binT f e I h λv u m x y n j i k q=>d l m g n x y v u Q j i k q)
theorem fA{op:UnaryOp}{r:V->Hp->VK->Prop}(f:UnR X (unaryOp op) r)(g:PE X a ta):PE X (.UnaryOp op a pos) (tUn r ta):=by
 intro e s d H Q I h;exact UnaryOp_ (thn (g e s d H _ I h) λv k⟨x,m,j,l,i⟩=>f e k d m x v Q j l i)
theorem opI{f:Value->Value->Sem Value}{C:Int->Int->Prop}{g:Int->Int->Int}
  (k:∀(i j:Int)(d u:Tok)(s:Shared)(Q:VP)(E:VP),C i j->Q (.int (g i j) s.toks) {s with toks:=s.toks+1}->wpAny (model X.prog X.w) X.A (f (.int i d) (.int j u)) Q E s):
  OpR X f (rI C λi j=>.int (g i j)):=by
 intro o s n H x y v u Q I e l h;obtain⟨i,j,rfl,rfl,m,q⟩:=h;obtain⟨d,rfl⟩:=e;obtain⟨t',rfl⟩:=l;exact k i j d t' s _ _ m ⟨.int (g i j),H,I.tok _,⟨_,rfl⟩,q⟩
theorem opI0{f:Value->Value->Sem Value}{g:Int->Int->Int}
  (k:∀(i j:Int)(d u:Tok)(s:Shared)(Q:VP)(E:VP),Q (.int (g i j) s.toks) {s with toks:=s.toks+1}->wpAny (model X.prog X.w) X.A (f (.int i d) (.int j u)) Q E s):
  OpR X f (rI0 λi j=>.int (g i j)):=by
 intro n s m H x y v u Q I e l h;obtain⟨i,j,rfl,rfl,q⟩:=h;obtain⟨d,rfl⟩:=e;obtain⟨t',rfl⟩:=l;exact k i j d t' s _ _ ⟨.int (g i j),H,I.tok _,⟨_,rfl⟩,q⟩
theorem opB0{f:Value->Value->Sem Value}{g:Int->Int->Bool}
  (k:∀(i j:Int)(d u:Tok)(s:Shared)(Q:VP)(E:VP),Q (.bool (g i j)) s->wpAny (model X.prog X.w) X.A (f (.int i d) (.int j u)) Q E s):
  OpR X f (rI0 λi j=>.bl (g i j)):=by
 intro n s m H x y v u Q I e l h;obtain⟨i,j,rfl,rfl,q⟩:=h;obtain⟨d,rfl⟩:=e;obtain⟨t',rfl⟩:=l;exact k i j d t' s _ _ ⟨.bl (g i j),H,I,rfl,q⟩
def CMul(i j:Int):Prop:=(-(2^64)<i/\i<2^64)\/(-(2^64)<j/\j<2^64)
theorem lK:OpR X (binaryOp .Add) (rI0 λi j=>.int (i+j)):=opI0 λ_ _ _ _ _ _ _ q=>add_int q
theorem fB:OpR X (binaryOp .Sub) (rI0 λi j=>.int (i-j)):=opI0 λ_ _ _ _ _ _ _ q=>sub_int q
theorem lA:OpR X (binaryOp .Mod) (rI (λ_ j=>j≠0) λi j=>.int (i.fmod j)):=opI λ_ _ _ _ _ _ _ d q=>mod_int' d q
theorem unI{f:Value->Sem Value}{g:Int->Int}
  (j:∀(i:Int)(d:Tok)(s:Shared)(Q:VP)(E:VP),Q (.int (g i) s.toks) {s with toks:=s.toks+1}->wpAny (model X.prog X.w) X.A (f (.int i d)) Q E s):
  UnR X f (rU λi=>.int (g i)):=by
 intro l s k H x v Q I e h;obtain⟨i,rfl,q⟩:=h;obtain⟨d,rfl⟩:=e;exact j i d s _ _ ⟨.int (g i),H,I.tok _,⟨_,rfl⟩,q⟩
theorem fC:UnR X (unaryOp .USub) (rU λi=>.int (-i)):=unI λ_ _ _ _ _ q=>neg_int q
theorem Fc{f:PN}{g:St}{H:Hp}{s:Shared}{Q:VK}{k d:Bool}(I:Inv X f g H s)(q:Q (.bl k) H)(e:k=d):EP X f g Q (.bool d) s:=by
 subst e;exact⟨.bl k,H,I,rfl,q⟩
theorem dS:OpR X (compareOp .Lt) (rI0 λi j=>.bl (decide (i<j))):=opB0 λ_ _ _ _ _ _ _ q=>lt_int q
theorem Nd:OpR X (compareOp .LtE) (rI0 λi j=>.bl (decide (i<=j))):=opB0 λ_ _ _ _ _ _ _ q=>le_int q
theorem bZ:OpR X (compareOp .Gt) (rI0 λi j=>.bl (decide (j<i))):=opB0 λ_ _ _ _ _ _ _ q=>gt_int q
theorem Bj:OpR X (compareOp .Is) (λx y H Q=>y=.non/\Q (.bl (decide (x=.non))) H):=by
 intro g s f H x y v u Q I d e h;obtain⟨rfl,q⟩:=h;cases e;refine is_none_gen (Fc I q ?_);cases x <;> first
  |(cases d;rfl)
  |(obtain⟨i,rfl⟩:=d;rfl)
theorem Nc:OpR X (compareOp .IsNot) (λx y H Q=>y=.non/\Q (.bl (!decide (x=.non))) H):=by
 intro g s f H x y v u Q I d e h;obtain⟨rfl,q⟩:=h;cases e;refine isnot_none_gen (Fc I q ?_);cases x <;> first
  |(cases d;rfl)
  |(obtain⟨i,rfl⟩:=d;rfl)
theorem nJ(b:Expr){op:CmpOp}(h:op≠.In:=by decide)(e:op≠.NotIn:=by decide):behindInMarks op b=false:=by
 have e1:(op == CmpOp.In)=false:=by cases op <;> first|rfl|exact absurd rfl h
 have d:(op == CmpOp.NotIn)=false:=by cases op <;> first|rfl|exact absurd rfl e
 cases b <;> simp[behindInMarks,e1,d]
theorem jR{op:CmpOp}{r:R2}(d:OpR X (compareOp op) r)(f:PE X a ta)(e:PE X b tb)(m:behindInMarks op b=false):PE X (.Compare a [op] [b] pos) (tOp r ta tb):=by
 intro l s g H Q I h;exact wpAny_Compare1 (binT f e I h λv u n x y o j i k q=>d l n g o x y v u Q j i k q) m
def fD(t:TE):TT:=λσ H Q=>t σ H λx H'=>∃k,x=.bl k/\Q k H'
theorem nL{op:CmpOp}{r:R2}(g:OpR X (compareOp op) r)(t:PE X a ta)(q:PE X b tb)(p:behindInMarks op b=false):PT X (.Compare a [op] [b] pos) (fD (tOp r ta tb)):=by
 intro d s f H Q I h;refine wpAny_isTrue_Compare1 (thn (t d s f H _ I h) λv j⟨x,D,i,n,m⟩=>thn (q d j f D _ i m) λu l⟨y,L,w,G,F⟩ =>
  thn (g d l f L x y v u _ w n G F) λc M⟨z,J,C,K,k,e,o⟩=>?_) p
 subst e;cases K;exact uO ⟨J,C,o⟩
theorem aA:(sizeLine:Nat)<2^63:=by rw[sizeLine_eq];decide
theorem jF{x:V}{us:LW}(r:Vals [x] us):∃u,us=[u]/\RelV x u:=by
 cases r with
 |cons d e=>cases e;exact⟨_,rfl,d⟩
theorem eA:lZ X (.builtin "abs") (λxs H Q=>∃i,xs=[.int i]/\Q (.int (if i<0 then -i else i)) H):=by
 intro e s f H xs us Q I r h;obtain⟨i,rfl,q⟩:=h;obtain⟨u,rfl,d,rfl⟩:=jF r;exact call_abs_int λu tk=>⟨.int (if i<0 then -i else i),H,I.tok _,⟨_,rfl⟩,q⟩
theorem Bi:lZ X (.type "int") (λxs H Q=>(∃i,xs=[.int i]/\Q (.int i) H)\/∃k,xs=[.bl k]/\Q (.int (if k then 1 else 0)) H):=by
 intro f s g H xs us Q I r h;rcases h with⟨i,rfl,q⟩|⟨k,rfl,q⟩
 ·obtain⟨u,rfl,e,rfl⟩:=jF r;exact call_int_int ⟨.int i,H,I,⟨_,rfl⟩,q⟩
 ·obtain⟨u,rfl,d⟩:=jF r;cases d;exact call_int_bool ⟨.int (if k then 1 else 0),H,I.tok _,⟨_,rfl⟩,q⟩
end
structure ObjM(h:Heap)(x dx C:Addr)(mA:MT):Prop where
 obj:h.get? x=some (PySem.W.instObj C dx)
 ns:h.Ns1 dx mA
 ne:dx≠x
theorem Nb{h:Heap}{b:Addr}{d:MT}(n:h.Ns1 b d):∃c,h.get? b=some c/\∀name,PySem.W.lookIn name c=some (d name):=by
 obtain⟨o,es,ep,f,l,g,_,k⟩:=n;refine⟨o,f,λname=>?_⟩;have e:=k name;unfold nsFind findBy at e;rw[←Array.find?_toList]at e;unfold PySem.W.lookIn;rw[l];dsimp only;split
 ·rename_i y q;rw[q]at e;exact wF some e
 ·rename_i q;rw[q]at e;have a:es.toList.any (·.refKey)=false:=by
   rw[sI];intro y j;obtain⟨z,p,m⟩:=g y (Array.mem_toList_iff.mp j);simp[DictEntry.refKey,m]
  have i:¬ es.toList.any (·.refKey)=true:=by rw[a];exact yJ
  rw[zF i];exact wF some e
theorem ObjM.look{h:Heap}{x b C:Addr}{c:MT}(I:ObjM h x b C c):∃a,PySem.W.InstAt h x (PySem.W.instObj C b) C (some a)/\∀name,PySem.W.lookIn name a=some (c name):=
 let ⟨a,d,hl⟩:=Nb I.ns
 ⟨a,⟨I.obj,rfl,rfl,d⟩,hl⟩
section
variable {prog:Program} {w:World} {A:Around} {E:VP} {s:Shared} {K:Frag} {x dx C f:Addr} {mA:MT} {name:Str} {v:Value}
theorem Na{c:Bool}{Q:VP}(X:K.In s.heap)(I:ObjM s.heap x dx C mA)(d:PySem.W.plainGet K C name=true)(hh:PySem.W.hasDictIn K C=true)
  (a:PySem.W.findIn K (.ref C) name=some none)(g:mA name=some v)(b:PySem.W.handedIn v=true)(h:Q v {s with toks:=s.toks+1}):
  wpAny (model prog w) A (getAttr (.ref x) name c) Q E s:=by
 obtain⟨i,e,hl⟩:=I.look;exact PySem.W.get_value X e (rR d).1 (PySem.W.findObj_own hh a rfl (by rw[hl,g])) b h
theorem Oz{pl:Sem Bool}{Q:Value×LW->Shared->Prop}(X:K.In s.heap)(I:ObjM s.heap x dx C mA)(a:PySem.W.plainGet K C name=true)
  (b:PySem.W.findIn K (.ref C) name=some (some (.ref f)))(g:PySem.W.isFn K (.ref f)=true)(e:mA name=none)(h:Q (.ref f,[.ref x]) s):
  wpAny (model prog w) A (getMethod (.ref x) name pl) Q E s:=by
 obtain⟨d,c,hl⟩:=I.look;exact PySem.W.method_fn X c (rR a).1 (rR a).2 b (pU.mp g) (by show(PySem.W.lookIn name d).map (·.isSome)=some false;rw[hl,e];rfl) h
theorem Oy{ns:List Str}{Q:Unit->Shared->Prop}(X:K.In s.heap)(I:ObjM s.heap x dx C mA)
  (p:PySem.W.findIn K (.ref C) "__setattr__"=some (some (.builtin "object.__setattr__")))(j:PySem.W.plainOver K C=true)(n:PySem.W.takerIn K C name=some none)(hh:PySem.W.hasDictIn K C=true)
  (k:PySem.Within mA ns)(hsz:ns.length<=sizeLine)
  (h:∀h',ObjM h' x dx C (λy=>if y=name then some v else mA y)->Heap.SameBut dx s.heap h'->Q () {s with heap:=h',toks:=s.toks+2}):
  wpAny (model prog w) A (setAttr (.ref x) name v) Q E s:=by
 obtain⟨u,c,hl⟩:=I.look;refine PySem.W.set_plain X c p (PySem.W.osa_open (s:={s with toks:=s.toks+1}) (r:=none) X c j n λb=>?_);obtain⟨t,o,i⟩:=PySem.W.any_some hh;have l:s.heap.get? x=some ⟨.ref C,some dx,.plain,#[]⟩:=I.obj;refine zA (zB (zA (zA (wpAny_loadPart l (zA (PySem.W.Looks.here (s:={s with toks:=s.toks+1}) (PySem.W.looks_clsIn X o) ?_))))));rw[i];refine zB (a:=some dx) (zA (zB (zA ?_)));refine wpAny_nsSet1 (s:={s with toks:=s.toks+1}) I.ns λh' d a=>?_;obtain⟨q,z,r,e,g,m⟩:=d.count (PySem.Within.cons name v k);refine zA (wpAny_lookBehind e (by rw[g];exact pastItsLine_dict (yH m (by rw[zW];omega))) ?_);exact zB (h _ ⟨(a.2 _ (yA I.ne)).trans I.obj,d,I.ne⟩ a)
theorem Ox{R:Result->Shared->Prop}{vs:LW}{a:List (Str×Value)}(X:K.In s.heap)(c:PySem.W.makesIn K C=true)
  (hi:PySem.W.findIn K (.ref C) "__init__"=some (some (.ref f)))(b:PySem.W.typeIn K (.ref f)=some (.type "function"))
  (h:codeAny (model prog w) (A.under (.builtin "type.__call__" ⟨.ref C:: vs,a⟩)) (.call (.ref f) ⟨.ref (s.heap.objs.size+1):: vs,a⟩) (PySem.W.InitBack (s.heap.objs.size+1) R)
   {s with heap:=(s.heap.push PySem.W.emptyDict).push (PySem.W.instObj C s.heap.objs.size)}):
  codeAny (model prog w) A (.call (.ref C) ⟨vs,a⟩) R s:=by
 obtain⟨hh,g,d,e,i⟩:=s;exact PySem.W.make_core (PySem.W.makes_of X c) (uW X hi) (λself=>PySem.W.bind_fn X self b) (.inl rfl) h
end
def putF(f:Str)(v:V):List (Str×V)->List (Str×V)
 |[]=>[(f,v)]
 |(g,x):: r=>if g=f then(g,v):: r else(g,x):: putF f v r
theorem Fb(f g:Str)(v:V):∀fs:List (Str×V),(putF f v fs).lookup g=if g=f then some v else fs.lookup g
 |[]=>by
  show List.lookup g [(f,v)]=_
  by_cases h:g=f
  ·have a:(g == f)=true:=pU.mpr h;simp only[List.lookup,a,if_pos h]
  ·have a:(g == f)=false:=pV.mpr h;simp only[List.lookup,a,if_neg h]
 | (k,x):: r=>by
  have c:=Fb f g v r;rw[show putF f v ((k,x):: r)=(if k=f then(k,v):: r else(k,x):: putF f v r) from rfl]
  by_cases b:k=f
  ·rw[zG b]
   by_cases h:g=k
   ·have a:(g == k)=true:=pU.mpr h;simp only[List.lookup,a,if_pos (h.trans b)]
   ·have a:(g == k)=false:=pV.mpr h;simp only[List.lookup,a,if_neg (λe:g=f=>h (e.trans b.symm))]
  ·rw[zF b]
   by_cases h:g=k
   ·have a:(g == k)=true:=pU.mpr h;simp only[List.lookup,a,if_neg (λe:g=f=>b (h.symm.trans e))]
   ·have a:(g == k)=false:=pV.mpr h;simp only[List.lookup,a];exact c
theorem Bh(f:Str)(v:V):∀fs:List (Str×V),f∈(putF f v fs).map (·.1)/\∀g,g∈fs.map (·.1)->g∈(putF f v fs).map (·.1)
 |[]=>⟨by simp[putF],λg h=>by simp at h⟩
 | (k,x):: r=>by
  obtain⟨c,b⟩:=Bh f v r;rw[show putF f v ((k,x):: r)=(if k=f then(k,v):: r else(k,x):: putF f v r) from rfl]
  by_cases a:k=f
  ·rw[zG a];subst a;exact⟨by simp,λg h=>by simpa using h⟩
  ·rw[zF a];refine⟨?_,λg h=>?_⟩
   ·rw[zK];exact zM _ c
   ·rw[zK]at h ⊢;rcases xE.mp h with e|e
    ·exact xE.mpr (.inl e)
    ·exact zM _ (b g e)
theorem Fa(f:Str)(v:V):∀fs:List (Str×V),(putF f v fs).length<=fs.length+1
 |[]=>by simp[putF]
 |(k,x):: r=>by
  have b:=Fa f v r;rw[show putF f v ((k,x):: r)=(if k=f then(k,v):: r else(k,x):: putF f v r) from rfl]
  by_cases a:k=f
  ·rw[zG a,zW,zW];omega
  ·rw[zF a,zW,zW];omega
theorem RelO.some_of{v:V}{o:Option Value}(r:RelO (some v) o):∃u,o=some u/\RelV v u:=by
 cases o with
 |none=>exact(show False from r).elim
 |some u=>exact⟨u,rfl,r⟩
theorem RelO.none_of{o:Option Value}(r:RelO none o):o=none:=by
 cases o with
 |none=>rfl
 |some u=>exact(show False from r).elim
theorem Ow{v:V}{u:Value}(r:RelV v u):PySem.W.handedIn u=true:=by
 cases v with
 |non=>cases(show u=Value.none from r);rfl
 |bl b=>cases(show u=Value.bool b from r);rfl
 |int i=>obtain⟨t,e⟩:=(show∃t,u=Value.int i t from r);cases e;rfl
 |str x=>obtain⟨t,e⟩:=(show∃t,u=Value.str x t from r);cases e;rfl
 |byt b=>obtain⟨t,e⟩:=(show∃t,u=Value.bytes b t from r);cases e;rfl
 |flt b=>obtain⟨t,e⟩:=(show∃t,u=Value.float b t from r);cases e;rfl
 |ref a=>cases(show u=Value.ref a from r);rfl
 |ty n=>cases(show u=Value.type n from r);rfl
section
variable {P:Program} {w:World} {H H':Hp} {h h':Heap} {a C dx:Addr} {fs fs':List (Str×V)}
theorem aB(g:HOk P w H h)(e:H a=some (.ins C dx fs)):∃b,ObjM h a dx C b/\(∀f,RelO (fs.lookup f) (b f))/\PySem.Within b (fs.map (·.1))/\fs.length<=1000/\H dx=some (.own a):=by
 obtain⟨d,z,i,c,b,n,r,q⟩:=(show mB P w H h a (.ins C dx fs) from g a _ e);exact⟨b,⟨c,n,i⟩,r,q,z,d⟩
end
structure Cls(K:Frag)(C:Addr):Prop where
 pg:PySem.W.plainGet K C Str.empty=true
 hd:PySem.W.hasDictIn K C=true
 po:PySem.W.plainOver K C=true
 sa:PySem.W.findIn K (.ref C) "__setattr__"=some (some (.builtin "object.__setattr__"))
theorem Cls.get{K:Frag}{C:Addr}(c:Cls K C)(f:Str):PySem.W.plainGet K C f=true:=c.pg
def fE(K:Frag)(C:Addr)(f:Str):Prop:=PySem.W.findIn K (.ref C) f=some none
theorem fE.taker{K:Frag}{C:Addr}{f:Str}(n:fE K C f):PySem.W.takerIn K C f=some none:=by
 unfold PySem.W.takerIn;rw[show PySem.W.findIn K (.ref C) f=some none from n];rfl
structure Meth(K:Frag)(C:Addr)(m:Str)(f:Addr):Prop where
 at_:PySem.W.findIn K (.ref C) m=some (some (.ref f))
 fn:PySem.W.isFn K (.ref f)=true
 kp:PySem.W.keepIn K (.ref f)=true
section
variable {X:Cx} {pins:PN} {σ:St} {H:Hp} {s:Shared} {a C dx:Addr} {fs:List (Str×V)} {f:Str} {v:V} {A:Around} {E:VP}
theorem Ov{b:Bool}{Q:VP}(I:Inv X pins σ H s)(e:H a=some (.ins C dx fs))(c:Cls X.K C)(n:fE X.K C f)(l:fs.lookup f=some v)
  (h:∀u s',Inv X pins σ H s'->RelV v u->Q u s'):wpAny (model X.prog X.w) A (getAttr (.ref a) f b) Q E s:=by
 obtain⟨i,O,r,_,_,_⟩:=aB I.hok e;obtain⟨u,g,d⟩:=RelO.some_of (v:=v) (o:=i f) (by rw[←l];exact r f);exact Na I.kIn O (c.get f) c.hd n g (Ow d) (h u _ (I.tok _) d)
theorem Gz{m:Str}{g:Addr}{pl:Sem Bool}{Q:Value×LW->Shared->Prop}(I:Inv X pins σ H s)(e:H a=some (.ins C dx fs))(c:Cls X.K C)(k:Meth X.K C m g)(l:fs.lookup m=none)
  (h:Q (.ref g,[.ref a]) s):wpAny (model X.prog X.w) A (getMethod (.ref a) m pl) Q E s:=by
 obtain⟨d,O,r,_,_,_⟩:=aB I.hok e;have b:d m=none:=RelO.none_of (by rw[←l];exact r m);exact Oz I.kIn O (c.get m) k.at_ k.fn b h
theorem Ou{y:V}{u:Value}{Q:Unit->Shared->Prop}(I:Inv X pins σ H s)(e:H a=some (.ins C dx fs))(c:Cls X.K C)(n:fE X.K C f)(hl:fs.length<1000)(m:RelV y u)
  (h:∀s',Inv X pins σ (upd H a (.ins C dx (putF f y fs))) s'->Q () s'):wpAny (model X.prog X.w) A (setAttr (.ref a) f u) Q E s:=by
 obtain⟨k,O,r,j,_,i⟩:=aB I.hok e;have t:(fs.map (·.1)).length<=sizeLine:=by rw[yE,sizeLine_eq];omega
 refine Oy I.kIn O c.sa c.po n.taker c.hd j t λh' d w=>h _ ?_;have D:∃o,h'.get? dx=some o:=let ⟨o,_,_,x,_⟩:=d.ns;⟨o,x⟩
 refine I.write (x:=a) (e:=dx) (by rw[e];exact True.intro) (.inr i) (λb q l z=>(w.2 b l).trans z) D ?_;refine⟨by rw[nC O.ne];exact i,?_,O.ne,d.obj,_,d.ns,λg=>?_,λg p=>?_⟩
 ·have:=Fa f y fs;omega
 ·show RelO ((putF f y fs).lookup g) (if g=f then some u else k g);rw[Fb]
  by_cases q:g=f
  ·rw[zG q,zG q];exact m
  ·rw[zF q,zF q];exact r g
 ·by_cases q:g=f
  ·rw[q];exact(Bh f y fs).1
  ·refine(Bh f y fs).2 g (j g λz=>p ?_);show(if g=f then some u else k g)=none;rw[zF q];exact z
theorem Inv.made(I:Inv X pins σ H s):Inv X pins σ (upd (upd H s.heap.objs.size (.own (s.heap.objs.size+1))) (s.heap.objs.size+1) (.ins C s.heap.objs.size []))
  {s with heap:=(s.heap.push PySem.W.emptyDict).push (PySem.W.instObj C s.heap.objs.size)}:=by
 have e1:(s.heap.push PySem.W.emptyDict).get? s.heap.objs.size=some PySem.W.emptyDict:=zT s.heap rfl;have k:((s.heap.push PySem.W.emptyDict).push (PySem.W.instObj C s.heap.objs.size)).get? (s.heap.objs.size+1)=some (PySem.W.instObj C s.heap.objs.size):=by
  have:=zT (s.heap.push PySem.W.emptyDict) (o:=PySem.W.instObj C s.heap.objs.size) rfl
  rwa[xZ]at this
 have d:(s.heap.push PySem.W.emptyDict).Ns s.heap.objs.size (λ_=>none):=⟨PySem.W.emptyDict,#[],_,e1,rfl,(λe i=>absurd i (by simp)),λ_=>rfl⟩;have g:=I.laid (a:=s.heap.objs.size) (o:=.own (s.heap.objs.size+1)) (h':=s.heap.push PySem.W.emptyDict) (t':=s.toks) (λb u q=>zC _ q) (zE _) ⟨_,e1⟩;refine g.laid (a:=s.heap.objs.size+1) (o:=.ins C s.heap.objs.size []) (t':=s.toks) (λb u q=>zC _ q) (rN (xZ _ _)) ?_;have c:s.heap.objs.size≠s.heap.objs.size+1:=zY (uY _);refine⟨by rw[nC c,oQ],yR _,c,k,λ_=>none,(Heap.Ns1.of_empty d).at λo q=>zC _ q,λ_=>True.intro,λy j=>absurd rfl j⟩
theorem Ot{prog:Program}{w:World}{env:Env}{e:Expr}{f:Str}{c:Pos}{s:Shared}{Q:VP}(b:attributeBase e f env (eval e env)=eval e env)
  (h:wpAny (model prog w) A (eval e env) (λo d=>wpAny (model prog w) A (getAttr o f true) Q E d) E s):wpAny (model prog w) A (eval (.Attribute e f c) env) Q E s:=
 Attribute_any_ h (by rw[arm_eval_Attribute,b])
end
def tFld(K:Frag)(ta:TE)(f:Str):TE:=λσ H Q=>ta σ H λx H1=>∃a C dx fs v,x=.ref a/\H1 a=some (.ins C dx fs)/\Cls K C/\fE K C f/\fs.lookup f=some v/\Q v H1
def sFld(K:Frag)(ta tv:TE)(f:Str):TS:=λD σ H=>tv σ H λy H1=>ta σ H1 λx H2=>∃a C dx fs,x=.ref a/\H2 a=some (.ins C dx fs)/\Cls K C/\fE K C f/\fs.length<1000 /\
 D.nx σ (upd H2 a (.ins C dx (putF f y fs)))
section
variable {X:Cx} {o e value:Expr} {f:Str} {pos pos' tpos:Pos} {ta tv:TE}
theorem eE(j:PE X e ta)(b:attributeBase e f X.env (eval e X.env)=eval e X.env):PE X (.Attribute e f pos) (tFld X.K ta f):=by
 intro p s d H Q I h;refine Ot b (thn (j p s d H _ I h) ?_);rintro u D ⟨x,t,g,i,a,C,y,fs,v,w,r,c,n,l,q⟩;subst w;obtain rfl:u=Value.ref a:=i;exact Ov g r c n l λz F k m=>⟨v,t,k,m,q⟩
theorem dU(v:PE X o ta)(r:PE X value tv)(t:swapsWith value (some (.Attribute o f pos')) pos.line X.env=pure false):PS X (.Assign [.Attribute o f pos'] value pos) (sFld X.K ta tv f):=by
 intro d s b H D I h;refine plainObj_wpAny_Assign_Attribute (thn (r d s b H _ I h) λu j⟨y,F,g,i,q⟩=>thn (v d j b F _ g q) ?_) t;rintro m L ⟨x,N,w,J,a,C,M,fs,p,k,c,n,l,G⟩;subst p;obtain rfl:m=Value.ref a:=J;exact Ou w k c n l i λK z=>⟨b,_,z,G⟩
end
section
variable {X:Cx} {pins:PN} {σ:St} {H:Hp} {s:Shared} {A:Around} {E:VP} {Q:VP} {c:Value} {b:Bool}
inductive TyOf(K:Frag)(H:Hp):V->Value->Prop where
 |non:TyOf K H .non (.type "NoneType")
 |bl (x:Bool):TyOf K H (.bl x) (.type "bool")
 |int (i:Int):TyOf K H (.int i) (.type "int")
 |str (x:Str):TyOf K H (.str x) (.type "str")
 |flt (x:UInt64):TyOf K H (.flt x) (.type "float")
 |lst {a:Addr} {xs:List V} (e:H a=some (.lst xs)):TyOf K H (.ref a) (.type "list")
 |frz {a:Addr} {o:Obj} {xs:List V} (e:H a=some (.frz o (.lst xs))):TyOf K H (.ref a) (.type "list")
 |tup {a:Addr} {xs:List V} (e:H a=some (.tup xs)):TyOf K H (.ref a) (.type "tuple")
 |dK {a:Addr} {kvs:List (Key×V)} (e:H a=some (.dK kvs)):TyOf K H (.ref a) (.type "dict")
 |dT {a:Addr} {kvs:List (List Key×V)} (e:H a=some (.dT kvs)):TyOf K H (.ref a) (.type "dict")
 | ins {a C dx:Addr} {fs:List (Str×V)} (e:H a=some (.ins C dx fs)) (cl:Cls K C) (ha:PySem.W.findIn K (.ref C) "__class__"=some (some (.builtin "object.__class__")))
   (hn:PySem.W.specialIn K (.builtin "object.__class__") "__get__"=some (some (.builtin "getset_descriptor.__get__"))) (htk:PySem.W.takesIn K (.builtin "object.__class__")=some true)
   (hm:PySem.W.mroIn K C (.type "object")=some true):TyOf K H (.ref a) (.ref C)
theorem Os{x:V}{u d:Value}(I:Inv X pins σ H s)(f:RelV x u)(ty:TyOf X.K H x d)(e:PySem.W.kitOne X.K d c=some b)(h:∀tk,Q (.bool b) {s with toks:=tk}):
  wpAny (model X.prog X.w) A (call (.builtin "isinstance") [u,c]) Q E s:=by
 cases ty with
 |non=>cases(show u=Value.none from f);exact xO PySem.W.kitx_none I.kIn True.intro e (λz=>nomatch z) h
 |bl y=>cases(show u=Value.bool y from f);exact xO PySem.W.kitx_bool I.kIn True.intro e (λz=>nomatch z) h
 |int i=>obtain⟨d,q⟩:=(show∃d,u=Value.int i d from f);cases q;exact xO PySem.W.kitx_int I.kIn True.intro e (λz=>nomatch z) h
 |str y=>obtain⟨d,q⟩:=(show∃d,u=Value.str y d from f);cases q;exact xO PySem.W.kitx_str I.kIn True.intro e (λz=>nomatch z) h
 |flt y=>obtain⟨d,q⟩:=(show∃d,u=Value.float y d from f);cases q;exact xO PySem.W.kitx_float I.kIn True.intro e (λz=>nomatch z) h
 |@lst a xs g =>
  cases(show u=Value.ref a from f);obtain⟨_,_,n,_,j⟩:=(show mB X.prog X.w H s.heap a (.lst xs) from I.hok a _ g);exact xO PySem.W.kitx_list I.kIn ⟨_,j,rfl⟩ e (λz=>nomatch z) h
 |@frz a D xs g =>
  cases(show u=Value.ref a from f);obtain⟨_,_,_,n,_,j⟩:=(show mB X.prog X.w H s.heap a (.frz D (.lst xs)) from I.hok a _ g);exact xO PySem.W.kitx_list I.kIn ⟨_,j,rfl⟩ e (λz=>nomatch z) h
 |@tup a xs g =>
  cases(show u=Value.ref a from f);obtain⟨_,_,_,p⟩:=(show mB X.prog X.w H s.heap a (.tup xs) from I.hok a _ g);obtain⟨o,j,k,_⟩:=p;exact xO PySem.W.kitx_tuple I.kIn ⟨o,j,k⟩ e (λz=>nomatch z) h
 |@dK a kvs g =>
  cases(show u=Value.ref a from f);obtain⟨_,_,vs,_,p⟩:=(show mB X.prog X.w H s.heap a (.dK kvs) from I.hok a _ g);obtain⟨o,es,ep,j,k,_⟩:=p;exact xO PySem.W.kitx_dict I.kIn ⟨o,j,k.1⟩ e (λz=>nomatch z) h
 |@dT a kvs g =>
  cases(show u=Value.ref a from f);obtain⟨_,_,xs,_,o,es,ep,j,k,_⟩:=(show mB X.prog X.w H s.heap a (.dT kvs) from I.hok a _ g);exact xO PySem.W.kitx_dict I.kIn ⟨o,j,k.1⟩ e (λz=>nomatch z) h
 |@ins a C F fs g l m t r w =>
  cases(show u=Value.ref a from f);obtain⟨J,O,_⟩:=aB I.hok g;obtain⟨G,v,_⟩:=O.look;exact xO (PySem.W.kitx_own (l.get _) l.hd m t r w) I.kIn v e (λz=>nomatch z) h
end
structure Room(k:Nat)(A:Around):Prop where
 hd:A.handled=none
 dp:A.depth+3*k+5<recursionLimit
 un:A.units+16*k+200<cLine
theorem Room.mono{j k:Nat}{A:Around}(r:Room k A)(h:j<=k):Room j A:=⟨r.hd,by have:=r.dp;omega,by have:=r.un;omega⟩
theorem Room.mo{j k:Nat}{A:Around}(r:Room k A)(h:j<=k:=by first|decide|omega):Room j A:=r.mono h
theorem Room.deeper{k:Nat}{A:Around}(r:Room (k+1) A)(env:Env):Room k (A.deeper env):=
 ⟨r.hd,by have:=r.dp;show A.depth+1+3*k+5<_;omega,by have:=r.un;show A.units+3+16*k+200<_;omega⟩
theorem Oq{A:Around}{C:Addr}{us:LW}{a:List (Str×Value)}:(A.under (.builtin "type.__call__" ⟨.ref C:: us,a⟩)).depth=A.depth+1:=by
 first|rfl|simp[Around.under,Code.weight,Code.isCreation,Code.isGuard,Code.isCaller,Code.frames,Code.isFrame,guardIds]
theorem Op{A:Around}{C:Addr}{us:LW}{a:List (Str×Value)}:(A.under (.builtin "type.__call__" ⟨.ref C:: us,a⟩)).units=A.units+1:=by
 first|rfl|simp[Around.under,Code.cUnits,Code.frames,Code.isFrame]
theorem Room.make{k:Nat}{A:Around}(r:Room (k+1) A)(C:Addr)(us:LW)(a:List (Str×Value)):Room k (A.under (.builtin "type.__call__" ⟨.ref C:: us,a⟩)):=
 ⟨r.hd,by have:=r.dp;rw[Oq];omega,by have:=r.un;rw[Op];omega⟩
theorem Room.depth{k:Nat}{A:Around}(r:Room k A):A.depth<recursionLimit:=by have:=r.dp;omega
theorem Room.units{k:Nat}{A:Around}(r:Room k A):A.units+64<cLine:=by have:=r.un;omega
def tNil:TA:=λ_ H Q=>Q [] H
def oV(ta:TE)(tr:TA):TA:=λσ H Q=>ta σ H λx H1=>tr σ H1 λxs H2=>Q (x:: xs) H2
section
variable {X:Cx} {e:Expr} {es:List Expr} {te:TE} {t:TA} {pos:Pos}
theorem oM:PA X [] tNil:=λ_ _ _ _ H Q I h=>Calls.spliced_nil ⟨[],H,I,.nil,h⟩
theorem oK(d:PE X e te)(hr:PA X es t)(o:starEach (e:: es) X.env=(false,eval e X.env):: starEach es X.env:=by rfl):PA X (e:: es) (oV te t):=by
 intro pos b s a H Q I h;rw[o];show wpAny _ _ (spliced ((false,eval e X.env):: backTo pos (starEach es X.env))) _ _ s;refine Calls.spliced_cons (thn (d b s a H _ I h) ?_);rintro u j ⟨x,l,g,k,c⟩;exact thn (hr pos b j a l _ g c) λus p⟨xs,n,i,f,m⟩=>⟨x:: xs,n,i,.cons k f,m⟩
def tTup(t:TA):TE:=λσ H Q=>t σ H λxs H1=>xs.length<=sizeLine/\∀p,H1 p=none->Q (.ref p) (upd H1 p (.tup xs))
def tLst(t:TA):TE:=λσ H Q=>t σ H λxs H1=>xs.length<=sizeLine/\∀p,H1 p=none->Q (.ref p) (upd H1 p (.lst xs))
theorem mG{i}(h:PA X es t):PE X (.Tuple es i pos) (tTup t):=by
 intro k s g H Q I f;refine wpAny_Tuple_spliced (thn (h pos k s g H _ I f) λus a⟨xs,d,c,r,z,q⟩=>⟨by rw[←r.length];exact z,?_⟩);have j:d a.heap.objs.size=none:=c.hok.fresh (zE _);refine⟨.ref a.heap.objs.size,upd d a.heap.objs.size (.tup xs),c.laid (t':=a.toks) (λb u e=>zC _ e) (zE _) ?_,rfl,q _ j⟩;exact⟨z,us,r,⟨_,zT _ rfl,rfl,_,rfl⟩⟩
theorem lO(h:PA X es t):PE X (.List es pos) (tLst t):=by
 intro j s g H Q I f;refine wpAny_List_spliced (thn (h pos j s g H _ I f) λus a⟨xs,d,c,r,z,q⟩=>⟨by rw[←r.length];exact z,?_⟩);have i:d a.heap.objs.size=none:=c.hok.fresh (zE _);refine⟨.ref a.heap.objs.size,upd d a.heap.objs.size (.lst xs),c.laid (t':=a.toks) (λb u e=>zC _ e) (zE _) ?_,rfl,q _ i⟩;exact⟨z,us,0,r,zT _ rfl⟩
end
abbrev Sp:=List V->Hp->VK->XK->Prop
abbrev CXT:=List Env->Hp->Shared->XK->VP
structure Env0(P:Program)(w:World)(K:Frag)(mg:MT)(base:Heap)(A:Around)(outer:List Env)(s:Shared)(H:Hp):Prop where
 frames:A.frames=some outer
 mod:Mod K mg base
 bs:∀b o,base.get? b=some o->s.heap.get? b=some o/\H b=none
 bsz:base.objs.size<=s.heap.objs.size
 funs:s.heap.FunFrames base outer
 frf:∀b∈frs outer,H b=none
 hok:HOk P w H s.heap
 bare:AllBare s.gens
def CE(outer:List Env)(P:Program)(w:World)(H:Hp)(s:Shared)(Q:VK)(u:Value)(s':Shared):Prop:=
 ∃v H',s'.os=s.os/\AllBare s'.gens/\Un (frs outer) [] H H' s.heap s'.heap/\HOk P w H' s'.heap/\RelV v u/\Q v H'
def CR(CX:CXT)(outer:List Env)(P:Program)(w:World)(H:Hp)(s:Shared)(Q:VK)(E:XK)(r:Result)(s':Shared):Prop:=
 match r with
 |.ok (.ret u)=>CE outer P w H s Q u s'
 |.ok _=>False
 |.error e=>CX outer H s E e s'
structure FnOk(P:Program)(w:World)(K:Frag)(mg:MT)(base:Heap)(CX:CXT)(k:Nat)(f:Addr)(fd:FuncData)(ps:List Str)(sp:Sp):Prop where
 len:∀vs H Q E,sp vs H Q E->vs.length=ps.length
 run:∀(A:Around)(outer:List Env)(s:Shared)(H:Hp)(args:Args)(us:LW)(vs:List V)(Q:VK)(E:XK),Room k A->Env0 P w K mg base A outer s H->BindsTo s fd args (ps.zip us)->Vals vs us->sp vs H Q E ->
  codeAny (model P w) A (.call (.ref f) args) (CR CX outer P w H s Q E) s
theorem Env0.make{P:Program}{w:World}{K:Frag}{b:MT}{a:Heap}{A:Around}{outer:List Env}{s:Shared}{H:Hp}(e:Env0 P w K b a A outer s H)(C:Addr)(us:LW)(c:List (Str×Value)):
  Env0 P w K b a (A.under (.builtin "type.__call__" ⟨.ref C:: us,c⟩)) outer s H:=⟨by first|exact e.frames|(simpa [Around.under,Code.envs,Code.isFrame,pushEnvs]using e.frames),e.mod,e.bs,e.bsz,e.funs,e.frf,e.hok,e.bare⟩
section
variable {X:Cx} {pins:PN} {σ:St} {H:Hp} {s s':Shared}
theorem Inv.env0(I:Inv X pins σ H s):Env0 X.prog X.w X.K X.mg X.base X.A X.stack s H:=
 ⟨I.ok.frames,I.ok.mod,I.bs,yH I.ok.bsz I.sz,I.stack,I.stkFree,I.hok,I.bare⟩
theorem Inv.after{Q:VK}{u:Value}(I:Inv X pins σ H s)(h:CE X.stack X.prog X.w H s Q u s'):EP X pins σ Q u s':=by
 obtain⟨v,H',i,a,un,c,r,q⟩:=h;obtain⟨hh,g,d,e,f⟩:=s';obtain rfl:f=s.os:=i;exact⟨v,H',I.call (h':=hh) (g':=g) (d':=d) (t':=e) (ch:=[]) un c a (λb z=>absurd z (by simp)),r,q⟩
end
def mC(sp:Sp)(dvs:List V)(E:XK)(t:TA):TE:=λσ H Q=>t σ H λvs H1=>sp (vs++dvs) H1 Q E
def mU(C:Addr)(m:Str)(sp:Sp)(dvs:List V)(E:XK)(ta:TE)(t:TA):TE:=λσ H Q=>ta σ H λx H1=>∃a dx fs,x=.ref a/\H1 a=some (.ins C dx fs)/\fs.lookup m=none /\
 t σ H1 λvs H2=>sp (x:: (vs++dvs)) H2 Q E
def eF(C:Addr)(sp:Sp)(dvs:List V)(E:XK)(t:TA):TE:=λσ H Q=>t σ H λvs H1=>∀x dx,H1 x=none->H1 dx=none->dx≠x ->
 sp (.ref x:: (vs++dvs)) (upd (upd H1 dx (.own x)) x (.ins C dx [])) (λv H2=>v=.non/\Q (.ref x) H2) E
def lB(K:Frag)(fd:FuncData)(ps:List Str)(ds:LW):Prop:=
 ∀(s:Shared)(us:LW),K.In s.heap->(us++ds).length=ps.length->BindsTo s fd ⟨us,[]⟩ (ps.zip (us++ds))
theorem lB.all{K:Frag}{a:FuncData}{ps:List Str}(h:∀us:LW,us.length=ps.length->bindArgs a ⟨us,[]⟩=pure (ps.zip us)):lB K a ps []:=λs us _ hl=>by
 rw[wX]at hl ⊢;exact .of_eq (h us hl)
def gE(CX:CXT)(X:Cx)(E:XK):Prop:=∀(pins:PN)(σ:St)(H:Hp)(s:Shared)(e:Value)(s':Shared),Inv X pins σ H s->CX X.stack H s E e s'->X.xe e s'
section
variable {X:Cx} {CX:CXT} {k:Nat} {f C:Addr} {fd:FuncData} {ps:List Str} {sp:Sp} {dvs:List V} {ds:LW} {E:XK} {x m:Str} {p pos apos:Pos} {e o:Expr} {es:List Expr} {ta:TE} {t:TA}
theorem Bg{c:PN}{b:St}{H:Hp}{s:Shared}{Q:VK}{us:LW}{vs:List V}(F:FnOk X.prog X.w X.K X.mg X.base CX k f fd ps sp)(hr:Room k X.A)(g:lB X.K fd ps ds)(j:Vals dvs ds)(i:gE CX X E)
  (I:Inv X c b H s)(r:Vals vs us)(h:sp (vs++dvs) H Q E):wpAny (model X.prog X.w) X.A (call (.ref f) us) (EP X c b Q) X.xe s:=by
 have d:Vals (vs++dvs) (us++ds):=r.append j;have hl:(us++ds).length=ps.length:=by rw[←d.length];exact F.len _ _ _ _ h
 refine pC (rD (F.run X.A X.stack s H ⟨us,[]⟩ (us++ds) (vs++dvs) Q E hr I.env0 (g s us I.kIn hl) d h) λr s' a=>?_);cases r with
 |error e=>exact i c b H s e s' I a
 |ok fl =>
  cases fl with
  |ret u=>exact I.after a
  |next=>exact False.elim a
  |brk=>exact False.elim a
  |cont=>exact False.elim a
theorem kK(F:FnOk X.prog X.w X.K X.mg X.base CX k f fd ps sp)(hr:Room k X.A)(l:Gl X x)(n:X.mg x=some (.ref f))(b:PySem.W.keepIn X.K (.ref f)=true)(c:lB X.K fd ps ds)(v:Vals dvs ds)(u:gE CX X E)
  (d:PA X (e:: es) t)(y:(x == ("__debug__" :Str))=false:=by decide)(i:starEach (e:: es) X.env=(false,eval e X.env):: starEach es X.env:=by rfl)(w:(backTo pos (starEach es X.env)).any (·.1)=false:=by rfl):
  PE X (.Call (.Name x p) (e:: es) [] pos) (mC sp dvs E t):=by
 intro j s g H Q I h;refine wT (fZ I l n ?_ y);refine tY (h₀:=X.base) I.ok.mod.kin b (thn (d pos j s g H _ I h) λus z⟨vs,D,a,r,q⟩=>⟨a.kIn,?_⟩) i w;exact Bg F hr c v u a r q
theorem aC{pl:Sem Bool}(v:PE X o ta)(c:Cls X.K C)(i:Meth X.K C m f)(F:FnOk X.prog X.w X.K X.mg X.base CX k f fd ps sp)(hr:Room k X.A)(K:lB X.K fd ps ds)(D:Vals dvs ds)(z:gE CX X E)(L:PA X (e:: es) t)
  (P:starEach (e:: es) X.env=(false,eval e X.env):: starEach es X.env:=by rfl)(G:(backTo pos (starEach es X.env)).any (·.1)=false:=by rfl)
  (O:eval (.Call (.Attribute o m apos) (e:: es) [] pos) X.env=(do
   let g ←eval o X.env
   standAt apos.atName
   let (f,first) ←holding [g] (getMethod g m pl)
   callWith pos f first (backTo pos (starEach (e:: es) X.env)) (backToKw pos (keywordEach [] X.env))):=by rfl):
  PE X (.Call (.Attribute o m apos) (e:: es) [] pos) (mU C m sp dvs E ta t):=by
 intro d s j H Q I h;refine PySem.W.methodCall_KW (pl:=pl) (thn (v d s j H _ I h) ?_) O;rintro u w ⟨x,M,b,R,a,T,fs,J,y,l,q⟩;subst J;obtain rfl:u=Value.ref a:=R;refine Gz b y c i l ?_;refine tY (first:=[.ref a]) (h₀:=X.base) I.ok.mod.kin i.kp (thn (L pos d w j M _ b q) λus S⟨vs,U,n,r,N⟩=>⟨n.kIn,?_⟩) P G;exact Bg (us:=.ref a:: us) (vs:=.ref a:: vs) F hr K D z n (.cons rfl r) N
theorem kA{pl:Sem Bool}(r:PE X o ta)(c:Cls X.K C)(d:Meth X.K C m f)(F:FnOk X.prog X.w X.K X.mg X.base CX k f fd ps sp)(hr:Room k X.A)(i:lB X.K fd ps ds)(z:Vals dvs ds)(y:gE CX X E)
  (D:eval (.Call (.Attribute o m apos) [] [] pos) X.env=(do
   let g ←eval o X.env
   standAt apos.atName
   let (f,first) ←holding [g] (getMethod g m pl)
   callWith pos f first (backTo pos (starEach [] X.env)) (backToKw pos (keywordEach [] X.env))):=by rfl):
  PE X (.Call (.Attribute o m apos) [] [] pos) (mU C m sp dvs E ta tNil):=by
 intro v s j H Q I h;refine PySem.W.methodCall_KW (pl:=pl) (thn (r v s j H _ I h) ?_) D;rintro u K ⟨x,L,b,n,a,J,fs,G,w,l,q⟩;subst G;obtain rfl:u=Value.ref a:=n;refine Gz b w c d l ?_;exact PySem.W.callWith_K0 (first:=[.ref a]) b.kIn d.kp (Bg (us:=[.ref a]) (vs:=[.ref a]) F hr i z y b (.cons rfl .nil) q)
structure Mk(K:Frag)(C f:Addr):Prop where
 makes:PySem.W.makesIn K C=true
 init:PySem.W.findIn K (.ref C) "__init__"=some (some (.ref f))
 fn:PySem.W.isFn K (.ref f)=true
 kp:PySem.W.keepIn K (.ref C)=true
theorem Oo{g:PN}{d:St}{H:Hp}{s:Shared}{Q:VK}{us:LW}{vs:List V}(M:Mk X.K C f)(F:FnOk X.prog X.w X.K X.mg X.base CX k f fd ps sp)(hr:Room (k+1) X.A)(l:lB X.K fd ps ds)(z:Vals dvs ds)
  (y:gE CX X E)(I:Inv X g d H s)(r:Vals vs us)
  (h:∀x b,H x=none->H b=none->b≠x->sp (.ref x:: (vs++dvs)) (upd (upd H b (.own x)) x (.ins C b [])) (λv D=>v=.non/\Q (.ref x) D) E):
  wpAny (model X.prog X.w) X.A (call (.ref C) us) (EP X g d Q) X.xe s:=by
 have j:=h (s.heap.objs.size+1) s.heap.objs.size (I.hok.fresh (pJ _)) (I.hok.fresh (zE _)) (zY (uY _));have c:=Inv.made (C:=C) I;have i:Vals (V.ref (s.heap.objs.size+1):: (vs++dvs)) (Value.ref (s.heap.objs.size+1):: (us++ds)):=.cons rfl (r.append z);have hl:(Value.ref (s.heap.objs.size+1):: us++ds).length=ps.length:=by
  have e:=i.length;rw[F.len _ _ _ _ j]at e;exact e.symm
 refine pC (Ox (f:=f) I.kIn M.makes M.init (pU.mp M.fn) (rD (F.run _ X.stack _ _ ⟨Value.ref (s.heap.objs.size+1):: us,[]⟩ (Value.ref (s.heap.objs.size+1):: (us++ds)) _ _ E (hr.make C us [])
  (c.env0.make C us []) (l _ (Value.ref (s.heap.objs.size+1):: us) c.kIn hl) i j) λr s' a=>?_))
 cases r with
 |error e=>exact y g d _ _ e s' c a
 | ok fl =>
  cases fl with
  |ret u =>
   obtain⟨v,H',q,G,n,w⟩:=c.after a;subst n;exact⟨G,⟨V.ref (s.heap.objs.size+1),H',q,rfl,w⟩⟩
  |next=>exact False.elim a
  |brk=>exact False.elim a
  |cont=>exact False.elim a
theorem dW(M:Mk X.K C f)(F:FnOk X.prog X.w X.K X.mg X.base CX k f fd ps sp)(hr:Room (k+1) X.A)(j:Gl X x)(l:X.mg x=some (.ref C))(b:lB X.K fd ps ds)(u:Vals dvs ds)(n:gE CX X E)
  (c:PA X (e:: es) t)(w:(x == ("__debug__" :Str))=false:=by decide)(g:starEach (e:: es) X.env=(false,eval e X.env):: starEach es X.env:=by rfl)(v:(backTo pos (starEach es X.env)).any (·.1)=false:=by rfl):
  PE X (.Call (.Name x p) (e:: es) [] pos) (eF C sp dvs E t):=by
 intro i s d H Q I h;refine wT (fZ I j l ?_ w);refine tY (h₀:=X.base) I.ok.mod.kin M.kp (thn (c pos i s d H _ I h) λus y⟨vs,z,a,r,q⟩=>⟨a.kIn,?_⟩) g v;exact Oo M F hr b u n a r q
end
section
variable {X:Cx} {CX:CXT} {k:Nat} {f C:Addr} {fd:FuncData} {ps ks:List Str} {sp:Sp} {E:XK} {x m:Str} {p pos apos kpos:Pos} {e o:Expr} {es:List Expr} {kws:List Keyword} {te ta:TE} {t tk:TA} {nm:Option Str}
variable {g:LW->LW->LW} {gV:List V->List V->List V}
end
structure nB(N P:List Str)(sc:Scope):Prop where
 kind:sc.kind=.function
 co:sc.isCoroutine=false
 gen:sc.isGenerator=false
 nd:N.Nodup
 pre:N.take P.length=P
 par:∀x∈P,sc.names.lookup x=some .local\/sc.names.lookup x=some .cell
 nofree:∀y∈sc.names,y.2≠.free
theorem Gy{b:Str->Option NameKind}{x:Str}:∀{binds:List (Str×Value)}{m:MT},(∀v,(x,v)∉binds)->bindL b binds m x=m x
 |[],_,_=>rfl
 | (n,v):: r,m,h=>by
  unfold bindL;rw[Gy λw a=>h w (zM _ a)];split
  ·have:x≠n:=by rintro rfl;exact h v zU
   simp[this]
  ·rfl
theorem Gx{b:Str->Option NameKind}{x:Str}:∀{binds:List (Str×Value)}{m:MT},(∀v,(x,v)∉binds)->bindC b binds m x=m x
 |[],_,_=>rfl
 | (n,v):: r,m,h=>by
  unfold bindC;rw[Gx λw a=>h w (zM _ a)];split
  ·rfl
  ·have:x≠n:=by rintro rfl;exact h v zU
   simp[this]
theorem Gw{c:Str->Option NameKind}{x:Str}{v:Value}:∀{P:List Str}{vs:LW}{i:Nat}{m:MT},P.Nodup->P[i]?=some x->vs[i]?=some v->c x=some .local ->
  bindL c (P.zip vs) m x=some v
 |[],_,_,_,_,h,_,_=>by simp at h
 |_:: _,[],_,_,_,_,h,_=>by simp at h
 |p:: P,w:: vs,0,m,e,a,b,d=>by
  simp at a b;subst a;subst b;show bindL c ((p,w):: P.zip vs) m p=_;unfold bindL;rw[Gy λv f=>(rK.mp e).1 (rF f).1,zG d];simp
 |p:: P,w:: vs,i+1,m,e,a,b,d=>by
  show bindL c ((p,w):: P.zip vs) m x=_;unfold bindL;exact Gw (i:=i) (rK.mp e).2 (by simpa using a) (by simpa using b) d
theorem Gv{c:Str->Option NameKind}{x:Str}{v:Value}:∀{P:List Str}{vs:LW}{i:Nat}{m:MT},P.Nodup->P[i]?=some x->vs[i]?=some v->c x≠some .local ->
  bindC c (P.zip vs) m x=some v
 |[],_,_,_,_,h,_,_=>by simp at h
 |_:: _,[],_,_,_,_,h,_=>by simp at h
 |p:: P,w:: vs,0,m,e,a,b,d=>by
  simp at a b;subst a;subst b;show bindC c ((p,w):: P.zip vs) m p=_;unfold bindC;rw[Gx λv f=>(rK.mp e).1 (rF f).1,zF d];simp
 |p:: P,w:: vs,i+1,m,e,a,b,d=>by
  show bindC c ((p,w):: P.zip vs) m x=_;unfold bindC;exact Gv (i:=i) (rK.mp e).2 (by simpa using a) (by simpa using b) d
def iE(N:List Str)(vs:List V):St:=vs.map some++List.replicate (N.length-vs.length) none
def cxOf(CX:CXT)(P:Program)(w:World)(K:Frag)(mg:MT)(base:Heap)(N:List Str)(qual:Str)(scope:Scope)(f:Addr)(cd:Value)(A:Around)(outer:List Env)(s:Shared)(H:Hp)(E:XK):Cx where
 prog:=P
 w:=w
 K:=K
 mg:=mg
 base:=base
 A:=A.deeper (envOfC qual scope s.heap.objs.size f cd)
 N:=N
 s₀:=s
 H₀:=H
 env:=envOfC qual scope s.heap.objs.size f cd
 outer:=outer
 stack:=envOfC qual scope s.heap.objs.size f cd:: outer
 ex:=[]
 calm:=true
 fn:=λ_=>true
 pn:=[]
 xe:=λe s'=>wpAny (model P w) (A.deeper (envOfC qual scope s.heap.objs.size f cd)) (leaving (envOfC qual scope s.heap.objs.size f cd) e) (λ_ s''=>CX outer H s E e s'') (λe' s''=>CX outer H s E e' s'') s'
theorem Gu{sc:Scope}{n:Nat}{x:Str}(h:sc.names.lookup x=some .cell):∃c,(cellsFrom n sc.names []).lookup x=some c:=by
 have q:=PySem.W.cellsFrom_some sc.names n [] (.inl h);exact Option.isSome_iff_exists.mp q
theorem On{I:CXT}{P:Program}{w:World}{K:Frag}{G:MT}{D:Heap}{N ps:List Str}{o:Str}{j:Scope}{f:Addr}{t:Value}{A:Around}{outer:List Env}{s J:Shared}{H:Hp}{E:XK}{us:LW}{vs:List V}
  (m:nB N ps j)(R:A.handled=none)(g:Env0 P w K G D A outer s H)(hl:vs.length=ps.length)(r:Vals vs us)
  (x:InCallC s s.heap.objs.size (bindL (envOfC o j s.heap.objs.size f t).kindOf (ps.zip us) λ_=>none) (cellsFrom (s.heap.objs.size+1) j.names []) (bindC (envOfC o j s.heap.objs.size f t).kindOf (ps.zip us) λ_=>none) J):
  Inv (cxOf I P w K G D N o j f t A outer s H E) [] (iE N vs) H J:=by
 have U:ps.length<=N.length:=by have:=wF List.length m.pre;rw[yS]at this;omega
 obtain⟨C,tk,rfl,L⟩:=x.done;have F:∀b:Addr,b∉(cxOf I P w K G D N o j f t A outer s H E).ex:=λb z=>absurd (show b∈([]:LA) from z) (by simp);refine⟨⟨g.mod,m.kind,rfl,rfl,zE _,λy z c C d=>?_,λy l=>?_,λy c _ h=>?_,λ_=>R,Around.frames_deeper g.frames,.inr ⟨rfl,rfl⟩,λb z=>absurd z (F b),g.bs,g.bsz,λb _ _=>F b,λb z=>absurd z (F b),g.funs,g.frf⟩,
  rfl,g.bare,Un.kept L,⟨_,x.toInCall.ns,λi y v C d W=>?_⟩,λy c h=>⟨_,x.cell y c h⟩,g.hok.fresh (zE _),λy c h=>?_,λp n=>absurd (show p∈([]:PN) from n) (by simp),g.hok.kept L,?_⟩
 ·exact name_of_addr x.apart (vB C) (vB d)
 ·have l:j.names.lookup y=some .cell\/j.names.lookup y=some .free:=l;rcases l with l|l
  ·exact Gu l
  ·exact absurd rfl (m.nofree _ (vB l))
 ·exact wA (x.above y c (vB h))
 ·have hi:i<vs.length:=by
   unfold iE at d
   by_cases hi:i<vs.length
   ·exact hi
   ·rw[yG (by simpa using hi)]at d;rw[sH]at d;split at d <;> cases d
  have S:vs[i]?=some v:=by
   unfold iE at d;rw[yT (by simpa using hi),zD]at d;cases e:vs[i]? with
   |none=>rw[e]at d;cases d
   |some a=>rw[e]at d;cases d;rfl
  obtain⟨u,M,T⟩:=r.get S;have n:ps[i]?=some y:=by
   rw[←m.pre,tW ⋯];exact C
  have O:ps.Nodup:=by rw[←m.pre];exact m.nd.sublist (List.take_sublist _ _)
  refine⟨u,T,?_⟩;rcases m.par y (yF n) with k|k
  ·exact .inl ⟨k,Gw O n M k⟩
  ·obtain⟨c,e⟩:=Gu (n:=s.heap.objs.size+1) k;refine .inr ⟨.inl k,c,e,?_⟩;have q:=x.cell y c e;rw[Gv O n M (by show j.names.lookup y≠_;rw[k];decide)]at q;exact q
 ·exact g.hok.fresh (wA (x.above y c (vB h)))
 ·unfold iE;show _=N.length;rw[zS,yE,xH];omega
theorem Bf{m:CXT}{P:Program}{w:World}{K:Frag}{t:MT}{l:Heap}{k:Nat}{f:Addr}{name d:Str}{L:Arguments}{body:List Stmt}{a:Scope}{J kV F S cdv T a4:Value}{O a5:Option Addr}
  {a0:Array (Option Value)}{N ps:List Str}{z:Sp}(X:K.lookup f=some ⟨a4,a5,.func (PySem.W.fnOf name d L body a J kV F S O cdv T),a0⟩)(a6:PySem.W.codeIn K cdv d=true)(j:nB N ps a)
  (len:∀vs H Q E,z vs H Q E->vs.length=ps.length)
  (Y:∀(A:Around)(outer:List Env)(s:Shared)(H:Hp)(vs:List V)(Q:VK)(E:XK),Room k (A.deeper (envOfC d a s.heap.objs.size f cdv))->z vs H Q E ->
   ∃C,PSs (cxOf m P w K t l N d a f cdv A outer s H E) body C/\C {nx:=λ_ H'=>Q .non H',rt:=Q} (iE N vs) H):
  FnOk P w K t l m (k+1) f (PySem.W.fnOf name d L body a J kV F S O cdv T) ps z:=by
 refine⟨len,λA outer s H a8 us vs Q E hr i a1 r R=>?_⟩;have hl:=len _ _ _ _ R;have KX:K.In s.heap:=i.mod.kin.keeps λb o e=>(i.bs b o e).1;have Z:s.heap.NoLimit:=i.mod.nolimit.keeps λb o e=>(i.bs b o e).1;have a2:∀y∈ps.zip us,a.names.lookup y.1=some .local\/(a.names.lookup y.1=some .cell/\((cellsFrom (s.heap.objs.size+1) a.names []).lookup y.1).isSome=true):=λ⟨n,v⟩U=>by
  rcases j.par n (rF U).1 with q|q
  ·exact .inl q
  ·exact .inr ⟨q,PySem.W.cellsFrom_some _ _ _ (.inl q)⟩
 refine codeAny_call_function hr.depth (KX _ _ X) rfl j.co j.gen rfl (PySem.W.codeRec_of KX a6) (a1 _ _ _ _ ?_);refine wpAny_newFunctionEnv_cells j.kind a2 λenv W G x=>?_;subst W;refine⟨Z.keeps x.toInCall.keep,codeAny_func ?_⟩;obtain⟨C,a7,a3⟩:=Y A outer s H vs Q E (hr.deeper _) R;have I:Inv (cxOf m P w K t l N d a f cdv A outer s H E) [] (iE N vs) H G:=On j hr.hd i hl r x;refine xG (a7 [] G (iE N vs) H _ I a3) (λfl s' g=>?_) λe s' g=>g;have M:∀{p:St}{H':Hp}{v:V}{u:Value},Inv (cxOf m P w K t l N d a f cdv A outer s H E) [] p H' s'->RelV v u->Q v H'->CE outer P w H s Q u s':=
  λ{p H' v u}c D q=>⟨v,H',c.os,c.bare,c.base,c.hok,D,q⟩
 cases fl with
 |ret u =>
  obtain⟨v,p,H',c,D,q⟩:=g;exact M c D q
 |next =>
  obtain⟨p,H',c,q⟩:=g;exact M (v:=V.non) (u:=Value.none) c rfl q
 |brk =>
  obtain⟨_,_,_,q⟩:=g;exact False.elim q
 |cont =>
  obtain⟨_,_,_,q⟩:=g;exact False.elim q
section
variable {X:Cx} {x:Str} {p pos:Pos} {e:Expr} {es:List Expr} {t:TA} {id T:String} {r:List V->Hp->VK->Prop}
def tCB(r:List V->Hp->VK->Prop)(t:TA):TE:=λσ H Q=>t σ H λvs H1=>r vs H1 Q
theorem mV(v:lZ X (.builtin id) r)(l:Gl X x)(n:X.mg x=none)(o:bootBuiltins x=some (.builtin id))(d:PA X (e:: es) t)(i:x≠"__name__" := by decide)(u:(x == ("__debug__" :Str))=false:=by decide)
  (g:starEach (e:: es) X.env=(false,eval e X.env):: starEach es X.env:=by rfl)(q:(backTo pos (starEach es X.env)).any (·.1)=false:=by rfl):PE X (.Call (.Name x p) (e:: es) [] pos) (tCB r t):=by
 intro b s a H Q I h;refine wT (gC I l n o ?_ i u);exact PyProof.Rows.callWith_builtin1 (thn (d pos b s a H _ I h) λus j⟨vs,m,f,k,c⟩=>v b j a m vs us Q f k c) g q
theorem mP(v:lZ X (.type T) r)(l:Gl X x)(n:X.mg x=none)(o:bootBuiltins x=some (.type T))(d:PA X (e:: es) t)(i:x≠"__name__" := by decide)(u:(x == ("__debug__" :Str))=false:=by decide)
  (g:starEach (e:: es) X.env=(false,eval e X.env):: starEach es X.env:=by rfl)(q:(backTo pos (starEach es X.env)).any (·.1)=false:=by rfl):PE X (.Call (.Name x p) (e:: es) [] pos) (tCB r t):=by
 intro b s a H Q I h;refine wT (gC I l n o ?_ i u);exact wC (thn (d pos b s a H _ I h) λus j⟨vs,m,f,k,c⟩=>v b j a m vs us Q f k c) g q
end
end L2
namespace HT
open PySem PyProof.Rows
section
open PySem.SeqAt
open PySem.AutoSeq1 (wpAny_loadPart')
open PySem.MeetsSeq PySem.MeetsSeq2 PySem.MeetsSeq3
end
section
variable {prog:Program} {w:World} {A:Around} {E:VP} {s:Shared}
def sIx(n d:Nat):Option Int->Nat
 |none=>d
 |some v=>if v<0 then(v+(n:Int)).toNat else min v.toNat n
theorem sIx_none(n d:Nat):sIx n d none=d:=rfl
theorem sIx_nat(n d k:Nat):sIx n d (some (k:Int))=min k n:=by
 show(if(k:Int)<0 then((k:Int)+(n:Int)).toNat else min (k:Int).toNat n)=min k n;rw[zF ⋯,zV]
theorem Om(n d:Nat)(b:d<=n)(o:Option Int):sIx n d o<=n:=by
 cases o with
 |none=>exact b
 |some v =>
  show(if v<0 then(v+(n:Int)).toNat else min v.toNat n)<=n
  by_cases a:v<0
  ·rw[zG a];omega
  ·rw[zF a];exact Nat.min_le_right _ _
theorem Gs(v:Int)(n d:Nat):(if v<0 then max (v+(n:Int)) 0 else min v (n:Int))=((sIx n d (some v):Nat):Int):=by
 show(if v<0 then max (v+(n:Int)) 0 else min v (n:Int))=(((if v<0 then(v+(n:Int)).toNat else min v.toNat n):Nat):Int)
 by_cases a:v<0
 ·simp only[if_pos a];omega
 ·simp only[if_neg a];omega
theorem Ol(lo hi:Option Int)(n:Nat):Builtin.Slice.sliceAdjust lo hi 1 (n:Int)=(((sIx n 0 lo:Nat):Int),((sIx n n hi:Nat):Int)):=by
 have a:¬ ((1:Int)<0):=⋯
 unfold Builtin.Slice.sliceAdjust;simp only[a,if_false];refine Prod.ext ?_ ?_
 ·cases lo with
  |none=>rfl
  |some v=>exact Gs v n 0
 ·cases hi with
  |none=>rfl
  |some v=>exact Gs v n n
theorem Oj(i j:Nat):Builtin.Slice.slicePlaces (i:Int) (j:Int) 1=j-i:=by
 unfold Builtin.Slice.slicePlaces;have a:(1:Int) > 0:=⋯
 simp only[a,if_true,Int.ediv_one];split <;> omega
theorem Gr{v:Value}{o:Option Int}{Q:Option Int->Shared->Prop}(p:IsPart v o)(h:Q o s):wpAny (model prog w) A (Builtin.Slice.slicePartIndex v) Q E s:=by
 cases p with
 |none=>exact slicePart_none h
 |int i t=>exact slicePart_int h
theorem Oi{e:Addr}{b d:Value}{lo hi:Option Int}{n:Nat}{Q:Int×Int×Nat->Shared->Prop}(g:s.heap.IsSliceOf e b d .none)(pl:IsPart b lo)(f:IsPart d hi)
  (h:Q (((sIx n 0 lo:Nat):Int),1,sIx n n hi-sIx n 0 lo) s):wpAny (model prog w) A (Builtin.Slice.sliceApplied (.ref e) (pure (n:Int))) Q E s:=by
 obtain⟨j,a,i,c⟩:=id g;unfold Builtin.Slice.sliceApplied Builtin.Slice.sliceFields;refine zA (zA (wB a c (x:=b) rfl (zA (wB a c (x:=d) rfl (zA (wB a c (x:=.none) rfl (zB ?_)))))));refine zA (slicePart_none ?_);show wpAny _ _ (if((1:Int) == 0)=true then _ else _) _ _ s;rw[zF ∅];refine zA (Gr pl (zA (Gr f (zA (zB ?_)))));show wpAny _ _ (match Builtin.Slice.sliceAdjust lo hi 1 (n:Int) with|(lo,hi)=>pure (lo,(1:Int),Builtin.Slice.slicePlaces lo hi 1)) _ _ s;rw[Ol lo hi n];show wpAny _ _ (pure (((sIx n 0 lo:Nat):Int),(1:Int),Builtin.Slice.slicePlaces ((sIx n 0 lo:Nat):Int) ((sIx n n hi:Nat):Int) 1)) _ _ s;rw[Oj];exact zB h
theorem Oh(xs:Array Value)(i k:Nat):((List.range k).filterMap λ(m:Nat)=>xs[((i:Int)+(m:Int)*1).toNat]?).toArray=((xs.toList.drop i).take k).toArray:=by
 have e:(λ(m:Nat)=>xs[((i:Int)+(m:Int)*1).toNat]?)=λm=>xs[i+m]?:=by
  funext m
  have:((i:Int)+(m:Int)*1).toNat=i+m:=⋯
  rw[this]
 rw[e];have:=pick_run xs i k;rw[List.filterMap_map]at this;have a:((λx=>xs[x]?)∘ λx=>i+x)=λm=>xs[i+m]?:=rfl;rw[a]at this;rw[this]
theorem getItem_tuple_cut{c d:Addr}{items:Array Value}{e g:Value}{lo hi:Option Int}{Q:VP}(b:IsTup s.heap c items)(f:s.heap.IsSliceOf d e g .none)(pl:IsPart e lo)(j:IsPart g hi)
  (l:¬ (sIx items.size 0 lo=0/\sIx items.size items.size hi=items.size))
  (h:Q (.ref s.heap.objs.size) {s with heap:=s.heap.push {cls:=.type "tuple",data:=.seq ((items.toList.drop (sIx items.size 0 lo)).take (sIx items.size items.size hi-sIx items.size 0 lo)).toArray}})
  (hsz:items.size<=sizeLine):wpAny (model prog w) A (getItem (.ref c) (.ref d)) Q E s:=by
 have a:sizeOk (.seq ((items.toList.drop (sIx items.size 0 lo)).take (sIx items.size items.size hi-sIx items.size 0 lo)).toArray):=by
  show((items.toList.drop (sIx items.size 0 lo)).take (sIx items.size items.size hi-sIx items.size 0 lo)).toArray.size<=sizeLine;rw[zZ,yS,uV,zO];omega
 have u:sIx items.size items.size hi<=items.size:=Om _ _ (zE _) hi;obtain⟨n,i,m,t⟩:=id f;have k:s.TypeIs (.ref d) "slice" := ⟨n,i,m⟩;unfold getItem
 try with_reducible refine xW ?_
 first|refine zA (zB ?_)|skip
 refine zA (wpAny_sequenceKey b.typeIs ∅ ?_);refine zA (wD (name:=Str.ofString "__getitem__") b.typeIs PyProof.Rows.slot_tuple_getitem
  (xX PyProof.Rows.slot_tuple_getitem b.typeIs entry_tuple_getitem ?_ (args_tuple_getitem _ _)))
 show wpAny _ _ (Builtin.Tuple.tupleItemsOf (.ref c) >>= _) _ _ s;refine zA (tupleItemsOf_ b ?_);refine zA (uP k ?_);rw[zG ∅];refine zA (Oi f pl j ?_);have o:¬ ((((sIx items.size 0 lo:Nat):Int) == 0 && (1:Int) == 1 && (sIx items.size items.size hi-sIx items.size 0 lo) == items.size)=true):=by
  intro q;rw[zR,zR]at q;have p:((sIx items.size 0 lo:Nat):Int)=0:=yQ q.1.1;have r:sIx items.size items.size hi-sIx items.size 0 lo=items.size:=yQ q.2;exact l ⟨⋯,⋯⟩
 show wpAny _ _ (if(((sIx items.size 0 lo:Nat):Int) == 0 && (1:Int) == 1 && (sIx items.size items.size hi-sIx items.size 0 lo) == items.size)=true then _ else _) _ _ s;rw[zF o,Oh]
 first
  |exact zA (m:=Builtin.Tuple.tupleExact _) (xL (zB ⟨_,rfl,zB h⟩) a)
  |exact zA (m:=Builtin.Tuple.tupleExact _) (xL (zA (zB (zB ⟨_,rfl,zB h⟩))) a)
  |exact zA (zA (m:=Builtin.Tuple.tupleExact _) (xL (zB (zB ⟨_,rfl,zB h⟩)) a))
  |exact zA (zA (m:=Builtin.Tuple.tupleExact _) (xL (zB ⟨_,rfl,zB h⟩) a))
end
end HT
namespace L2
open PySem PySem.Spec PyProof.Rows
open PySem.W (Frag)
abbrev TO:=St->Hp->(Option Int->Hp->Prop)->Prop
def PO(X:Cx)(e:Option Expr)(t:TO):Prop:=
 ∀(pins:PN)(s:Shared)(σ:St)(H:Hp)(Q:Option Int->Hp->Prop),Inv X pins σ H s->t σ H Q ->
  wpAny (model X.prog X.w) X.A (evalPart e X.env) (λu s'=>∃o H',Inv X pins σ H' s'/\IsPart u o/\Q o H') X.xe s
def Be:TO:=λ_ H Q=>Q none H
def Bd(t:TE):TO:=λσ H Q=>t σ H λx H1=>∃i,x=.int i/\Q (some i) H1
section
variable {X:Cx} {e:Expr} {te:TE} {lo hi:Option Expr} {tl th:TO} {pos p2:Pos}
theorem Gq:PO X none Be:=by
 intro a s b H Q I h;rw[evalPart_none];exact zB ⟨none,H,I,.none,h⟩
theorem iF(h:PE X e te):PO X (some e) (Bd te):=by
 intro d s b H Q I g;rw[evalPart_some];refine thn (h d s b H _ I g) ?_;rintro u l ⟨x,j,c,f,a⟩;obtain⟨i,rfl,q⟩:=a;obtain⟨k,rfl⟩:=f;exact⟨some i,j,c,.int i k,q⟩
def SlR(X:Cx)(r:V->Option Int->Option Int->Hp->VK->Prop):Prop:=
 ∀(pins:PN)(s:Shared)(σ:St)(H:Hp)(x:V)(v vl vu:Value)(lo hi:Option Int)(sl:Addr)(Q:VK),Inv X pins σ H s->RelV x v->s.heap.IsSliceOf sl vl vu .none->IsPart vl lo->IsPart vu hi->r x lo hi H Q ->
  ∃T id,typeLookup (.type T) "__getitem__"=pure (some (.builtin id))/\s.TypeIs v T/\wpAny (model X.prog X.w) X.A (getItem v (.ref sl)) (EP X pins σ Q) X.xe s
def tSl(r:V->Option Int->Option Int->Hp->VK->Prop)(te:TE)(tl th:TO):TE:=λσ H Q=>te σ H λx H1=>tl σ H1 λl H2=>th σ H2 λu H3=>r x l u H3 Q
theorem eG{r:V->Option Int->Option Int->Hp->VK->Prop}(hr:SlR X r)(k:PE X e te)(hl:PO X lo tl)(w:PO X hi th):PE X (.Subscript e (.Slice lo hi none p2) pos) (tSl r te tl th):=by
 intro c s d H Q I h;refine Subscript_ (thn (k c s d H _ I h) ?_);rintro v m ⟨x,G,j,p,o⟩;refine wpAny_Slice (thn (hl c m d G _ j o) λf n⟨l,M,C,pl,J⟩=>thn (w c n d M _ C J) ?_);rintro g a ⟨u,i,D,y,t⟩;rw[evalPart_none];refine zB ?_;have z:Inv X c d i {a with heap:=a.heap.push {cls:=.type "slice",data:=.fields #[f,g,.none]}}:=D.kept (t':=a.toks) λb N q=>zC _ q;obtain⟨T,id,L,K,F⟩:=hr c {a with heap:=a.heap.push {cls:=.type "slice",data:=.fields #[f,g,.none]}} d i x v f g l u a.heap.objs.size Q z p (Heap.IsSliceOf.new ..) pl y t;show wpAny (model X.prog X.w) X.A (subscriptTail e (.Slice lo hi none p2) v (.ref a.heap.objs.size)) (EP X c d Q) X.xe {a with heap:=a.heap.push {cls:=.type "slice",data:=.fields #[f,g,.none]}};exact tail_any (ops:=[.ref a.heap.objs.size,v]) K L F (by with_unfolding_all rfl)
def cutV(xs:List V)(lo hi:Option Int):List V:=(xs.drop (HT.sIx xs.length 0 lo)).take (HT.sIx xs.length xs.length hi-HT.sIx xs.length 0 lo)
theorem Gp(xs:List V)(lo hi:Option Int):(cutV xs lo hi).length<=xs.length:=by
 unfold cutV;rw[yS,uV];omega
def rSlT(K:Frag):V->Option Int->Option Int->Hp->VK->Prop:=λx lo hi H Q=>∃a xs,x=.ref a/\SqT K H a xs /\
 ¬ (HT.sIx xs.length 0 lo=0/\HT.sIx xs.length xs.length hi=xs.length)/\∀p,H p=none->Q (.ref p) (upd H p (.tup (cutV xs lo hi)))
theorem Og:SlR X (rSlT X.K):=by
 intro p s m H x v n t lo hi o Q I i l pl g h;obtain⟨a,xs,rfl,k,j,q⟩:=h;cases i;obtain⟨its,r,f,d⟩:=I.tuple k;have c:its.toArray.size=xs.length:=by rw[zZ];exact r.length.symm
 refine⟨"tuple",_,PyProof.Rows.slot_tuple_getitem.lookup,f.typeIs,?_⟩;refine HT.getItem_tuple_cut f l pl g (by rw[c];exact j) ?_ (by rw[c];exact d);rw[c];refine⟨.ref s.heap.objs.size,_,I.laid (t':=s.toks) (o:=.tup (cutV xs lo hi)) (λb u q=>zC _ q) (zE _) ?_,rfl,q _ (I.hok.fresh (zE _))⟩;exact⟨yH (Gp xs lo hi) d,_,(r.drop (HT.sIx xs.length 0 lo)).take (HT.sIx xs.length xs.length hi-HT.sIx xs.length 0 lo),IsTup.new _ _⟩
end
def ixN(n:Nat)(i:Int):Option Nat:=if 0<=i then(if i<n then some i.toNat else none) else if -(n:Int)<=i then some (i+n).toNat else none
def atI{α:Type}(xs:List α)(i:Int):Option α:=(ixN xs.length i).bind λj=>xs[j]?
theorem Go{n:Nat}{i:Int}{j:Nat}(h:ixN n i=some j):seqIndex? i n=some j/\j<n/\-(n:Int)<=i/\i<n:=by
 unfold ixN at h
 by_cases b:0<=i
 ·rw[zG b]at h
  by_cases a:i<n
  ·rw[zG a]at h;have e:i.toNat=j:=zQ h;exact⟨by rw[seqIndex_of b a,e],⋯,⋯,a⟩
  ·rw[zF a]at h;cases h
 ·rw[zF b]at h
  by_cases a:-(n:Int)<=i
  ·rw[zG a]at h;have e:(i+n).toNat=j:=zQ h;exact⟨by rw[pH ⋯ a,e],⋯,a,⋯⟩
  ·rw[zF a]at h;cases h
theorem Gn{a:Type}{xs:List a}{i:Int}{v:a}(h:atI xs i=some v):∃j,seqIndex? i xs.length=some j/\xs[j]?=some v/\j<xs.length/\-(xs.length:Int)<=i/\i<xs.length:=by
 unfold atI at h;cases e:ixN xs.length i with
 |none=>rw[e]at h;cases h
 |some j =>
  rw[e]at h;obtain⟨c,f,b,d⟩:=Go e;exact⟨j,c,h,f,b,d⟩
theorem Of{a:Type}{xs:List a}{j:Nat}{v:a}(h:xs[j]?=some v):atI xs (j:Int)=some v:=by
 have b:j<xs.length:=(oF.mp h).1;have e:ixN xs.length (j:Int)=some j:=by
  unfold ixN;rw[zG ⋯,zG ⋯];simp
 unfold atI;rw[e];exact h
def Oe(b:Expr):Prop:=∀o i,subscripted b false o i=operate [o,i] (getItem o i)
def IxR(X:Cx)(r:R2):Prop:=
 ∀(value slice:Expr)(pins:PN)(s:Shared)(σ:St)(H:Hp)(x y:V)(v u:Value)(Q:VK),Inv X pins σ H s->RelV x v->RelV y u->r x y H Q ->
  subscripted slice false v u=operate [v,u] (getItem v u)->wpAny (model X.prog X.w) X.A (subscriptTail value slice v u) (EP X pins σ Q) X.xe s
def MtR(X:Cx)(id:String)(r:V->List V->Hp->VK->Prop):Prop:=
 ∀(pins:PN)(s:Shared)(σ:St)(H:Hp)(x:V)(xs:List V)(v:Value)(us:LW)(Q:VK),Inv X pins σ H s->RelV x v->Vals xs us->r x xs H Q ->
  wpAny (model X.prog X.w) X.A (call (.builtin id) (v:: us)) (EP X pins σ Q) X.xe s
section
variable {X:Cx} {a b:Expr} {ta tb:TE} {pos:Pos}
theorem mI{r:R2}(hr:IxR X r)(d:PE X a ta)(c:PE X b tb)(m:Oe b):PE X (.Subscript a b pos) (tOp r ta tb):=by
 intro j s e H Q I h;exact Subscript_ (binT d c I h λv u k x y l i f g q=>hr a b j k e l x y v u Q i f g q (m _ _))
def rIxL(K:Frag):R2:=λx y H Q=>∃p xs i v,x=.ref p/\y=.int i/\SqL K H p xs/\atI xs i=some v/\Q v H
def rIxT(K:Frag):R2:=λx y H Q=>∃p xs i v,x=.ref p/\y=.int i/\SqT K H p xs/\atI xs i=some v/\Q v H
theorem Od:IxR X (rIxL X.K):=by
 intro L M f s l H x y v u Q I J n h k;obtain⟨p,xs,i,z,rfl,rfl,F,o,q⟩:=h;cases J;obtain⟨P,rfl⟩:=n;obtain⟨its,r,pl,K⟩:=I.list F;obtain⟨j,c,t,N,G,D⟩:=Gn o;obtain⟨w,g,C⟩:=r.get t;have hl:=r.length;have O:=aA;have m:EP X f l Q w s:=⟨z,H,I,C,q⟩
 by_cases e:0<=i
 ·have d:i.toNat=j:=by
   rw[seqIndex_of e D]at c;exact zQ c
  exact item_listR pl.isList e ⋯ (by rw[d];simpa using g) m k
 ·have d:(i+(its.toArray.size:Int)).toNat=j:=by
   rw[pH ⋯ G]at c;rw[zZ,←hl];exact zQ c
  exact sV (x:=w) pl.isList.typeIs slot_list_getitem.lookup
   (wpAny_getItem_list_neg (Q:=λr s'=>r=w/\EP X f l Q r s') pl.isList ⋯ (by rw[zZ] <;> omega) ⋯ (by rw[d];simpa using g) ⟨rfl,m⟩) k
theorem Oc:IxR X (rIxT X.K):=by
 intro F G c s d H x y v u Q I C e h m;obtain⟨p,xs,i,z,rfl,rfl,n,f,q⟩:=h;cases C;obtain⟨N,rfl⟩:=e;obtain⟨its,r,pl,D⟩:=I.tuple n;obtain⟨j,t,g,K,M,J⟩:=Gn f;obtain⟨w,k,l⟩:=r.get g;have hl:=r.length;have L:=aA;have o:EP X c d Q w s:=⟨z,H,I,l,q⟩;exact sV (x:=w) pl.typeIs slot_tuple_getitem.lookup
  (getItem_tuple (j:=j) (Q:=λr s'=>r=w/\EP X c d Q r s') pl ⋯ ⋯ (by rw[zZ,←hl];exact t) (by simpa using k) ⟨rfl,o⟩) m
theorem Ob(its:LW)(n j:Nat)(u:Value):Obj.mapSeq (·.setIfInBounds j u) {cls:=.type "list",data:=.seq its.toArray n}={cls:=.type "list",data:=.seq (its.set j u).toArray n}:=by
 simp[Obj.mapSeq]
theorem Inv.lst{c:PN}{d:St}{H:Hp}{s:Shared}{p:Addr}{xs:List V}(I:Inv X c d H s)(h:H p=some (.lst xs)):
  ∃(its:LW)(n:Nat),Vals xs its/\s.heap.get? p=some {cls:=.type "list",data:=.seq its.toArray n}/\xs.length<=sizeLine:=by
 obtain⟨z,its,n,r,e⟩:=I.hok p _ h;exact⟨its,n,r,e,z⟩
theorem Inv.lstUpd{i:PN}{d:St}{H:Hp}{s:Shared}{p:Addr}{xs ys:List V}{its its':LW}{n c:Nat}{f:Obj->Obj}(I:Inv X i d H s)(h:H p=some (.lst xs))
  (j:s.heap.get? p=some {cls:=.type "list",data:=.seq its.toArray n})(g:f {cls:=.type "list",data:=.seq its.toArray n}={cls:=.type "list",data:=.seq its'.toArray c})(r:Vals ys its')(l:ys.length<=sizeLine)(m:Nat):
  Inv X i d (upd H p (.lst ys)) {s with heap:=s.heap.update p f,toks:=m}:=by
 have e:(s.heap.update p f).get? p=some {cls:=.type "list",data:=.seq its'.toArray c}:=by
  rw[vH f j (by rw[g] <;> rfl),g]
 refine I.write (x:=p) (e:=p) (by rw[h];trivial) (.inl rfl) (λb u k q=>(uJ _ _ (yA k)).trans q) ⟨_,e⟩ ?_;exact⟨l,its',c,r,e⟩
def Bc:V->V->V->Hp->(Hp->Prop)->Prop:=λo i v H Q=>∃p xs k j,o=.ref p/\i=.int k/\H p=some (.lst xs)/\ixN xs.length k=some j/\Q (upd H p (.lst (xs.set j v)))
theorem Gm:PSet X Bc:=by
 intro w s z H o i v J K u Q I C y F h;obtain⟨p,xs,k,j,rfl,rfl,m,D,q⟩:=h;cases C;obtain⟨M,rfl⟩:=y;obtain⟨its,n,r,d,x⟩:=I.lst m;obtain⟨c,G,g,t⟩:=Go D;have hl:=r.length;have L:=aA;have l:Inv X w z (upd H p (.lst (xs.set j v))) {s with heap:=s.heap.update p (Obj.mapSeq (·.setIfInBounds j u))}:=
  I.lstUpd m d (Ob its n j u) (r.set F j) (by rw[List.length_set];exact x) s.toks
 by_cases f:0<=k
 ·have e:k.toNat=j:=by
   rw[seqIndex_of f t]at c;exact zQ c
  exact PySem.W.ki_setAt d f ⋯ (by rw[zZ,←hl];exact t) (by rw[e];exact⟨_,l,q⟩)
 ·have e:(k+(its.toArray.size:Int)).toNat=j:=by
   rw[pH ⋯ g]at c;rw[zZ,←hl];exact zQ c
  exact PySem.W.ki_setBack d ⋯ (by rw[zZ,←hl];exact g) ⋯ (by rw[e];exact⟨_,l,q⟩)
theorem Oa(lo hi:Option Int)(n:Nat):(sliceBounds lo hi none n).1=((HT.sIx n 0 lo:Nat):Int)/\(sliceBounds lo hi none n).2.1=((HT.sIx n n hi:Nat):Int)/\(sliceBounds lo hi none n).2.2=1:=by
 refine⟨?_,?_,rfl⟩
 ·cases lo with
  |none=>simp[sliceBounds,HT.sIx]
  |some i =>
   simp only[sliceBounds,HT.sIx,Option.getD_none,show(1:Int) > 0 by decide,if_true]
   by_cases h:i<0
   ·simp only[h,if_true] <;> omega
   ·simp only[h,if_false] <;> omega
 ·cases hi with
  |none=>simp[sliceBounds,HT.sIx]
  |some i =>
   simp only[sliceBounds,HT.sIx,Option.getD_none,show(1:Int) > 0 by decide,if_true]
   by_cases h:i<0
   ·simp only[h,if_true] <;> omega
   ·simp only[h,if_false] <;> omega
theorem Pz(its:LW)(lo hi:Option Int):slicePick its.toArray lo hi none=((its.drop (HT.sIx its.length 0 lo)).take (HT.sIx its.length its.length hi-HT.sIx its.length 0 lo)).toArray:=by
 obtain⟨e,d,c⟩:=Oa lo hi its.toArray.size;unfold slicePick;rw[e,d,c];simp only[sliceRange_one,pick_run,List.size_toArray] <;> rfl
def rSlL(K:Frag):V->Option Int->Option Int->Hp->VK->Prop:=λx lo hi H Q=>∃a xs,x=.ref a/\SqL K H a xs/\∀p,H p=none->Q (.ref p) (upd H p (.lst (cutV xs lo hi)))
theorem Py:SlR X (rSlL X.K):=by
 intro n s k H x v l o lo hi m Q I f j pl d h;obtain⟨a,xs,rfl,i,q⟩:=h;cases f;obtain⟨its,r,c,g⟩:=I.list i;have e:=r.length;refine⟨"list",_,slot_list_getitem.lookup,c.isList.typeIs,?_⟩;refine wpAny_getItem_list_slice c.isList j pl d .none (by simp) ?_ (by rw[List.size_toArray] <;> omega);rw[Pz,←e];refine⟨.ref s.heap.objs.size,_,I.laid (t':=s.toks) (o:=.lst (cutV xs lo hi)) (λb p q=>zC _ q) (zE _) ?_,rfl,q _ (I.hok.fresh (zE _))⟩;exact⟨yH (Gp xs lo hi) g,_,0,(r.drop (HT.sIx xs.length 0 lo)).take (HT.sIx xs.length xs.length hi-HT.sIx xs.length 0 lo),zT _ rfl⟩
def gF:V->Bool
 |.non=>true
 |.bl _=>true
 |.int _=>true
 |.str _=>true
 |_=>false
def eqV:V->V->Bool
 |.non,.non=>true
 |.bl a,.bl b=>a == b
 |.bl a,.int b=>(if a then 1 else 0) == b
 |.int a,.bl b=>a == (if b then 1 else 0)
 |.int a,.int b=>a == b
 |.str a,.str b=>a == b
 |_,_=>false
theorem Px{A:Around}{s:Shared}{y x:V}{u v:Value}(f:RelV y u)(c:RelV x v)(g:gF y=true)(e:gF x=true):SeqAt.EqAt A s u v (eqV y x):=by
 cases y with
 |non =>
  cases f;cases x with
  |non=>cases c;exact SeqAt.EqAt.same _
  |bl b=>cases c;exact SeqAt.EqAt.none_bool b
  |int b=>obtain⟨d,rfl⟩:=c;exact SeqAt.EqAt.none_int b d
  |str b=>obtain⟨d,rfl⟩:=c;exact SeqAt.EqAt.none_str b d
  |_=>exact absurd (show false=true from e) yJ
 |bl a =>
  cases f;cases x with
  |non=>cases c;exact SeqAt.EqAt.bool_none a
  |bl b=>cases c;exact SeqAt.EqAt.bool_bool a b
  |int b=>obtain⟨d,rfl⟩:=c;exact SeqAt.EqAt.bool_int a b d
  |str b=>obtain⟨d,rfl⟩:=c;exact SeqAt.EqAt.bool_str a b d
  |_=>exact absurd (show false=true from e) yJ
 |int a =>
  obtain⟨t',rfl⟩:=f;cases x with
  |non=>cases c;exact SeqAt.EqAt.int_none a t'
  |bl b=>cases c;exact SeqAt.EqAt.int_bool a t' b
  |int b=>obtain⟨d,rfl⟩:=c;exact SeqAt.EqAt.int_int a t' b d
  |str b=>obtain⟨d,rfl⟩:=c;exact SeqAt.EqAt.int_str a t' b d
  |_=>exact absurd (show false=true from e) yJ
 |str a =>
  obtain⟨t',rfl⟩:=f;cases x with
  |non=>cases c;exact SeqAt.EqAt.str_none a t'
  |bl b=>cases c;exact SeqAt.EqAt.str_bool a t' b
  |int b=>obtain⟨d,rfl⟩:=c;exact SeqAt.EqAt.str_int a t' b d
  |str b=>obtain⟨d,rfl⟩:=c;exact SeqAt.EqAt.str_str a t' b d
  |_=>exact absurd (show false=true from e) yJ
 |_=>exact absurd (show false=true from g) yJ
def eqU(x:V)(u:Value):Bool:=match u with
 |.none=>eqV .non x
 |.bool b=>eqV (.bl b) x
 |.int i _=>eqV (.int i) x
 |.str z _=>eqV (.str z) x
 |_=>false
theorem Gk{x y:V}{u:Value}(r:RelV y u)(f:gF y=true):eqU x u=eqV y x:=by
 cases y with
 |non=>cases r;rfl
 |bl b=>cases r;rfl
 |int i=>obtain⟨t,rfl⟩:=r;rfl
 |str z=>obtain⟨t,rfl⟩:=r;rfl
 |_=>exact absurd (show false=true from f) yJ
theorem Bb{x:V}:∀{xs:List V}{us:LW},Vals xs us->xs.all gF=true->us.any (eqU x)=xs.any λy=>eqV y x
 |_,_,.nil,_=>rfl
 |y:: xs,u:: us,.cons r t,f=>by
  rw[xJ,zR]at f;rw[tF,tF,Gk r f.1,Bb t f.2]
theorem Ba{A:Around}{s:Shared}{x:V}{v:Value}(e:RelV x v)(d:gF x=true):∀{xs:List V}{us:LW},Vals xs us->xs.all gF=true->∀u∈us,SeqAt.EqAt A s u v (eqU x u)
 |_,_,.nil,_=>λu c=>by cases c
 |y:: xs,u:: us,.cons r i,f=>λg c=>by
  rw[xJ,zR]at f;rcases xE.mp c with rfl|c
  ·rw[Gk r f.1];exact Px r e f.1 d
  ·exact Ba e d i f.2 g c
def inV(x:V)(xs:List V):Bool:=xs.any λy=>eqV y x
def rIn(K:Frag)(neg:Bool):R2:=λx y H Q=>∃p xs,y=.ref p/\(SqL K H p xs\/SqT K H p xs)/\gF x=true/\xs.all gF=true/\Q (.bl (if neg then !inV x xs else inV x xs)) H
theorem aD:OpR X (compareOp .NotIn) (rIn X.K true):=by
 intro k s j H x y v u Q I f g h;obtain⟨p,xs,rfl,c,e,fs,q⟩:=h;cases g;rcases c with c|c
 ·obtain⟨its,r,pl,i⟩:=I.list c;refine SeqAt.notIn_listAt (eqU x) pl.isList (λw d=>Ba f e r fs w (by simpa using d)) ⟨.bl _,H,I,rfl,?_⟩;rw[show its.toArray.any (eqU x)=its.any (eqU x) by simp,Bb r fs];exact q
 ·obtain⟨its,r,pl,i⟩:=I.tuple c;refine SeqAt.notIn_tupleAt (eqU x) pl (λw d=>Ba f e r fs w (by simpa using d)) ⟨.bl _,H,I,rfl,?_⟩;rw[show its.toArray.any (eqU x)=its.any (eqU x) by simp,Bb r fs];exact q
theorem Pw:lZ X (.builtin "len") (λxs H Q=>∃p ys,xs=[.ref p]/\(SqL X.K H p ys\/SqT X.K H p ys)/\Q (.int ys.length) H):=by
 intro k s i H xs us Q I r h;obtain⟨p,ys,rfl,c,q⟩:=h;obtain⟨u,rfl,f⟩:=jF r;cases f;have j:=aA;rcases c with c|c
 ·obtain⟨its,e,pl,g⟩:=I.list c;have d:=e.length;exact Calls.call_len_list pl.isList (by simp only[List.size_toArray] <;> omega) ⟨.int ys.length,H,I.tok _,⟨s.toks+1,by rw[zZ,d]⟩,q⟩
 ·obtain⟨its,e,pl,g⟩:=I.tuple c;have d:=e.length;exact len_tuple pl (by simp only[List.size_toArray] <;> omega) ⟨.int ys.length,H,I.tok _,⟨s.toks+1,by rw[zZ,d]⟩,q⟩
theorem Pu:lZ X (.type "list") (λxs H Q=>∃p ys,xs=[.ref p]/\(SqL X.K H p ys\/SqT X.K H p ys)/\∀l,H l=none->Q (.ref l) (upd H l (.lst ys))):=by
 intro z s w H xs us Q I r h;obtain⟨p,ys,rfl,f,q⟩:=h;obtain⟨u,rfl,y⟩:=jF r;cases y;have t:∀(its:LW),Vals ys its->ys.length<=sizeLine->∀(h':Heap)(c:Nat),(∀b v,s.heap.get? b=some v->h'.get? b=some v) ->
   h'.get? s.heap.objs.size=some {cls:=.type "list",dict:=none,data:=.seq its.toArray c,slots:=#[]}->EP X z w Q (.ref s.heap.objs.size) {s with heap:=h'}:=λits d g h' c i e =>
  ⟨.ref s.heap.objs.size,_,I.laid (t':=s.toks) i (zE _) (show mB X.prog X.w _ h' _ (.lst ys) from⟨g,its,c,d,e⟩),rfl,q _ (I.hok.fresh (zE _))⟩
 rcases f with f|f
 ·obtain⟨its,d,pl,g⟩:=I.list f;have x:=d.length;obtain⟨o,j,m,n,k⟩:=pl.isList;exact call_list_seq p (.inl rfl) j m k (λh' c i e=>t its d g h' c i e) (by simp only[List.size_toArray] <;> omega)
 ·obtain⟨its,d,pl,g⟩:=I.tuple f;have x:=d.length;obtain⟨o,j,m,n,k⟩:=pl;exact call_list_seq p (.inr rfl) j m k (λh' c i e=>t its d g h' c i e) (by simp only[List.size_toArray] <;> omega)
theorem Pt:lZ X (.type "tuple") (λxs H Q=>∃p ys,xs=[.ref p]/\((SqL X.K H p ys/\∀l,H l=none->Q (.ref l) (upd H l (.tup ys)))\/(SqT X.K H p ys/\Q (.ref p) H))):=by
 intro i s f H xs us Q I r h;obtain⟨p,ys,rfl,h⟩:=h;obtain⟨u,rfl,k⟩:=jF r;cases k;rcases h with⟨c,q⟩|⟨c,q⟩
 ·obtain⟨its,d,pl,j⟩:=I.list c;have t:=d.length;refine call_tuple_list pl.isList (λh' n=>?_) (by simp only[List.size_toArray] <;> omega);have g:Inv X i f H {s with heap:=h'}:=I.kept (t':=s.toks) n;have m:Inv X i f (upd H h'.objs.size (.tup ys)) {s with heap:=h'.push {cls:=.type "tuple",data:=.seq its.toArray}}:=
   g.laid (t':=s.toks) (λb o e=>zC _ e) (zE _) (show mB X.prog X.w _ _ _ (.tup ys) from⟨j,its,d,IsTup.new _ _⟩)
  exact⟨.ref h'.objs.size,_,m,rfl,q _ (g.hok.fresh (zE _))⟩
 ·obtain⟨its,d,pl,j⟩:=I.tuple c;exact call_tuple_same pl ⟨.ref p,H,I,rfl,q⟩
def tyV(K:Frag)(T:String)(x:V)(H:Hp):Prop:=match x with
 |.str _=>T="str"
 |.int _=>T="int"
 | .ref p=>(T="list" /\ ∃xs,SqL K H p xs)\/(T="tuple" /\ ∃o,K.lookup p=some o/\o.cls=.type "tuple" /\ o.dict=none) \/
   (T="dict" /\ ((∃kvs,H p=some (.dK kvs))\/∃kvs,H p=some (.dT kvs)))\/(T="set" /\ ∃S n,H p=some (.set S n))
 |_=>False
theorem Ps{t:PN}{q:St}{H:Hp}{s:Shared}{T:String}{x:V}{v:Value}(I:Inv X t q H s)(r:RelV x v)(ty:tyV X.K T x H):
  s.TypeIs v T/\∀a,v=.ref a->∃l,s.heap.get? a=some l/\l.dict=none:=by
 cases x with
 |str z =>
  obtain⟨g,rfl⟩:=r;cases(show T="str" from ty);exact⟨typeIs_str s z g,λ_ e=>nomatch e⟩
 |int i =>
  obtain⟨g,rfl⟩:=r;cases(show T="int" from ty);exact⟨typeIs_int s i g,λ_ e=>nomatch e⟩
 | ref p =>
  cases r;rcases ty with⟨rfl,xs,m⟩|⟨rfl,o,d,u,k⟩|⟨rfl,d⟩|⟨rfl,w,n,d⟩
  ·obtain⟨its,_,pl,_⟩:=I.list m;refine⟨pl.isList.typeIs,λa e=>?_⟩;cases e;obtain⟨o,n,e,c,k,_⟩:=pl;exact⟨o,e,k⟩
  ·refine⟨⟨o,I.kIn p o d,u⟩,λa e=>?_⟩;cases e;exact⟨o,I.kIn _ o d,k⟩
  ·have z:∃o,s.heap.get? p=some o/\o.ExactDict:=by
    rcases d with⟨kvs,d⟩|⟨kvs,d⟩
    ·obtain⟨_,_,_,_,o,_,_,e,f,_⟩:=I.hok p _ d;exact⟨o,e,f⟩
    ·obtain⟨_,_,_,_,o,_,_,e,f,_⟩:=I.hok p _ d;exact⟨o,e,f⟩
   obtain⟨o,e,f⟩:=z;refine⟨⟨o,e,f.1⟩,λa j=>?_⟩;cases j;exact⟨o,e,f.2.1⟩
  ·obtain⟨o,_,_,_,e,f,_⟩:=I.hok p _ d;refine⟨⟨o,e,f.1⟩,λa j=>?_⟩;cases j;exact⟨o,e,f.2.1⟩
 |_=>exact False.elim ty
def tBM0(K:Frag)(T:String)(r:V->List V->Hp->VK->Prop)(to:TE):TE:=λσ H Q=>to σ H λx H1=>tyV K T x H1/\r x [] H1 Q
def tBM(K:Frag)(T:String)(r:V->List V->Hp->VK->Prop)(to:TE)(t:TA):TE:=λσ H Q=>to σ H λx H1=>tyV K T x H1/\t σ H1 λxs H2=>r x xs H2 Q
variable {o e:Expr} {es:List Expr} {to:TE} {t:TA} {name:Str} {apos cpos:Pos} {T id:String} {r:V->List V->Hp->VK->Prop}
theorem aE(O:PlainAttrs T)(q:Slot T name id)(m:typeOf (.builtin id)=pure (.type "method_descriptor"))(w:MtR X id r)(j:PE X o to)(z:PA X (e:: es) t)
  (G:attributeBase o name X.env (eval o X.env)=eval o X.env:=by rfl)
  (u:((backTo cpos (starEach (e:: es) X.env)).all (λx=>!x.1) && (backToKw cpos (keywordEach [] X.env)).all (λx=>x.1.isSome)
   && decide ((e:: es).length+([]:List Keyword).length+(if([]:List Keyword).isEmpty then 0 else 1)<30))=true:=by rfl)
  (L:(apos.endLine == cpos.line)=true:=by rfl)(y:starEach (e:: es) X.env=(false,eval e X.env):: starEach es X.env:=by rfl)(M:(backTo cpos (starEach es X.env)).any (·.1)=false:=by rfl):
  PE X (.Call (.Attribute o name apos) (e:: es) [] cpos) (tBM X.K T r to t):=by
 intro c s d H Q I h;refine wpAny_Call_method_late G u L rfl (thn (j c s d H _ I h) ?_);rintro v l ⟨x,D,f,g,ty,p⟩;obtain⟨K,k⟩:=Ps f g ty;refine⟨T,id,O,q,m,K,k,?_⟩;have i:=z cpos c l d D _ f p;rw[y]at i ⊢;refine Calls.callWith_builtin (by show(false || (backTo cpos (starEach es X.env)).any (·.1))=false;rw[M] <;> rfl) (rP ?_);exact thn i λus n⟨vs,N,C,J,F⟩=>w c n d N x vs v us Q C g J F
end
def MtM(X:Cx)(id:String)(r:V->List V->Hp->VK->Prop):Prop:=
 ∀(pins:PN)(s:Shared)(σ:St)(H:Hp)(x:V)(xs:List V)(v:Value)(us:LW)(Q:VK),Inv X pins σ H s->RelV x v->Vals xs us->r x xs H Q ->
  wpAny (model X.prog X.w) X.A (call (.builtin id) (v:: us)) (EP X pins σ Q) X.xe s
theorem Vals.one{x:V}{us:LW}(h:Vals [x] us):∃u,us=[u]/\RelV x u:=by
 cases h with|cons r h=>cases h;exact⟨_,rfl,r⟩
theorem Vals.two{x y:V}{us:LW}(h:Vals [x,y] us):∃u v,us=[u,v]/\RelV x u/\RelV y v:=by
 cases h with|cons r h=>obtain⟨v,rfl,q⟩:=Vals.one h;exact⟨_,_,rfl,r,q⟩
theorem Vals.rep{xs:List V}{us:LW}(h:Vals xs us):∀k:Nat,Vals (List.replicate k xs).flatten (List.replicate k us).flatten
 |0=>.nil
 |k+1=>by
  rw[wN,wN,vP,vP];exact Vals.append h (Vals.rep h k)
theorem Gj(its:LW):∀(k:Nat)(acc:LW),
  List.foldl (λc b=>c++b) acc.toArray (List.replicate k its.toArray)=(acc++(List.replicate k its).flatten).toArray
 |0,acc=>by simp
 | k+1,acc=>by
  have e:acc.toArray++its.toArray=(acc++its).toArray:=by simp
  have a:(acc++its)++(List.replicate k its).flatten=acc++(List.replicate (k+1) its).flatten:=by
   rw[wN,vP,yN]
  rw[←a,←Gj its k (acc++its),←e,wN,wL]
section
variable {X:Cx} {pins:PN} {σ:St} {H:Hp} {s:Shared} {l b:Addr} {xs ys zs:List V}
theorem Inv.lset{its its':LW}{n:Nat}{f:Array Value->Array Value}{t':Nat}(I:Inv X pins σ H s)(d:H l=some (.lst xs))
  (e:s.heap.get? l=some {cls:=.type "list",data:=.seq its.toArray n})(c:f its.toArray=its'.toArray)(i:Vals ys its')(g:ys.length<=sizeLine):
  Inv X pins σ (upd H l (.lst ys)) {s with heap:=s.heap.update l (Obj.mapSeq f),toks:=t'}:=by
 have q:=PySem.IsL.update e f;rw[c]at q;refine I.write (x:=l) (e:=l) (by rw[d];exact trivial) (.inl rfl) (λk u a j=>(uJ s.heap (Obj.mapSeq f) (yA a)).trans j) ⟨_,q⟩ ?_;exact⟨g,its',_,i,q⟩
theorem Inv.lnew{its:LW}{t':Nat}(I:Inv X pins σ H s)(a:Vals ys its)(c:ys.length<=sizeLine):
  Inv X pins σ (upd H s.heap.objs.size (.lst ys)) {s with heap:=s.heap.push {cls:=.type "list",data:=.seq its.toArray},toks:=t'}:=
 I.laid (λ_ _ q=>zC _ q) (zE _) ⟨c,its,0,a,zT _ rfl⟩
theorem Inv.fresh(I:Inv X pins σ H s):H s.heap.objs.size=none:=I.hok.fresh (zE _)
theorem Inv.lstM(I:Inv X pins σ H s)(a:H l=some (.lst xs)):xs.length<=sizeLine/\∃(its:LW)(n:Nat),Vals xs its/\xs.length=its.length/\s.heap.get? l=some {cls:=.type "list",data:=.seq its.toArray n}:=by
 obtain⟨z,its,n,r,e⟩:=I.hok l _ a;exact⟨z,its,n,r,r.length,e⟩
theorem Pr{n:Nat}(h:n<=sizeLine):Builtin.List.listTooLong n=false:=by
 unfold Builtin.List.listTooLong;exact zN ⋯
end
section
variable {X:Cx}
def Pq:V->List V->Hp->VK->Prop:=λx vs H Q=>∃l xs y,x=.ref l/\vs=[y]/\H l=some (.lst xs)/\xs.length<sizeLine/\Q .non (upd H l (.lst (xs++[y])))
theorem dX:MtM X "list.append" Pq:=by
 intro g s f H x vs v us Q I b d h;obtain⟨l,xs,y,rfl,rfl,a,i,q⟩:=h;cases b;obtain⟨u,rfl,c⟩:=d.one;obtain⟨z,its,n,r,hl,e⟩:=I.lstM a;refine call_meets F.slot_list_append ⟨_,e,rfl⟩ F.entry_list_append (F.args_list_append_2 _ _) (PySem.list_append l its.toArray n u (by rw[zZ];omega)) ⟨e,?_⟩;refine⟨.non,_,I.lset (its':=its++[u]) a e (by simp) (r.append (.cons c .nil)) ?_,rfl,q⟩;rw[zS,List.length_singleton];omega
def rCat:R2:=λx y H Q=>∃l b xs zs,x=.ref l/\y=.ref b/\H l=some (.lst xs)/\H b=some (.lst zs)/\xs.length+zs.length<=sizeLine/\∀p,H p=none->Q (.ref p) (upd H p (.lst (xs++zs)))
theorem dY:OpR X (binaryOp .Add) rCat:=by
 intro p s o H x y v u Q I d f h;obtain⟨l,b,xs,zs,rfl,rfl,g,j,t,q⟩:=h;cases d;cases f;obtain⟨z,its,n,r,hl,e⟩:=I.lstM g;obtain⟨m,a,C,c,w,k⟩:=I.lstM j;refine PySem.P.add_list e k ?_ (by rw[zZ,zZ];omega);have i:its.toArray++a.toArray=(its++a).toArray:=by simp
 rw[i];exact⟨.ref _,_,I.lnew (t':=s.toks) (r.append c) (by rw[zS];omega),rfl,q _ I.fresh⟩
def rRep:R2:=λx y H Q=>∃l k xs,x=.ref l/\y=.int k/\H l=some (.lst xs)/\-(2^63)<=k/\k<2^63/\xs.length*k.toNat<=sizeLine /\
 ∀p,H p=none->Q (.ref p) (upd H p (.lst (List.replicate k.toNat xs).flatten))
theorem Pp{b:Type}(xs:List b)(k:Nat):(List.replicate k xs).flatten.length=k*xs.length:=by
 induction k with
 |zero=>simp
 |succ k a=>rw[wN,vP,zS,a,sF,pF]
theorem Po:OpR X (binaryOp .Mult) rRep:=by
 intro L s K H x y v u Q I p t h;obtain⟨l,k,xs,rfl,rfl,G,j,w,f,q⟩:=h;cases p;obtain⟨b,rfl⟩:=t;obtain⟨z,its,n,r,hl,e⟩:=I.lstM G;have o:its.toArray.size*k.toNat<=sizeLine:=by rw[zZ,←hl];exact f
 have D:¬ its.toArray.size*k.toNat > (2^63-1)/8:=by
  have:(sizeLine:Nat)<=(2^63-1)/8:=∅
  omega
 have C:¬ (!Builtin.List.listFitsIndex k)=true:=by
  rw[fitsIndex_both j w];exact yJ
 have J:¬ Builtin.List.listTooLong (its.toArray.size*k.toNat)=true:=by
  rw[Pr o];exact yJ
 have g:List.foldl (λc d=>c++d) #[] (List.replicate (if its.toArray.isEmpty=true then 0 else k.toNat) its.toArray)=(List.replicate k.toNat its).flatten.toArray:=by
  have i:∀m:Nat,List.foldl (λc d=>c++d) #[] (List.replicate m its.toArray)=(List.replicate m its).flatten.toArray:=λm=>by
   have:=Gj its m [];rw[List.nil_append]at this;exact this
  rw[i];cases its with
  |nil=>simp
  |cons a M=>rw[zF (by simp)]
 refine wpAny_binaryOp_repeat_ref (T:= "list") (U:= "int") ∅ ⟨_,e,rfl⟩ (λs'=>typeIs_int s' k b) noFill_list_mul F.fills_int_mul F.slot_int_rmul repeat_list F.slot_int_index.lookup
  (call_meets F.slot_int_rmul (typeIs_int s k b) F.entry_int_rmul (F.args_int_rmul_2 _ _) (int___rmul___int_list k b l its.toArray n)
   ⟨e,rfl,⟨_,e,rfl⟩,call_meets F.slot_list_mul ⟨_,e,rfl⟩ F.entry_list_mul (F.args_list_mul_2 _ _) (AutoListH.list___mul___list_int_3 l its.toArray n k b C D J) ⟨e,?_⟩⟩)
 rw[g];exact⟨.ref _,_,I.lnew (t':=s.toks) (r.rep k.toNat) (by rw[Pp,qO];exact f),rfl,q _ I.fresh⟩
end
section
variable {prog:Program} {w:World} {A:Around} {E:VP} {s:Shared}
set_option maxRecDepth 100000 in
end
end L2
namespace Att
open PySem PySem.W PySem.Calls PyProof.Rows
theorem Pn{P:Params}{h:Heap}:∀(ns:LI')(vs:LW),WellAll P h vs (ns.map WData.int)->IntsAre vs ns:=by
 intro ns
 induction ns with
 |nil =>
  intro vs w;rw[List.map_nil]at w;cases w;exact .nil
 | cons n ns c =>
  intro vs w;rw[zK]at w;cases w with
  |cons a b =>
   cases a;exact .cons _ _ (c _ b)
theorem Pm{l:OpenLaw}{n:Nat}(p:l.most=some n){P:Params}{h:Heap}{args:List WData}{vals:LW}
  (e:l.row.toRowW.claim.pre args=true)(w:WellAll P h vals args):
  ∃a vs ns,vals=[Value.ref a]/\args=[WData.list (ns.map WData.int)]/\h.get? a=some {cls:=.type "list",data:=.seq vs.toArray}/\IntsAre vs ns/\ns.length<=n:=by
 have i:WShape.hasAll [] args [.list .int]=true:=(pre_splitW e).1;have f:l.pre.holds [] {args:=args}=true:=(pre_splitW e).2;obtain⟨d,r,rfl,k,t⟩:=hasAllW_cons i;obtain rfl:=hasAllW_nil t;obtain⟨xs,rfl,j⟩:=hasW_list k;obtain⟨ns,rfl⟩:=items_int j;have m:ns.length<=n:=by
  unfold OpenLaw.pre at f;have b:(WTm.not (.lt (.lit (.int (n:Int))) (.len (.arg 0)))).holds [] {args:=[.list (ns.map .int)]}=true:=by
   have b:=(holds_andW f).1;rw[p]at b;exact b
  have c:=condW_of b (w_not (w_lt w_lit (w_len_list (w_arg rfl))));rw[yE]at c;refine Nat.le_of_not_lt λq=>?_;have v:(n:Int)<((ns.length:Nat):Int):=⋯
  first
   |(rw[zL v]at c;exact absurd c ∅)
   |(simp at c;omega)
 cases w with
 |cons x u =>
  cases u;cases x with
  |list g o=>exact⟨_,_,ns,rfl,rfl,g,Pn ns _ o,m⟩
theorem Pl(l:OpenLaw)(args:List WData):l.row.toRowW.claim.post args (.bool true) args=true:=
 postW_of (r:=l.row.toRowW) (X:=(true == true))
  (show WShape.has [] (.bool true) .bool=true by first|rfl|decide|simp[WShape.has,WShape.arms,WShape.armsAll])
  (show(WTm.eq .res (.lit (.bool true))).value [] {args:=args,res:=some (.bool true),after:=args}=some (.bool (true == true)) from w_eq_bool (w_res rfl) w_lit) rfl
section
variable {prog:Program} {w:World} {A:Around} {E:VP} {s:Shared} {K:Frag}
def t_V(h:Heap)(L d:Addr):PN:=(List.range h.objs.size).filterMap λa=>if a=L\/a=d then none else(h.get? a).map λo=>(a,o)
end
end Att
namespace L2
open PySem PySem.Spec PyProof.Rows
open PySem.W (Frag)
theorem Gi:∀{vs:LW}{ns:LI'},IntsAre vs ns->Vals (ns.map V.int) vs
 |_,_,.nil=>.nil
 |_,_,.cons n t h=>.cons ⟨t,rfl⟩ (Gi h)
def Only(H:Hp):Prop:=∀b,H b=none\/∃o xs,H b=some (.frz o (.lst xs))
theorem Pk{P:Program}{w:World}{K:Frag}{i t:MT}{D:CXT}{k:Nat}{y a:Addr}{O:FuncData}{x:Str}{J:Sp}{c:Shared}{vs:LW}{ns:LI'}
  (KX:K.In c.heap)(S:c.heap.Ns mainGlobals i)(f:c.heap.Ns builtinsNs t)(a6:∀x:Str,x≠"__name__" -> t x=bootBuiltins x)(a0:c.heap.NoLimit)(a9:c.gens=#[])
  (l:c.heap.get? a=some {cls:=.type "list",data:=.seq vs.toArray})(hi:IntsAre vs ns)(hl:ns.length<=sizeLine)(hr:Room k callerA)
  (F:∀p:Heap,K.In p->p.Ns mainGlobals i->FnOk P w K i p D k y O [x] J)(a8:∀(s:Shared)(u:Value),BindsTo s O ⟨[u],[]⟩ [(x,u)])
  (b6:∀H:Hp,Only H->SqL K H a (ns.map V.int)->J [.ref a] H (λv _=>v=.bl true) λ_ _ _=>False)
  (b5:∀H e s',D [] H c (λ_ _ _=>False) e s'->False):
  codeAny (model P w) callerA (.call (.ref y) ⟨[.ref a],[]⟩) (λr s'=>r=.ok (.ret (.bool true))/\OldK c.heap s'.heap/\s'.os=c.os/\AllBare s'.gens) c:=by
 have T:=Gi hi;have X:=hi.length
 -- from an abstract heap in which nothing but the script may be tracked
 have N:∀H:Hp,Only H->SqL K H a (ns.map V.int)->HOk P w H c.heap->(∀b,H b≠none->b=a)->(H a≠none->K.lookup a=none) ->
   codeAny (model P w) callerA (.call (.ref y) ⟨[.ref a],[]⟩) (λr s'=>r=.ok (.ret (.bool true))/\OldK c.heap s'.heap/\s'.os=c.os/\AllBare s'.gens) c:=by
  intro H I a5 G M a7;have L:∀{b:Addr}{o:Obj},c.heap.get? b=some o->H b=none->(hidT c.heap H).get? b=some o:=λe n=>Nx e n;have Z:∀{b:Addr}{o:Obj}{es:Array DictEntry}{ep:Nat},c.heap.get? b=some o->o.data=.dict es ep->H b=none:=λ{b o es ep}e d=>by
   cases q:H b with
   |none=>rfl
   |some u =>
    have C:b=a:=M b (by rw[q];simp);subst C;rw[l]at e;cases e;have d':Data.seq vs.toArray _=Data.dict es ep:=d;cases d'
  have j:∀{b:Addr}{m:MT},c.heap.Ns b m->(hidT c.heap H).Ns b m:=λ{b m}⟨o,es,ep,e,d,r⟩=>⟨o,es,ep,L e (Z e d),d,r⟩;have R:K.In (hidT c.heap H):=λb o e=>L (KX b o e) (by
   cases q:H b with
   |none=>rfl
   |some u =>
    have C:b=a:=M b (by rw[q];simp);subst C;rw[a7 (by rw[q];simp)]at e;cases e)
  have b0:Mod K i (hidT c.heap H):=⟨R,j S,⟨t,j f,a6⟩,let ⟨U,b7,Y⟩:=a0;⟨U,j b7,Y⟩⟩;have a2:Env0 P w K i (hidT c.heap H) callerA [] c H:=⟨rfl,b0,λb o e=>Nw e,rN (Ny _ _),trivial,λb f=>absurd (show b∈([]:LA) from f) (by simp),G,.of_eq a9⟩;refine rD ((F _ R (j S)).run callerA [] c H ⟨[.ref a],[]⟩ [.ref a] [.ref a] _ _ hr a2 (a8 c (.ref a)) (.cons rfl .nil) (b6 H I a5)) λr s' h=>?_;cases r with
  |error e=>exact(b5 H e s' h).elim
  | ok fl =>
   cases fl with
   |next=>exact False.elim h
   |brk=>exact False.elim h
   |cont=>exact False.elim h
   | ret u =>
    obtain⟨v,H',a4,b2,un,W,a3,q⟩:=h;have a1:v=.bl true:=q;subst a1;obtain rfl:u=Value.bool true:=a3;refine⟨rfl,OldK.of_keep λb o e=>?_,a4,b2⟩;cases q:H b with
    |none=>exact un.keep b o e q (by intro z;exact absurd (show b∈([]:LA) from z) (by simp)) (by simp)
    |some u =>
     rcases I b with z|⟨b3,xs,z⟩
     ·rw[q]at z;cases z
     ·have b4:=un.frzs b b3 _ z;obtain⟨e1,_⟩:=G b _ z;obtain⟨b1,_⟩:=W b _ b4;rw[e]at e1;cases e1;exact b1
 cases hk:K.lookup a with
 |some o =>
  -- the script is one of the module's own objects
  have e:=KX a o hk;rw[l]at e;cases e;refine N (λ_=>none) (λ_=>.inl rfl) (.inr ⟨_,vs.toArray,_,hk,rfl,rfl,rfl,by rw[zZ,X];exact hl,by simpa using T⟩) (λb u z=>by have g:(none:Option HO)=some u:=z;cases g) (λb z=>absurd rfl z) λz=>absurd rfl z
 | none =>
  refine N (λb=>if b=a then some (.frz {cls:=.type "list",data:=.seq vs.toArray} (.lst (ns.map V.int))) else none) (λb=>?_) (.inl (.inr ⟨{cls:=.type "list",data:=.seq vs.toArray},zG rfl⟩)) (λb u z=>?_) (λb z=>?_) λ_=>hk
  ·by_cases f:b=a
   ·exact .inr ⟨_,_,zG f⟩
   ·exact .inl (zF f)
  ·by_cases f:b=a
   ·have g:=(zG f).symm.trans z;cases g;subst f;exact⟨l,by rw[yE];exact hl,vs,_,T,l⟩
   ·have g:=(zF f).symm.trans z;cases g
  ·by_cases f:b=a
   ·exact f
   ·exact absurd (zF f) z
abbrev KOf{K:Frag}{h:Heap}(_:K.In h):Frag:=K
def dZ(s:Stmt)(j:Nat):Stmt:=match s with
 |.ClassDef _ _ _ body _ _ _ _ _ _ _=>body.getD j (.Pass ⟨0,0,0,0⟩)
 |_=>.Pass ⟨0,0,0,0⟩
def jS(s:Stmt):Arguments:=match s with
 |.FunctionDef _ a _ _ _ _ _ _ _ _=>a
 |_=>{posonlyargs:=[],args:=[],vararg:=none,kwonlyargs:=[],kw_defaults:=[],kwarg:=none,defaults:=[]}
def kF(s:Stmt):List Stmt:=match s with
 |.FunctionDef _ _ b _ _ _ _ _ _ _=>b
 |_=>[]
def oO(s:Stmt):Scope:=match s with
 |.FunctionDef _ _ _ _ _ _ sc _ _ _=>sc
 |_=>{kind:=.function,names:=[],isGenerator:=false,isCoroutine:=false}
abbrev CX0:CXT:=λ_ _ _ _ _ _=>False
abbrev E0:XK:=λ_ _ _=>False
theorem mK{X:Cx}:gE CX0 X E0:=λ_ _ _ _ _ _ _ h=>h.elim
structure Fun(K:Frag)(x qual:Str)(st:Stmt)(f:Addr)(fd:FuncData):Prop where
 ex:∃(oc:Value)(od:Option Addr)(kV doc pm:Value)(an:Option Addr)(cdv ct:Value)(osl:Array (Option Value)),
  fd=PySem.W.fnOf x qual (jS st) (kF st) (oO st) .none kV doc pm an cdv ct/\K.lookup f=some ⟨oc,od,.func fd,osl⟩/\PySem.W.codeIn K cdv qual=true
 kp:PySem.W.keepIn K (.ref f)=true
section
variable {P:Program} {w:World} {K:Frag} {mg:MT} {base:Heap}
theorem Fun.ok{x b:Str}{st:Stmt}{f:Addr}{d:FuncData}{N ps:List Str}{k:Nat}{c:Sp}(F:Fun K x b st f d)(i:nB N ps (oO st))(len:∀vs H Q E,c vs H Q E->vs.length=ps.length)
  (e:∀(cdv:Value)(A:Around)(outer:List Env)(s:Shared)(H:Hp)(vs:List V)(Q:VK)(E:XK),Room k (A.deeper (envOfC b (oO st) s.heap.objs.size f cdv))->c vs H Q E ->
   ∃a,PSs (cxOf CX0 P w K mg base N b (oO st) f cdv A outer s H E).nox (kF st) a/\a {nx:=λ_ H'=>Q .non H',rt:=Q} (iE N vs) H):FnOk P w K mg base CX0 (k+1) f d ps c:=by
 obtain⟨m,r,kV,o,p,u,cdv,t,n,rfl,l,j⟩:=F.ex;refine Bf l j i len λA outer s H vs Q E hr g=>?_;obtain⟨a,h,q⟩:=e cdv A outer s H vs Q E hr g;exact⟨a,h.nox,q⟩
theorem Fun.binds{x g:Str}{st:Stmt}{f:Addr}{e:FuncData}{ps:List Str}(F:Fun K x g st f e)
  (h:∀(kV a b:Value)(d:Option Addr)(cdv c:Value)(us:LW),us.length=ps.length->bindArgs (PySem.W.fnOf x g (jS st) (kF st) (oO st) .none kV a b d cdv c) ⟨us,[]⟩=pure (ps.zip us)):lB K e ps []:=by
 obtain⟨i,k,kV,a,b,d,cdv,c,j,rfl,m,l⟩:=F.ex;exact .all (h kV a b d cdv c)
theorem fun_mk{x a:Str}{st:Stmt}{f:Addr}{m:Value}{j g:Option Addr}{i:Array (Option Value)}{kV b d cdv e:Value}(l:K.lookup f=some ⟨m,j,.func (PySem.W.fnOf x a (jS st) (kF st) (oO st) .none kV b d g cdv e),i⟩)
  (c:PySem.W.codeIn K cdv a=true)(k:PySem.W.keepIn K (.ref f)=true):Fun K x a st f (PySem.W.fnOf x a (jS st) (kF st) (oO st) .none kV b d g cdv e):=⟨⟨m,j,kV,b,d,g,cdv,e,i,rfl,l,c⟩,k⟩
end
theorem cC{n:Nat}(h:n<=1000):n<sizeLine:=yZ h ∅
section
variable {X:Cx}
theorem pv(i:Nat){x:Str}{a:Pos}(b:X.N[i]?=some x:=by rfl)(e:Vis X.env.scope x:=by first|exact Or.inl rfl|exact Or.inr (Or.inl rfl)|exact Or.inr (Or.inr rfl))(d:(x == ("__debug__" :Str))=false:=by decide)
  (c:(x == ("__classdict__" :Str))=false:=by decide):PE X (.Name x a) (tVar i):=Fj b e d c
end
theorem iteF{A B:Prop}(h:B):if false=true then A else B:=by
 rw[zF yJ];exact h
theorem iteT{A B:Prop}(h:A):if true=true then A else B:=by
 rw[zG rfl];exact h
theorem ite2{c A B:Prop}[Decidable c](b:c->A)(a:¬ c->B):if c then A else B:=by
 by_cases h:c
 ·rw[zG h];exact b h
 ·rw[zF h];exact a h
def Same(H H':Hp):Prop:=∀b o,H b=some o->H' b=some o
theorem Same.refl(H:Hp):Same H H:=λ_ _ h=>h
theorem Same.trans{H d e:Hp}(a:Same H d)(b:Same d e):Same H e:=λc o h=>b c o (a c o h)
theorem Same.seq{K:Frag}{H H':Hp}{a:Addr}{xs:List V}(e:Same H H')(h:SqL K H a xs):SqL K H' a xs:=by
 rcases h with(h|⟨o,h⟩)|h
 ·exact .inl (.inl (e _ _ h))
 ·exact .inl (.inr ⟨o,e _ _ h⟩)
 ·exact .inr h
end L2
set_option maxHeartbeats 4000000
namespace L2
open PySem PySem.Spec PyProof.Rows
open PySem.W (Frag)
inductive E1{T0:Type}(P:T0->Prop):Prop
 |mk (x0:T0):P x0->E1 P
inductive E2{T0 T1:Type}(P:T0->T1->Prop):Prop
 |mk (x0:T0) (x1:T1):P x0 x1->E2 P
inductive E3{T0 T1 T2:Type}(P:T0->T1->T2->Prop):Prop
 |mk (x0:T0) (x1:T1) (x2:T2):P x0 x1 x2->E3 P
inductive E4{T0 T1 T2 T3:Type}(P:T0->T1->T2->T3->Prop):Prop
 |mk (x0:T0) (x1:T1) (x2:T2) (x3:T3):P x0 x1 x2 x3->E4 P
inductive E5{T0 T1 T2 T3 T4:Type}(P:T0->T1->T2->T3->T4->Prop):Prop
 |mk (x0:T0) (x1:T1) (x2:T2) (x3:T3) (x4:T4):P x0 x1 x2 x3 x4->E5 P
inductive E6{T0 T1 T2 T3 T4 T5:Type}(P:T0->T1->T2->T3->T4->T5->Prop):Prop
 |mk (x0:T0) (x1:T1) (x2:T2) (x3:T3) (x4:T4) (x5:T5):P x0 x1 x2 x3 x4 x5->E6 P
inductive E7{T0 T1 T2 T3 T4 T5 T6:Type}(P:T0->T1->T2->T3->T4->T5->T6->Prop):Prop
 |mk (x0:T0) (x1:T1) (x2:T2) (x3:T3) (x4:T4) (x5:T5) (x6:T6):P x0 x1 x2 x3 x4 x5 x6->E7 P
inductive E8{T0 T1 T2 T3 T4 T5 T6 T7:Type}(P:T0->T1->T2->T3->T4->T5->T6->T7->Prop):Prop
 |mk (x0:T0) (x1:T1) (x2:T2) (x3:T3) (x4:T4) (x5:T5) (x6:T6) (x7:T7):P x0 x1 x2 x3 x4 x5 x6 x7->E8 P
inductive E9{T0 T1 T2 T3 T4 T5 T6 T7 T8:Type}(P:T0->T1->T2->T3->T4->T5->T6->T7->T8->Prop):Prop
 |mk (x0:T0) (x1:T1) (x2:T2) (x3:T3) (x4:T4) (x5:T5) (x6:T6) (x7:T7) (x8:T8):P x0 x1 x2 x3 x4 x5 x6 x7 x8->E9 P
inductive E12{T0 T1 T2 T3 T4 T5 T6 T7 T8 T9 T10 T11:Type}(P:T0->T1->T2->T3->T4->T5->T6->T7->T8->T9->T10->T11->Prop):Prop
 |mk (x0:T0) (x1:T1) (x2:T2) (x3:T3) (x4:T4) (x5:T5) (x6:T6) (x7:T7) (x8:T8) (x9:T9) (x10:T10) (x11:T11):P x0 x1 x2 x3 x4 x5 x6 x7 x8 x9 x10 x11->E12 P
inductive A3(a b c:Prop):Prop|mk:a->b->c->A3 a b c
inductive A4(a b c d:Prop):Prop|mk:a->b->c->d->A4 a b c d
inductive A5(a b c d e:Prop):Prop|mk:a->b->c->d->e->A5 a b c d e
inductive A6(a b c d e f:Prop):Prop|mk:a->b->c->d->e->f->A6 a b c d e f
inductive A7(a b c d e f g:Prop):Prop|mk:a->b->c->d->e->f->g->A7 a b c d e f g
inductive A8(a b c d e f g h:Prop):Prop|mk:a->b->c->d->e->f->g->h->A8 a b c d e f g h
inductive A9(a b c d e f g h i:Prop):Prop|mk:a->b->c->d->e->f->g->h->i->A9 a b c d e f g h i
inductive A10(a b c d e f g h i j:Prop):Prop|mk:a->b->c->d->e->f->g->h->i->j->A10 a b c d e f g h i j
inductive A11(a b c d e f g h i j k:Prop):Prop|mk:a->b->c->d->e->f->g->h->i->j->k->A11 a b c d e f g h i j k
inductive A13(a b c d e f g h i j k l m:Prop):Prop|mk:a->b->c->d->e->f->g->h->i->j->k->l->m->A13 a b c d e f g h i j k l m
inductive A14(a b c d e f g h i j k l m n:Prop):Prop|mk:a->b->c->d->e->f->g->h->i->j->k->l->m->n->A14 a b c d e f g h i j k l m n
inductive A15(a b c d e f g h i j k l m n o:Prop):Prop|mk:a->b->c->d->e->f->g->h->i->j->k->l->m->n->o->A15 a b c d e f g h i j k l m n o
inductive A16(a b c d e f g h i j k l m n o p:Prop):Prop|mk:a->b->c->d->e->f->g->h->i->j->k->l->m->n->o->p->A16 a b c d e f g h i j k l m n o p
inductive A20(a b c d e f g h i j k l m n o p q r s t:Prop):Prop|mk:a->b->c->d->e->f->g->h->i->j->k->l->m->n->o->p->q->r->s->t->A20 a b c d e f g h i j k l m n o p q r s t
def clOf(env:Env):List (Str×NameKind)->List (Str×Addr)->List (Str×Addr)
 |[],cs=>cs
 |(n,k):: r,cs=>clOf env r (if k == .free then(n,(env.cells.lookup n).getD 0):: cs else cs)
theorem Gh{env:Env}{n:Str}{c:Addr}:∀{l:List (Str×NameKind)}{cs:List (Str×Addr)},(∀y∈l,y.2=.free->∃c,env.cells.lookup y.1=some c) ->
  (clOf env l cs).lookup n=some c->cs.lookup n=some c\/env.cells.lookup n=some c
 |[],_,_,h=>.inl h
 | (m,k):: r,cs,hl,h=>by
  have hr:∀y∈r,y.2=.free->∃c,env.cells.lookup y.1=some c:=λy d=>hl y (zM _ d);rcases Gh hr h with q|q
  ·by_cases a:(k == NameKind.free)=true
   ·rw[zG a]at q;obtain⟨g,e⟩:=hl (m,k) zU (by simpa using a);rw[xI]at q;cases hm:n == m with
    |true =>
     rw[hm]at q;have b:(env.cells.lookup m).getD 0=c:=zQ q;have f:n=m:=by simpa using hm
     rw[e]at b;have i:g=c:=b;rw[f,e,i];exact .inr rfl
    |false =>
     rw[hm]at q;exact .inl q
   ·rw[zF a]at q;exact .inl q
  ·exact .inr q
theorem Cz{env:Env}{n:Str}:∀{l:List (Str×NameKind)}{cs:List (Str×Addr)},((n,NameKind.free)∈l\/∃c,cs.lookup n=some c)->∃c,(clOf env l cs).lookup n=some c
 |[],_,h=>by
  rcases h with h|h
  ·simp at h
  ·exact h
 | (m,k):: r,cs,h=>by
  refine Cz (l:=r) ?_
  by_cases b:(n,NameKind.free)∈r
  ·exact .inl b
  ·refine .inr ?_;rcases h with h|⟨c,h⟩
   ·rcases xE.mp h with e|e
    ·cases e;rw[zG ∅];exact⟨(env.cells.lookup n).getD 0,by rw[xI];simp⟩
    ·exact absurd e b
   ·by_cases a:(k == NameKind.free)=true
    ·rw[zG a,xI];cases hm:n == m with
     |true=>exact⟨_,rfl⟩
     |false=>exact⟨c,h⟩
    ·rw[zF a];exact⟨c,h⟩
theorem Gg{d:Scope}{env:Env}(h:∀y∈d.names,y.2=.free->∃c,env.cells.lookup y.1=some c):closureFor d env=pure (clOf env d.names []):=by
 have go:∀(l:List (Str×NameKind))(cs:List (Str×Addr)),(∀y∈l,y.2=.free->∃c,env.cells.lookup y.1=some c) ->
   (forIn l cs (λ(x:Str×NameKind)(r:List (Str×Addr))=>if x.2 == NameKind.free then(do let a ←cellOf env x.1;pure (ForInStep.yield ((x.1,a):: r))) else(pure (ForInStep.yield r):Sem _)):Sem _)=pure (clOf env l cs):=by
  intro l
  induction l with
  |nil=>intro cs _;rfl
  | cons y r f =>
   intro cs hl;obtain⟨n,k⟩:=y;have hr:∀y∈r,y.2=.free->∃c,env.cells.lookup y.1=some c:=λy g=>hl y (zM _ g);rw[uG]
   by_cases b:(k == NameKind.free)=true
   ·obtain⟨c,e⟩:=hl (n,k) zU (by simpa using b);have e1:cellOf env n=pure c:=by unfold cellOf;rw[show env.cells.lookup n=some c from e]
    dsimp only;rw[zG b,e1];simp only[pure_bind];rw[f _ hr];show _=pure (clOf env r _);rw[zG b,show env.cells.lookup n=some c from e]
    all_goals rfl
   ·dsimp only;rw[zF b];simp only[pure_bind];rw[f _ hr];show _=pure (clOf env r _);rw[zF b]
 have e:closureFor d env=(forIn d.names ([]:List (Str×Addr)) (λ(x:Str×NameKind)(r:List (Str×Addr))=>if x.2 == NameKind.free then(do let a ←cellOf env x.1;pure (ForInStep.yield ((x.1,a):: r))) else(pure (ForInStep.yield r):Sem _)):Sem _):=by
  unfold closureFor
  first
   |rfl
   |(simp only[bind_pure];rfl)
   |(simp;done)
 rw[e];exact go _ _ h
theorem Gf{env:Env}:∀{b:List (Str×NameKind)}{x:Str},b.lookup x=some .free ->
  (b.map λ(n,k)=>if(k == NameKind.free && env.scope.kind == .function && env.kindOf n == some .cell) then(n,NameKind.cell) else(n,k)).lookup x=some .cell \/
  (b.map λ(n,k)=>if(k == NameKind.free && env.scope.kind == .function && env.kindOf n == some .cell) then(n,NameKind.cell) else(n,k)).lookup x=some .free
 |[],_,h=>by simp at h
 | (n,k):: r,x,h=>by
  have c:=@Gf env r x;cases hx:x == n with
  |true =>
   simp only[List.lookup_cons,hx]at h;cases h
   by_cases a:(NameKind.free == NameKind.free && env.scope.kind == .function && env.kindOf n == some .cell)=true
   ·refine .inl ?_;rw[zK];dsimp only;rw[zG a,xI,hx]
   ·refine .inr ?_;rw[zK];dsimp only;rw[zF a,xI,hx]
  |false =>
   simp only[List.lookup_cons,hx]at h;rw[zK];dsimp only
   by_cases a:(k == NameKind.free && env.scope.kind == .function && env.kindOf n == some .cell)=true
   ·rw[zG a,xI,hx];exact c h
   ·rw[zF a,xI,hx];exact c h
structure t_W(X:Cx)(scope:Scope)(x:Str)(fr:List (Str×Nat)):Prop where
 kind:scope.kind=.function
 cell:∀y∈scope.names,y.2≠.cell
 free:∀y∈scope.names,y.2=.free->X.env.kindOf y.1=some .cell\/X.env.kindOf y.1=some .free
 loc:∀y∈scope.names,y.2=.local->scope.names.lookup y.1=some .local
 name:scope.names.lookup x=some .local
 nd:(x:: fr.map (·.1)).Nodup
 fr:∀p∈fr,X.N[p.2]?=some p.1/\scope.names.lookup p.1=some .free
def lG(fr:List (Str×Nat))(σ:St):St:=fr.map λp=>σ.getD p.2 none
section
variable {X:Cx} {scope:Scope} {x:Str} {fr:List (Str×Nat)}
def Ge(i:Nat)(te:TE):TS:=λD σ H=>te σ H λv H1=>D.nx (σ.set i (some v)) H1
end
theorem mB.there{P:Program}{w:World}{H:Hp}{h:Heap}{a:Addr}{o:HO}(x:mB P w H h a o):∃b,h.get? a=some b:=by
 cases o with
 |lst xs=>obtain⟨_,_,_,_,e⟩:=x;exact⟨_,e⟩
 |tup xs=>obtain⟨_,_,_,b,e,_⟩:=x;exact⟨b,e⟩
 |dK kvs=>obtain⟨_,_,_,_,o,_,_,e,_⟩:=x;exact⟨_,e⟩
 |dT kvs=>obtain⟨_,_,_,_,o,_,_,e,_⟩:=x;exact⟨_,e⟩
 |set c n=>obtain⟨o,_,_,_,e,_⟩:=x;exact⟨_,e⟩
 |ins C d fs=>obtain⟨_,_,_,e,_⟩:=x;exact⟨_,e⟩
 |own y=>exact x
 |xd fs=>obtain⟨_,⟨_,_,_,e,_⟩,_⟩:=x;exact⟨_,e⟩
 |rng lo hi=>obtain⟨_,_,_,e⟩:=x;exact⟨_,e⟩
 |frz b u=>exact⟨_,x.1⟩
 |tbl ps=>exact⟨_,x⟩
 |met f y=>exact⟨_,x⟩
 |ext g=>exact x.2.1
abbrev Cov(fs:LA)(h₀:Heap)(H:Hp)(h B:Heap):Prop:=∀b o,h.get? b=some o->b∉fs->((∃o',h₀.get? b=some o')\/∃u,H b=some u)->B.get? b=some o
def FlyX(X:Cx)(pins:PN)(H:Hp)(e:Addr)(C:Value)(h:Heap):Prop:=∃B a0,Heap.FlyingW B X.stack e C a0 h/\Cov (frs X.stack) X.s₀.heap H h B/\∀p∈X.pn++pins,B.get? p.1=some p.2
def CX1(P:Program)(w:World):CXT:=λouter H s E ev s'=>∃e C H' B a0,ev=.ref e/\s'.os=s.os/\AllBare s'.gens/\Un (frs outer) [] H H' s.heap s'.heap/\HOk P w H' s'.heap /\
 Heap.FlyingW B outer e C a0 s'.heap/\Cov (frs outer) s.heap H' s'.heap B/\E C none H'
abbrev XE:=St->Value->Hp->Prop
def aF(X:Cx)(EX:XE):Prop:=∀(pins:PN)(σ:St)(H:Hp)(s:Shared)(e:Addr)(C:Value),Inv X pins σ H s->FlyX X pins H e C s.heap->EX σ C H->X.xe (.ref e) s
def Gc(X:Cx)(EX:XE):Prop:=∀(pins:PN)(σ:St)(H:Hp)(s:Shared)(h':Heap)(e:Addr)(C:Value)(vs:LW),Inv X pins σ H s->Heap.MadeExcOf s.heap h' e C vs->EX σ C H->X.xe (.ref e) {s with heap:=h'}
theorem Cy{X:Cx}{y:PN}{F:St}{H:Hp}{s:Shared}{g B:Heap}(I:Inv X y F H s)(L:X.stack=X.env:: X.outer)(K:X.env.frame=some X.env.locals)(D:X.ex=[])
  (stay:B.StaysIn g)(sm:s.heap.UpToSlots g)(r:Cov (frs X.stack) X.s₀.heap H s.heap B):
  Un X.fs [] X.H₀ H X.s₀.heap g/\HOk X.prog X.w H g/\Cov X.fs X.s₀.heap H g B:=by
 have u:=I.base;rw[D]at u;have G:frs X.stack=X.env.locals:: X.fs:=by
  rw[L];unfold frs;rw[tK,K];rfl
 have m:∀b o,X.s₀.heap.get? b=some o->b∉X.fs->b∉frs X.stack:=λb o e c l=>by
  rw[G]at l;rcases xE.mp l with z|z
  ·exact absurd (zI (zP e) I.ok.above) (by rw[z];exact xA _)
  ·exact c z
 have trk:∀b v,H b=some v->b∉frs X.stack:=λb v e l=>by
  have:=I.stkFree b l;rw[e]at this;cases this
 have i:∀b o,s.heap.get? b=some o->b∉frs X.stack->((∃f,X.s₀.heap.get? b=some f)\/∃v,H b=some v)->g.get? b=some o:=λb o e c t=>stay b o (r b o e c t);have frm:∀b,b∈X.fs->∀o,s.heap.get? b=some o->∃p,g.get? b=some {o with slots:=p}:=λb c o e=>by
  obtain⟨_,f,d,J⟩:=I.funs.mem c;rw[e]at d;cases d;exact sm b o e J
 refine⟨⟨λb o e n c k=>?_,λb o e n c k=>?_,u.free,λb o e k=>?_,u.tups,u.frzs,u.tbls⟩,λa o w=>?_,λb o e c t=>?_⟩
 ·exact i b o (u.keep b o e n c k) (m b o e c) (.inl ⟨o,e⟩)
 ·obtain⟨p,e1⟩:=u.slot b o e n c k;obtain⟨C,x⟩:=frm b c _ e1;exact⟨C,x⟩
 ·obtain⟨j,e1⟩:=u.there b o e k
  by_cases c:b∈X.fs
  ·obtain⟨p,x⟩:=frm b c _ e1;exact⟨_,x⟩
  ·exact⟨j,i b j e1 (m b o e c) (.inl ⟨o,e⟩)⟩
 ·refine(I.hok a o w).stay (λb v c q=>?_) (λ_ q=>q) λ_ _ q=>q;rcases c with c|c
  ·subst c;exact i b v q (trk b o w) (.inr ⟨o,w⟩)
  ·exact i b v q (trk b _ c) (.inr ⟨_,c⟩)
 ·rcases t with⟨f,d⟩|⟨v,d⟩
  ·obtain⟨j,e1⟩:=u.there b f d (by simp);have q:=i b j e1 (m b f d c) (.inl ⟨f,d⟩);rw[e]at q;cases q;exact r b o e1 (m b f d c) (.inl ⟨f,d⟩)
  ·obtain⟨j,e1⟩:=(I.hok b v d).there;have q:=i b j e1 (trk b v d) (.inr ⟨v,d⟩);rw[e]at q;cases q;exact r b o e1 (trk b v d) (.inr ⟨v,d⟩)
section
variable {P:Program} {w:World} {K:Frag} {mg:MT} {base:Heap} {N:List Str} {qual:Str} {scope:Scope} {f:Addr} {cd:Value} {A:Around} {outer:List Env} {s₀:Shared} {H₀:Hp} {E:XK}
theorem Pj:aF (cxOf (CX1 P w) P w K mg base N qual scope f cd A outer s₀ H₀ E) (λ_ C H=>E C none H):=by
 intro k i H s e C I F c;obtain⟨B,b,fl,g,_⟩:=F;refine wpAny_leaves_onW I.ok.frames rfl fl λj a sm=>?_;obtain⟨un,ok,d⟩:=Cy I rfl rfl rfl a.1 sm g;exact⟨e,C,H,B,b,rfl,I.os,I.bare,un,ok,a,d,c⟩
theorem fF:Gc (cxOf (CX1 P w) P w K mg base N qual scope f cd A outer s₀ H₀ E) (λ_ C H=>E C none H):=by
 intro r n H s h' e C vs I M j;have d:=I.stack;have m:=PySem.W.funFrames_hide (as:=frs (cxOf (CX1 P w) P w K mg base N qual scope f cd A outer s₀ H₀ E).stack) d (λenv k a i=>List.mem_filterMap.mpr ⟨env,k,i⟩);refine wpAny_leaves_madeW (s:={s with heap:=h'}) (h:=s.heap) I.ok.frames rfl (λb o q=>PySem.W.of_hideAll _ q) m M λp t c _ _ sm=>?_;obtain⟨un,ok,l⟩:=Cy I rfl rfl rfl c.1 ((Heap.UpToSlots.of_keeps M.keeps).trans sm) λb o q g _=>PySem.W.hideAll_get _ q g;exact⟨e,C,H,_,_,rfl,I.os,I.bare,un,ok,c,l,j⟩
end
section
variable {X:Cx} {EX:XE} {k:Nat} {f:Addr} {fd:FuncData} {ps:List Str} {sp:Sp} {dvs:List V} {ds:LW} {x:Str} {p pos:Pos} {e:Expr} {es:List Expr} {t:TA}
def Pi(sp:Sp)(dvs:List V)(EX:XE)(t:TA):TE:=λσ H Q=>t σ H λvs H1=>sp (vs++dvs) H1 Q λC _ H'=>EX σ C H'
theorem Ph{d:PN}{c:St}{H:Hp}{s:Shared}{Q:VK}{us:LW}{vs:List V}(F:FnOk X.prog X.w X.K X.mg X.base (CX1 X.prog X.w) k f fd ps sp)(hr:Room k X.A)(i:lB X.K fd ps ds)(D:Vals dvs ds)(y:aF X EX)
  (L:X.ex=[])(I:Inv X d c H s)(r:Vals vs us)(h:sp (vs++dvs) H Q λC _ H'=>EX c C H'):wpAny (model X.prog X.w) X.A (call (.ref f) us) (EP X d c Q) X.xe s:=by
 have m:Vals (vs++dvs) (us++ds):=r.append D;have hl:(us++ds).length=ps.length:=by rw[←m.length];exact F.len _ _ _ _ h
 refine pC (rD (F.run X.A X.stack s H ⟨us,[]⟩ (us++ds) (vs++dvs) Q _ hr I.env0 (i s us I.kIn hl) m h) λr s' a=>?_);cases r with
 | error S =>
  obtain⟨e,C,H',B,M,rfl,G,O,un,ok,fl,j,q⟩:=a;have n:Inv X d c H' s':=I.call' G un ok O λb z=>absurd z (by simp);refine y d c H' s' e C n ⟨B,M,fl,λb o e1 i g=>j b o e1 i ?_,λp l=>?_⟩ q
  ·rcases g with⟨w,R⟩|g
   ·obtain⟨J,N⟩:=I.base.there b w R (by rw[L];simp);exact .inl ⟨J,N⟩
   ·exact .inr g
  ·obtain⟨e1,T,v,P,_⟩:=n.pin p l;refine j p.1 p.2 e1 (λK=>?_) (.inl ⟨_,(I.pin p l).1⟩);rcases xE.mp (I.stkSub p.1 K) with z|z
   ·exact v z
   ·exact P z
 |ok fl =>
  cases fl with
  |ret u=>exact I.after a
  |next=>exact False.elim a
  |brk=>exact False.elim a
  |cont=>exact False.elim a
theorem Gb(F:FnOk X.prog X.w X.K X.mg X.base (CX1 X.prog X.w) k f fd ps sp)(hr:Room k X.A)(m:Gl X x)(n:X.mg x=some (.ref f))(b:PySem.W.keepIn X.K (.ref f)=true)(c:lB X.K fd ps ds)(u:Vals dvs ds)(o:aF X EX)
  (d:PA X (e:: es) t)(g:X.ex=[]:=by rfl)(w:(x == ("__debug__" :Str))=false:=by decide)(j:starEach (e:: es) X.env=(false,eval e X.env):: starEach es X.env:=by rfl)(v:(backTo pos (starEach es X.env)).any (·.1)=false:=by rfl):
  PE X (.Call (.Name x p) (e:: es) [] pos) (Pi sp dvs EX t):=by
 intro l s i H Q I h;refine wT (fZ I m n ?_ w);refine tY (h₀:=X.base) I.ok.mod.kin b (thn (d pos l s i H _ I h) λus y⟨vs,z,a,r,q⟩=>⟨a.kIn,?_⟩) j v;exact Ph F hr c u o g a r q
theorem jG{P:Program}{w:World}{Y:Cx}:gE (CX1 P w) Y E0:=λ_ _ _ _ _ _ _ h=>by
 obtain⟨_,_,_,_,_,_,_,_,_,_,_,_,q⟩:=h;exact q.elim
end
theorem Pg{K:Frag}{h:Heap}{C:Addr}{f:LW}{e:String}(KX:K.In h)(a:PySem.W.excIn K C f e=true):
  ∃bm N nm c bs b sn sub ab col dd k0 k1 k2 k3 k5 mN,h.get? C=some (excClassObj nm c C N bs bm b sn sub ab col dd k0 k1 k2 k3 k5 e)/\h.Ns N mN/\mN "__init__"=none/\OwnTail h f bm:=by
 revert a
 unfold PySem.W.excIn;split
 ·next dd p d n =>
  split
  ·next i bm k0 k1 k2 k3 v k5 q es =>
   intro a;simp only[Bool.and_eq_true,beq_iff_eq,Bool.not_eq_true']at a;obtain⟨⟨⟨⟨⟨e1,u⟩,k⟩,o⟩,g⟩,x⟩:=a;subst e1 u;cases p with
   | mk nm bs j ns c b sn sub ab col m =>
    have w:j=Value.ref i:: bm:=q;have r:m=false:=k;subst w r;have t:d=#[k0,k1,k2,k3,some (Value.builtin v),k5]:=by
     cases d with
     |mk l=>exact wF Array.mk es
    subst t;exact⟨bm,ns,nm,c,bs,b,sn,sub,ab,col,dd,k0,k1,k2,k3,k5,_,KX _ _ n,Heap.Ns.of_isNs (PySem.W.isNs_of_in KX g),PySem.W.nsMap_none_of_in KX g x,PySem.W.tail_of_in KX o⟩
  ·intro z;cases z
 ·intro z;cases z
section
variable {X:Cx} {EX:XE} {C:Addr} {x:Str} {np cpos pos:Pos} {e₀:Expr} {rest:List Expr} {t:TA} {bmB:LW} {B newId initId:String}
def iV(C:Addr)(EX:XE)(t:TA):TS:=λ_ σ H=>t σ H λvs H1=>vs.length<=sizeLine/\EX σ (.ref C) H1
theorem fG(o:X.calm=true)(i:Gc X EX)(v:Gl X x)(n:X.mg x=some (.ref C))(j:PySem.W.excIn X.K C bmB newId=true)(d:ExcBaseFacts B newId initId bmB)(p:PA X (e₀:: rest) t)
  (G:(x == ("__debug__" :Str))=false:=by decide)(b:starEach (e₀:: rest) X.env=(false,eval e₀ X.env):: starEach rest X.env:=by rfl)(m:(backTo cpos (starEach rest X.env)).any (·.1)=false:=by rfl):
  PS X (.Raise (some (.Call (.Name x np) (e₀:: rest) [] cpos)) none pos) (iV C EX t):=by
 intro c s g H D I h;obtain⟨bm,N,nm,q,bs,k,sn,sub,ab,col,dd,k0,k1,k2,k3,k5,mN,w,J,u,T⟩:=Pg I.mod.kin j;have F:(backTo cpos (starEach (e₀:: rest) X.env)).any (·.1)=false:=by
  rw[b];show(false || (backTo cpos (starEach rest X.env)).any (·.1))=false;rw[m];rfl
 refine wpAny_Raise_call_subT (C:=C) (nm:=nm) (q:=q) (N:=N) (bs:=bs) (bm:=bm) (hdct:=k) (sn:=sn) (sub:=sub) (ab:=ab) (col:=col) (dd:=dd) (k0:=k0) (k1:=k1) (k2:=k2) (k3:=k3) (k5:=k5) d (mN:=mN) (T.hasType d.hasBase) (I.ok.hd o) F u
  (fZ I v n ⟨rfl,?_⟩ G)
 have f:=p cpos c s g H _ I h;rw[b]at f ⊢;refine rP (thn f λus l⟨vs,K,a,r,z,y⟩=>⟨rfl,?_,a.bk _ _ w,J.keeps a.bk,T.keeps a.bk,λh' e M=>i c g K l h' e _ us a M y⟩);show us.length<=sizeLine;rw[←r.length];exact z
end
section
variable {X:Cx} {pins:PN} {σ:St} {H:Hp} {s:Shared}
theorem Inv.flown{h' B:Heap}(I:Inv X pins σ H s)(j:X.stack=X.env:: X.outer)(g:X.env.frame=some X.env.locals)(b:X.ex=[])(stay:B.StaysIn h')(sm:s.heap.UpToSlots h')(C:Cov (frs X.stack) X.s₀.heap H s.heap B)
  (t:∀p∈X.pn++pins,B.get? p.1=some p.2):Inv X pins σ H {s with heap:=h'}:=by
 obtain⟨un,ok,_⟩:=Cy I j g b stay sm C;have a:∀c v,s.heap.IsCell c v->h'.IsCell c v:=λc v⟨o,e,d⟩=>by
  obtain⟨D,y⟩:=sm c o e λvs z=>by rw[d]at z;cases z
  exact⟨_,y,d⟩
 refine⟨I.ok,I.os,I.bare,by rw[b];exact un,?_,λx c e=>?_,I.free,I.freeC,λp f=>?_,ok,I.len⟩
 ·obtain⟨m,q,hl⟩:=I.loc;refine⟨m,sm.ns q,λi x v e1 w n=>?_⟩;obtain⟨u,r,l⟩:=hl i x v e1 w n;refine⟨u,r,?_⟩;rcases l with l|⟨k,c,e,z⟩
  ·exact .inl l
  ·exact .inr ⟨k,c,e,a c _ z⟩
 ·obtain⟨v,z⟩:=I.cell x c e;exact⟨v,a c v z⟩
 ·obtain⟨_,r⟩:=I.pin p f;exact⟨stay _ _ (t p f),r⟩
def Ga(e:Addr)(C:Value):HO:=.ext λh=>∃o,h.get? e=some o/\o.cls=C
end
abbrev Cx.body(X:Cx)(pn:PN)(E:VP):Cx:={X with pn:=pn,xe:=E}
abbrev Cx.suite(X:Cx)(e:Addr):Cx:={X with A:=X.A.mark (some (.ref e)),calm:=false,xe:=λ_ _=>False}
section
variable {X:Cx} {pins pins':PN} {σ:St} {H:Hp} {s:Shared} {E:VP} {e:Addr}
theorem Inv.intry(I:Inv X pins σ H s):Inv (X.body (X.pn++pins) E) [] σ H s:=
 ⟨⟨I.ok.mod,I.ok.kind,I.ok.glob,I.ok.blt,I.ok.above,I.ok.inj,I.ok.has,I.ok.cab,I.ok.hd,I.ok.frames,I.ok.stk,I.ok.exf,I.ok.bs,I.ok.bsz,I.ok.noex,I.ok.exfs,I.ok.funs,I.ok.frf⟩,
  I.os,I.bare,I.base,I.loc,I.cell,I.free,I.freeC,λp a=>I.pin p (by simpa using a),I.hok,I.len⟩
theorem Inv.offtry(I:Inv (X.body (X.pn++pins) E) pins' σ H s):Inv X pins σ H s:=
 ⟨⟨I.ok.mod,I.ok.kind,I.ok.glob,I.ok.blt,I.ok.above,I.ok.inj,I.ok.has,I.ok.cab,I.ok.hd,I.ok.frames,I.ok.stk,I.ok.exf,I.ok.bs,I.ok.bsz,I.ok.noex,I.ok.exfs,I.ok.funs,I.ok.frf⟩,
  I.os,I.bare,I.base,I.loc,I.cell,I.free,I.freeC,λp a=>I.pin p (xN _ a),I.hok,I.len⟩
theorem Inv.insuite(I:Inv X pins σ H s):Inv (X.suite e) pins σ H s:=
 ⟨⟨I.ok.mod,I.ok.kind,I.ok.glob,I.ok.blt,I.ok.above,I.ok.inj,I.ok.has,I.ok.cab,(λz=>by cases z),I.ok.frames,I.ok.stk,I.ok.exf,I.ok.bs,I.ok.bsz,I.ok.noex,I.ok.exfs,I.ok.funs,I.ok.frf⟩,
  I.os,I.bare,I.base,I.loc,I.cell,I.free,I.freeC,I.pin,I.hok,I.len⟩
theorem Inv.offsuite(I:Inv (X.suite e) pins σ H s)(ok:X.Ok):Inv X pins σ H s:=
 ⟨ok,I.os,I.bare,I.base,I.loc,I.cell,I.free,I.freeC,I.pin,I.hok,I.len⟩
theorem SP.offtry{D:Ends}{f:Flow}(h:SP (X.body (X.pn++pins) E) [] D f s):SP X pins D f s:=by
 cases f with
 |next=>obtain⟨a,H',b,q⟩:=h;exact⟨a,H',b.offtry,q⟩
 |brk=>obtain⟨a,H',b,q⟩:=h;exact⟨a,H',b.offtry,q⟩
 |cont=>obtain⟨a,H',b,q⟩:=h;exact⟨a,H',b.offtry,q⟩
 |ret u=>obtain⟨v,a,H',b,r,q⟩:=h;exact⟨v,a,H',b.offtry,r,q⟩
end
section
variable {X:Cx}
theorem mF:OpR X (binaryOp .Mult) (rI (λi j=>IntMulOk i j) λi j=>.int (i*j)):=opI λ_ _ _ _ _ _ _ a q=>mul_int q a
def jH(_ j:Int):Prop:=j≠0/\j.natAbs.log2<9000
theorem kG:OpR X (binaryOp .FloorDiv) (rI jH λi j=>.int (i.fdiv j)):=opI λ_ _ _ _ _ _ _ a q=>floordiv_int a.1 q (.inl (PyProof.noPylong_of_log2 a.2))
end
mutual
inductive Dt(K:Frag)(H:Hp):V->PyData->Prop
 |non:Dt K H .non .none
 |bl (b):Dt K H (.bl b) (.bool b)
 |int (i):Dt K H (.int i) (.int i)
 |str (x):Dt K H (.str x) (.str x)
 |lst {a xs ds}:SqL K H a xs->Dts K H xs ds->Dt K H (.ref a) (.list ds)
 |tup {a xs ds}:SqT K H a xs->Dts K H xs ds->Dt K H (.ref a) (.tuple ds)
inductive Dts(K:Frag)(H:Hp):List V->List PyData->Prop
 |nil:Dts K H [] []
 |cons {x xs d ds}:Dt K H x d->Dts K H xs ds->Dts K H (x:: xs) (d:: ds)
end
theorem Dts.ints{K:Frag}{H:Hp}:∀(ns:LI'),Dts K H (ns.map V.int) (ns.map PyData.int)
 |[]=>.nil
 |n:: r=>.cons (.int n) (Dts.ints r)
section
variable {X:Cx} {pins:PN} {σ:St} {H:Hp} {s:Shared}
mutual
theorem Dt.reads(I:Inv X pins σ H s):∀{x:V}{d:PyData}{u:Value},Dt X.K H x d->RelV x u->∃as,Reads s.heap u d as
 |_,_,_,.non,r=>by cases(show _=Value.none from r);exact⟨_,.none⟩
 |_,_,_,.bl b,r=>by cases(show _=Value.bool b from r);exact⟨_,.bool b⟩
 |_,_,_,.int i,r=>by obtain⟨f,e⟩:=(show∃f,_=Value.int i f from r);cases e;exact⟨_,.int i f⟩
 |_,_,_,.str x,r=>by obtain⟨f,e⟩:=(show∃f,_=Value.str x f from r);cases e;exact⟨_,.str x f⟩
 |_,_,_,.lst (a:=a) h g,r=>by
  cases(show _=Value.ref a from r);obtain⟨its,j,⟨o,n,e,c,_,dd⟩,_⟩:=I.list h;obtain⟨as,q⟩:=Dts.reads I g j;exact⟨_,.list e c dd (by simpa using q)⟩
 |_,_,_,.tup (a:=a) h g,r=>by
  cases(show _=Value.ref a from r);obtain⟨its,j,⟨o,e,c,n,dd⟩,_⟩:=I.tuple h;obtain⟨as,q⟩:=Dts.reads I g j;exact⟨_,.tuple e c dd (by simpa using q)⟩
theorem Dts.reads(I:Inv X pins σ H s):∀{xs:List V}{ds:List PyData}{us:LW},Dts X.K H xs ds->Vals xs us->∃as,ReadsAll s.heap us ds as
 |_,_,_,.nil,r=>by cases r;exact⟨_,.nil⟩
 | _,_,_,.cons h e,r=>by
  cases r with
  |cons c a =>
   obtain⟨as,b⟩:=Dt.reads I h c;obtain⟨bs,d⟩:=Dts.reads I e a;exact⟨_,.cons b d⟩
end
end
section
variable {X:Cx}
def rEqD(K:Frag):R2:=λx y H Q=>∃d d',Dt K H x d/\Dt K H y d'/\SeqAt.shaped d=true/\SeqAt.shaped d'=true/\SeqAt.noMix d d'=true/\Q (.bl (same d d')) H
def rNeD(K:Frag):R2:=λx y H Q=>∃d d',Dt K H x d/\Dt K H y d'/\SeqAt.shaped d=true/\SeqAt.shaped d'=true/\SeqAt.noMix d d'=true/\Q (.bl (!same d d')) H
theorem aG(l:X.A.units+64<cLine):OpR X (compareOp .Eq) (rEqD X.K):=by
 intro n s m H x y v u Q I c f h;obtain⟨d,d',b,i,g,k,e,q⟩:=h;obtain⟨as,j⟩:=b.reads I c;obtain⟨bs,a⟩:=i.reads I f;exact eq_dataH_same j a g k l e ⟨.bl (same d d'),H,I,rfl,q⟩
theorem iW(l:X.A.units+64<cLine):OpR X (compareOp .NotEq) (rNeD X.K):=by
 intro n s m H x y v u Q I c f h;obtain⟨d,d',b,i,g,k,e,q⟩:=h;obtain⟨as,j⟩:=b.reads I c;obtain⟨bs,a⟩:=i.reads I f;exact ne_dataH_same j a g k l e ⟨.bl (!same d d'),H,I,rfl,q⟩
end
structure Cv(K:Frag)(C:Addr):Prop where
 ga:PySem.W.findIn K (.ref C) "__getattribute__"=some (some (.builtin "BaseException.__getattribute__"))
 gt:PySem.W.findIn K (.ref C) "__getattr__"=some none
 ca:PySem.W.findIn K (.ref C) "__class__"=some (some (.builtin "object.__class__"))
 cg:PySem.W.specialIn K (.builtin "object.__class__") "__get__"=some (some (.builtin "getset_descriptor.__get__"))
 tk:PySem.W.takesIn K (.builtin "object.__class__")=some true
 ob:PySem.W.mroIn K C (.type "object")=some true
 bx:PySem.W.mroIn K C (.type "BaseException")=some true
 cl:(PySem.W.clsIn K C).isSome=true
theorem Pf{prog:Program}{w:World}{A:Around}{E:VP}{s:Shared}{K:Frag}{x C:Addr}{Q:Option Value->Shared->Prop}(F:Cv K C)(KX:K.In s.heap)(a:∃o,s.heap.get? x=some o/\o.cls=.ref C)
  (h:Q (some (.ref C)) {s with toks:=s.toks+1}):wpAny (model prog w) A (getAttr? (.ref x) "__class__") Q E s:=by
 obtain⟨hh,g,d,e,y⟩:=s;obtain⟨o,a,c⟩:=a;have b:PySem.W.Looks (model prog w) hh (typeOf (.ref x)) (.ref C):=c ▸ (qL a).andThen .now;have u:=uW (M:=model prog w) KX F.ga;have q:=uW (M:=model prog w) KX F.gt;have k:=uW (M:=model prog w) KX F.ca;have l:=PySem.W.looks_specialIn (M:=model prog w) KX F.cg;have n:=PySem.W.looks_takesIn (M:=model prog w) KX F.tk;have i:=PySem.W.looks_mroIn (M:=model prog w) KX F.ob;have p:=PySem.W.looks_mroIn (M:=model prog w) KX F.bx;unfold getAttr? getAttrBy? getAttrBy;refine zA (wpAny_mkText (zA (vN (xW (zA (b.at (zA (u.at ?_))))))));show wpAny _ _ (getAttrByItsOwn _ _ _ _ _ _) _ _ _;unfold getAttrByItsOwn;refine zA (show wpAny _ _ (hookBefore (.ref C)) _ _ _ from q.at ?_);refine zA (vN (xW ?_));show wpAny _ _ (boundAndCalled _ _ _) _ _ _;unfold boundAndCalled;rw[PySem.F.attr_ValueError.ga.bind (.ref x)];refine zA (zB (pC ?_));refine codeAny_call_builtin PySem.F.attr_ValueError.ga.plain PySem.F.entry_bexc_ga ?_;have f:builtinKind "BaseException.__getattribute__"=some .slot:=nofun
 have j:splitId "BaseException.__getattribute__"=some ("BaseException","__getattribute__"):=nofun
 have v:=PySem.F.args_bexc_ga (.ref x) (.str "__class__" e);have r:PySem.W.Looks (model prog w) hh (isInstance (.ref x) (.type "BaseException")) true:=b.andThen p;show wpAny _ _ (checkBuiltinCall "BaseException.__getattribute__" ⟨[.ref x,.str "__class__" e],[]⟩) _ _ _;simp only[checkBuiltinCall,f,j];refine zA (r.at ?_)
 repeat wp_step
 rw[c];refine k.at ?_;refine zA (show wpAny _ _ (Builtin.ObjectAttr.getOf (some (.builtin "object.__class__"))) _ _ _ from l.at ?_);have t:PySem.W.Looks (model prog w) hh (Builtin.ObjectAttr.dataDescriptor? (some (.builtin "object.__class__")) (some (.builtin "getset_descriptor.__get__"))) (some (.builtin "getset_descriptor.__get__",.builtin "object.__class__")):=n.andThen .now;refine zA (t.at ?_)
 repeat wp_step
 have m:PySem.W.Looks (model prog w) hh (isInstance (.ref x) (.type "object")) true:=b.andThen i;refine codeAny_call_builtin PySem.W.KF.slot_gs.plain PySem.W.KF.entry_gs (PySem.W.KF.slot_gs.check _ _ _ _ _ _ _ _ PySem.W.KF.type_class (PySem.W.KF.args_gs _ _ _) ?_)
 (unfold Builtin.«getset_descriptor.__get__» Builtin.Getset_descriptor.descrGet;rw[PySem.W.dga_obj];refine zA (zB ?_))
 (unfold Builtin.Getset_descriptor.descrGetter Builtin.Getset_descriptor.descrCheckInstance Builtin.Getset_descriptor.descrNameAndClass;simp only[PySem.W.KF.owner_class])
 refine zA (zA (zB (zA (m.at (zB ?_)))))
 repeat wp_step
 refine⟨Code.quiet_builtin _ (nofun),tL PySem.W.KF.entry_class ?_⟩
 (unfold Builtin.«object.__class__» shownTypeOf;repeat wp_step)
 rw[c];exact zB (zB h)
theorem Pe{K:Frag}{x C:Addr}(F:Cv K C):PySem.W.KitX K (.ref x) (.ref C) (λh=>∃o,h.get? x=some o/\o.cls=.ref C) where
 ty:=λM h _⟨o,b,g⟩=>g ▸ (qL b).andThen .now
 it:=λM h KX _=>by
  have q:=F.cl;unfold PySem.W.clsIn at q;split at q
  ·next a =>
   intro l i m s' k z
   (unfold isType loadHead;exact zA (wpAny_loadPart (k _ _ (KX _ _ a)) (zB z)))
  ·cases q
 ne:=λh d dd its n j KX f=>by
  have q:=F.cl;refine Bool.eq_false_iff.mpr λz=>?_;have e:C=d:=Value.ref.inj (pU.mp z);subst e;unfold PySem.W.clsIn at q;split at q
  ·next a=>exact absurd ((KX _ _ a).symm.trans f) (by intro c;cases c)
  ·cases q
 ca:=λKX p k=>Pf F KX p k
inductive TyX(K:Frag)(H:Hp):V->Value->Prop where
 |ty {x:V} {t:Value} (h:TyOf K H x t):TyX K H x t
 |exc {e C:Addr} (h:H e=some (Ga e (.ref C))) (F:Cv K C):TyX K H (.ref e) (.ref C)
 |tupS {a:Addr} {xs:List V} (h:SqT K H a xs):TyX K H (.ref a) (.type "tuple")
def clsV:V->Value
 |.ty n=>.type n
 |.ref a=>.ref a
 |_=>.none
def Pd:V->Bool
 |.ty _=>true
 |.ref _=>true
 |_=>false
def rIsi(K:Frag):List V->Hp->VK->Prop:=λvs H Q=>∃x c t b,vs=[x,c]/\TyX K H x t/\Pd c=true/\PySem.W.kitOne K t (clsV c)=some b/\Q (.bl b) H
theorem aH{X:Cx}:lZ X (.builtin "isinstance") (rIsi X.K):=by
 intro l s i H xs us Q I p h;obtain⟨x,c,r,b,rfl,ty,f,e,q⟩:=h;obtain⟨u,w,rfl,a,g⟩:=p.two;have n:w=clsV c:=by
  cases c <;> first|exact g|cases f
 subst n;have d:∀tk,EP X l i Q (.bool b) {s with toks:=tk}:=λtk=>⟨.bl b,H,I.tok tk,rfl,q⟩;cases ty with
 |ty h=>exact Os I a h e d
 |exc h F =>
  obtain rfl:u=_:=a;obtain⟨k,_,_⟩:=(show mB X.prog X.w H s.heap _ (Ga _ _) from I.hok _ _ h);exact xO (Pe F) I.kIn k e (λz=>nomatch z) d
 |tupS h =>
  obtain rfl:u=_:=a;obtain⟨its,_,⟨o,j,m,_⟩,_⟩:=I.tuple h;exact xO PySem.W.kitx_tuple I.kIn ⟨o,j,m⟩ e (λz=>nomatch z) d
structure Pc(k:Nat)(A:Around):Prop where
 dp:A.depth+3*k+5<recursionLimit
 un:A.units+16*k+200<cLine
structure t_X(P:Program)(w:World)(K:Frag)(mg:MT)(base:Heap)(k:Nat)(f:Addr)(fd:FuncData)(ps:List Str)(sp:Sp):Prop where
 len:∀vs H Q E,sp vs H Q E->vs.length=ps.length
 run:∀(A:Around)(outer:List Env)(s:Shared)(H:Hp)(args:Args)(us:LW)(vs:List V)(Q:VK)(E:XK),Pc k A->Env0 P w K mg base A outer s H->BindsTo s fd args (ps.zip us)->Vals vs us->sp vs H Q E ->
  codeAny (model P w) A (.call (.ref f) args) (CR CX0 outer P w H s Q E) s
section
variable {X:Cx}
theorem jM:OpR X (compareOp .Eq) (rI0 λi j=>.bl (decide (i=j))):=opB0 λi j _ _ _ _ _ q=>eq_int (by rw[Bool.beq_eq_decide_eq];exact q)
theorem kS:OpR X (compareOp .NotEq) (rI0 λi j=>.bl (!decide (i=j))):=opB0 λi j _ _ _ _ _ q=>ne_int (by rw[bne,Bool.beq_eq_decide_eq];exact q)
theorem PS.nox{st:Stmt}{a:TS}(h:PS X.nox st a):PS X st a:=λc s d H D I b =>
 xG (h c s d H D (I.wish _) b) (λ_ _ q=>q.unwish) λ_ _ z=>z.elim
end
section
variable {P:Program} {w:World} {K:Frag} {mg:MT} {base:Heap}
theorem Fun.okX{x a:Str}{st:Stmt}{f:Addr}{c:FuncData}{N ps:List Str}{k:Nat}{b:Sp}(F:Fun K x a st f c)(i:nB N ps (oO st))(len:∀vs H Q E,b vs H Q E->vs.length=ps.length)
  (e:∀(cdv:Value)(A:Around)(outer:List Env)(s:Shared)(H:Hp)(vs:List V)(Q:VK)(E:XK),Room k (A.deeper (envOfC a (oO st) s.heap.objs.size f cdv))->b vs H Q E ->
   ∃d,PSs (cxOf (CX1 P w) P w K mg base N a (oO st) f cdv A outer s H E) (kF st) d/\d {nx:=λ_ H'=>Q .non H',rt:=Q} (iE N vs) H):FnOk P w K mg base (CX1 P w) (k+1) f c ps b:=by
 obtain⟨m,q,kV,o,p,t,cdv,r,n,rfl,l,j⟩:=F.ex;exact Bf l j i len λA outer s H vs Q E hr g=>e cdv A outer s H vs Q E hr g
end
end L2
namespace Att
open PySem PySem.W PySem.Calls PyProof.Rows
theorem Hz:∀ns:LI',ofPys (ns.map PyData.int)=ns.map WData.int
 |[]=>rfl
 |n:: r=>by
  show ofPy (.int n):: ofPys (r.map PyData.int)=_;rw[Hz r];rfl
theorem Pb{ns:LI'}(h:(WData.list (ns.map WData.int)).layable=true):∀n∈ns,Builtin.Int.intBits n<=1048576:=λn a=>by
 have e:ofPy (.list (ns.map PyData.int))=WData.list (ns.map WData.int):=by
  show WData.list (ofPys (ns.map PyData.int))=_;rw[Hz]
 have b:PySem.Spec.Shape.has (.list .int) (.list (ns.map PyData.int))=true:=by
  simp[PySem.Spec.Shape.has]
 exact intBits_le_of_item a (layable0_of_all (lay0_ofPy (s:=.list .int) rfl b (by rw[e];exact h)))
theorem attach_callB{l:OpenLaw}{n:Nat}{q:Program}{p:List Str}{t:(MT)->Heap->Prop}{j:World->Heap->Prop}{d:DefRec}(M:l.most=some n)(S:d.params.defaults=[])
  (call:∀(w:World)(i b:Shared)(e g:MT)(c:Addr)(a:Addr)(vs:LW)(ns:LI'),Ground q p [] t w i e g b.heap->j w b.heap->e d.name=some (.ref c) ->
   b.heap.get? a=some {cls:=.type "list",data:=.seq vs.toArray}->IntsAre vs ns->ns.length<=n->(∀m∈ns,Builtin.Int.intBits m<=1048576)->b.gens=#[] ->
   codeAny (model l.prog w) callerA (.call (.ref c) ⟨[.ref a],[]⟩) (λr s'=>r=.ok (.ret (.bool true))/\OldK b.heap s'.heap/\s'.os=b.os/\AllBare s'.gens) b):
  WalkO q p t j l.row.toRowW d [] (λf vs=>PySem.call f vs):=by
 intro w i b e g G u c o a1 W U z kV T V Z k R O X vals as L x Y F a0;obtain rfl:z=.none:=Dflts.none k S;obtain rfl:kV=.none:=Dflts.noKw k;obtain⟨a,vs,ns,rfl,rfl,C,y,P⟩:=Pm M L F;have I:=Pb (layableW_arg x _ zU);refine enter_call (rD (call w i b e g c a vs ns G u R C y P I O) λr s' K=>?_);obtain⟨rfl,v,J,N⟩:=K;exact⟨.inl ⟨.bool true,.bool true,[],rfl,λ_=>rfl,.bool true,Pl l _,λ_=>⟨List.Pairwise.nil,λ_ D=>(nomatch D)⟩⟩,v,J,N⟩
end Att
namespace L2
open PySem PySem.Spec PyProof.Rows
open PySem.W (Frag)
def Hy(K:Frag):Sp:=λvs H Q _=>∃(a:Addr)(ns:LI'),vs=[.ref a]/\SqL K H a (ns.map V.int)/\ns.length<=63/\(∀m∈ns,Builtin.Int.intBits m<=1048576)/\∀H',Q (.bl true) H'
theorem walkB{l:PySem.W.OpenLaw}{k:Nat}{q:Program}{y:List Str}{M:(MT)->Heap->Prop}{j:World->Heap->Prop}{d:DefRec}{K:Params->Frag}{x:Str}
  (I:l.most=some 63)(N:d.params.defaults=[])(hr:Room k callerA)(n:∀(w:World)(h:Heap),j w h->(K w.params).In h)
  (F:∀(w:World)(b:MT)(c:Addr)(h:Heap),(K w.params).In h->h.Ns mainGlobals b->b d.name=some (.ref c) ->
   ∃g:FuncData,(∀(s:Shared)(u:Value),BindsTo s g ⟨[u],[]⟩ [(x,u)])/\∀i:Heap,(K w.params).In i->i.Ns mainGlobals b->FnOk l.prog w (K w.params) b i CX0 k c g [x] (Hy (K w.params))):
  PySem.W.WalkO q y M j l.row.toRowW d [] (λf vs=>PySem.call f vs):=by
 refine Att.attach_callB I N λw R P b O c a vs ns G o L v p m D J=>?_;have KX:=n w _ o;obtain⟨g,t,C⟩:=F w b c _ KX G.T.g L;exact Pk KX G.T.g G.T.b G.T.builtins G.T.nolimit J v p (yH m ∅) hr C t (λH _ r=>⟨a,ns,rfl,r,m,D,λ_=>rfl⟩) λH e s' z=>z
theorem lH{e:TI}{g:TG}{tb:TS}{D:Ends}{a:St}{H:Hp}(h:∀B:TS,B=tb->e a H λc k=>∃b:Nat->Nat->St->Hp->Prop,(∃m,b 0 m a k)/\∀i m a H,b i m a H ->
  (c.stop i H/\D.nx a H)\/(c.go i H/\∃N:St->Hp->Prop,(∀d H',N d H'->∃f,f<m/\b (i+1) f d H')/\∀x H',c.yld i H x H'->g x a H' λj l=>B {D with nx:=N,ct:=N,bk:=D.nx} j l)):tFor e g tb D a H:=h _ rfl
theorem Hx{c:TT}{tb:TS}{D:Ends}{a:St}{H:Hp}(h:∀B:TS,B=tb->∃d:Nat->St->Hp->Prop,(∃m,d m a H)/\∀m a H,d m a H ->
  c a H λb f=>if b=true then∃N:St->Hp->Prop,(∀e H',N e H'->∃g,g<m/\d g e H')/\B {D with nx:=N,ct:=N,bk:=D.nx} a f else D.nx a f):Fd c tb D a H:=h _ rfl
theorem st{a u:TS}{D:Ends}{c:St}{H:Hp}(h:∀b:St->Hp->Prop,b=u D->a {D with nx:=b} c H):tSeq a u D c H:=h _ rfl
section
variable {g:Int->Int->V} {C:Int->Int->Prop} {f:Int->V} {i j:Int} {H:Hp} {Q:VK}
theorem s_V:rI0 g (.int i) (.int j) H Q=Q (g i j) H:=propext ⟨λ⟨_,_,e1,a,q⟩=>by cases e1;cases a;exact q,λq=>⟨_,_,rfl,rfl,q⟩⟩
theorem t_F:rI C g (.int i) (.int j) H Q=(C i j/\Q (g i j) H):=propext ⟨λ⟨_,_,e1,a,q⟩=>by cases e1;cases a;exact q,λq=>⟨_,_,rfl,rfl,q⟩⟩
theorem t_G:rU f (.int i) H Q=Q (f i) H:=propext ⟨λ⟨_,e1,q⟩=>by cases e1;exact q,λq=>⟨_,rfl,q⟩⟩
end
theorem Same.new{H:Hp}{a:Addr}{o:HO}(h:H a=none):Same H (upd H a o):=λb u e=>by rw[nC (mE e h)];exact e
theorem Same.over{H c:Hp}{a:Addr}{o:HO}(h:H a=none)(s:Same H c):Same H (upd c a o):=λb u e=>by rw[nC (mE e h)];exact s b u e
theorem Same.tup{K:Frag}{H H':Hp}{a:Addr}{xs:List V}(e:Same H H')(h:SqT K H a xs):SqT K H' a xs:=by
 rcases h with(h|⟨o,h⟩)|h
 ·exact .inl (.inl (e _ _ h))
 ·exact .inl (.inr ⟨o,e _ _ h⟩)
 ·exact .inr h
section
variable {K:Frag} {a b:Addr} {xs:List V} {te:TE} {fr:List (Str×Nat)} {σ:St} {H:Hp} {Q:VK}
def t_Y(H:Hp)(a:Addr)(R:Nat->V->Prop)(i:Nat)(H1:Hp):Prop:=Same H H1/\∃ys:List V,H1 a=some (.lst ys)/\ys.length=i/\∀j y,ys[j]?=some y->R j y
end
theorem mD{b a:Type}{ys:List a}{xs:List b}{f:b->a}(hl:ys.length=xs.length)(h:∀(j:Nat)(y:a),ys[j]?=some y->∃x,xs[j]?=some x/\y=f x):ys=xs.map f:=by
 refine xP (by simpa using hl) λi c g=>?_;obtain⟨x,e1,e⟩:=h i ys[i] (by simp[c]);obtain⟨k,d⟩:=oF.mp e1;rw[wH,e,d]
def jN(sc scope:Scope):Scope:={scope with names:=scope.names.map λ(n,k)=>if(k == .free && sc.kind == .function && sc.names.lookup n == some .cell) then(n,.cell) else(n,k)}
theorem Pa{a sc:Scope}{env:Env}(h:env.scope=sc):relabel a env=jN sc a:=by subst h;rfl
theorem cD:∀(a:List (Str×NameKind))(n:Nat)(acc:List (Str×Addr)),cellsFrom n a acc=cellsFrom n a []++acc
 |[],_,_=>rfl
 |(x,k):: r,n,acc=>by
  unfold cellsFrom;split
  ·rw[cD r (n+1) ((x,n):: acc),cD r (n+1) [(x,n)],yN];rfl
  ·exact cD r n acc
theorem Cu{y:Str}{b:Addr}:∀{a:List (Str×NameKind)}{n:Nat}{acc:List (Str×Addr)},(y,b)∈cellsFrom n a acc->(y,b)∈acc\/(y,NameKind.cell)∈a
 |[],_,_,h=>.inl h
 | (x,k):: r,n,acc,h=>by
  unfold cellsFrom at h;split at h
  ·rename_i c;rcases Cu h with q|q
   ·rcases xE.mp q with e|e
    ·have d:k=.cell:=by simpa using c
     cases e;exact .inr (by rw[d];exact zU)
    ·exact .inl e
   ·exact .inr (zM _ q)
  ·rcases Cu h with q|q
   ·exact .inl q
   ·exact .inr (zM _ q)
theorem cE{y:Str}:∀{a:List (Str×NameKind)}{n:Nat}{acc:List (Str×Addr)},((y,NameKind.cell)∈a\/∃b,acc.lookup y=some b)->∃b,(cellsFrom n a acc).lookup y=some b
 |[],_,_,h=>by
  rcases h with h|h
  ·simp at h
  ·exact h
 | (x,k):: r,n,acc,h=>by
  unfold cellsFrom;split
  ·rename_i c;refine cE ?_;rcases h with h|⟨b,h⟩
   ·rcases xE.mp h with e|e
    ·cases e;exact .inr ⟨n,by rw[xI];simp⟩
    ·exact .inl e
   ·rw[xI];cases hx:y == x with
    |true=>exact .inr ⟨n,rfl⟩
    |false=>exact .inr ⟨b,h⟩
  ·rename_i c;refine cE ?_;rcases h with h|h
   ·rcases xE.mp h with e|e
    ·cases e;simp at c
    ·exact .inl e
   ·exact .inr h
theorem Ct{env:Env}{q:NameKind}:∀{c:List (Str×NameKind)}{x:Str},
  (c.map λ(n,k)=>if(k == NameKind.free && env.scope.kind == .function && env.kindOf n == some .cell) then(n,NameKind.cell) else(n,k)).lookup x=some q ->
  (q=.cell\/q=.free)->(x,NameKind.free)∈c\/(x,NameKind.cell)∈c
 |[],_,h,_=>by simp at h
 | (n,k):: r,x,h,d=>by
  have g:=@Ct env q r x;rw[zK]at h;dsimp only at h
  by_cases f:(k == NameKind.free && env.scope.kind == .function && env.kindOf n == some .cell)=true
  ·rw[zG f,xI]at h;cases hx:x == n with
   | true =>
    have b:x=n:=by simpa using hx
    have a:k=.free:=by
     have:=(zR _ _ ▸ ((zR _ _ ▸ f).1)).1;simpa using this
    rw[b,a];exact .inl zU
   |false =>
    rw[hx]at h;exact(g h d).imp (zM _) (zM _)
  ·rw[zF f,xI]at h;cases hx:x == n with
   |true =>
    rw[hx]at h;have b:x=n:=by simpa using hx
    have a:k=q:=zQ h;rcases d with e|e
    ·rw[b,a,e];exact .inr zU
    ·rw[b,a,e];exact .inl zU
   |false =>
    rw[hx]at h;exact(g h d).imp (zM _) (zM _)
theorem Hw{b:Type}{x:Str}{k d:b}:∀{l:List (Str×b)},(l.map (·.1)).Nodup->(x,k)∈l->(x,d)∈l->k=d
 |(n,q):: r,f,h,h'=>by
  obtain⟨c,g⟩:=rK.mp f;rcases xE.mp h with e|e <;> rcases xE.mp h' with a|a
  ·cases e;cases a;rfl
  ·cases e;exact absurd (pS.mpr ⟨_,a,rfl⟩) c
  ·cases a;exact absurd (pS.mpr ⟨_,e,rfl⟩) c
  ·exact Hw g e a
theorem Qz{M:Model}{A:Around}{E:VP}{s:Shared}{a:Scope}{d:Addr}{f:List (Str×Addr)}{b:Str}{c:Option Addr}{e:Value}{env:Env}{bl:Addr}{Q:Env->Shared->Prop}
  (h:Q (newEnv a s.heap.objs.size d (cellsFrom (s.heap.objs.size+1) a.names f) b c e (some env) bl) {s with heap:=pushCells (s.heap.push {cls:=.type "dict",data:=.dict #[]}) a.names}):
  wpAny M A (newFunctionEnv a d f [] b c e (some env) bl) Q E s:=by
 simp only[newFunctionEnv,Option.isSome_some,if_true];refine zA (wpAny_alloc ?_);refine zA (wpAny_layCells _ (λname g cells=>by cases hkc:g == NameKind.cell <;> simp[hkc]) _ _ _ _ ?_);rw[show({s with heap:=s.heap.push {cls:=.type "dict",data:=.dict #[]}}:Shared).heap.objs.size=s.heap.objs.size+1 from xZ ..];exact zB h
def mQ(X:Cx)(scope:Scope)(N:List Str)(s:Shared)(H:Hp)(fp:LA):Cx:=
 {X with N:=N,s₀:=s,H₀:=H,env:=compEnvC scope (cellsFrom (s.heap.objs.size+1) scope.names (clOf X.env scope.names [])) s.heap.objs.size X.env,outer:=X.stack,ex:=fp,fn:=λy=>scope.names.lookup y == some .cell,pn:=[],xe:=λ_ _=>False}
structure jT(X:Cx)(sc scope:Scope)(xs:List Str)(fr:List (Str×Nat)):Prop where
 hsc:X.env.scope=sc
 kind:scope.kind=.function
 nn:(scope.names.map (·.1)).Nodup
 free:∀y∈scope.names,y.2=.free->sc.names.lookup y.1=some .cell\/sc.names.lookup y.1=some .free
 loc:∀y∈scope.names,y.2=.local->scope.names.lookup y.1=some .local
 fr:∀p∈fr,X.N[p.2]?=some p.1/\scope.names.lookup p.1=some .free
section
variable {X:Cx} {sc scope:Scope} {xs:List Str} {fr:List (Str×Nat)}
theorem jT.free'(c:jT X sc scope xs fr):∀y∈scope.names,y.2=.free->X.env.kindOf y.1=some .cell\/X.env.kindOf y.1=some .free:=λy a b=>by
 unfold Env.kindOf;rw[c.hsc];exact c.free y a b
theorem jT.cells{d:PN}{e:St}{H:Hp}{s:Shared}(c:jT X sc scope xs fr)(I:Inv X d e H s):∀y∈scope.names,y.2=.free->∃c,X.env.cells.lookup y.1=some c:=
 λy a b=>I.ok.has y.1 (c.free' y a b)
theorem jT.was{a:PN}{d:St}{H:Hp}{s:Shared}(c:jT X sc scope xs fr)(I:Inv X a d H s){y:Str}{b:Addr}(h:(clOf X.env scope.names []).lookup y=some b):X.env.cells.lookup y=some b:=by
 rcases Gh (c.cells I) h with q|q
 ·simp at q
 ·exact q
theorem eH{a:List (Str×NameKind)}{n:Nat}{d:List (Str×Addr)}{y:Str}{b:Addr}(h:(cellsFrom n a d).lookup y=some b):(cellsFrom n a []).lookup y=some b\/((cellsFrom n a []).lookup y=none/\d.lookup y=some b):=by
 rw[cD,List.lookup_append]at h;cases q:(cellsFrom n a []).lookup y with
 |none=>rw[q]at h;exact .inr ⟨rfl,h⟩
 |some c=>rw[q]at h;exact .inl h
theorem Qy{x:PN}{n:St}{H:Hp}{s:Shared}{L:LA}(c:jT X sc scope xs fr)(I:Inv X x n H s)
  (D:∀b∈L,FpOk X x H b/\∃o,s.heap.get? b=some o):
  Inv (mQ X scope (xs++fr.map (·.1)) s H L) [] (xs.map (λ_=>none)++lG fr n) H {s with heap:=pushCells (s.heap.push {cls:=.type "dict",data:=.dict #[]}) scope.names}:=by
 have k:∀b o,s.heap.get? b=some o->(pushCells (s.heap.push {cls:=.type "dict",data:=.dict #[]}) scope.names).get? b=some o:=λb o e=>qR _ _ b o (zC _ e);have J:(pushCells (s.heap.push {cls:=.type "dict",data:=.dict #[]}) scope.names).Ns s.heap.objs.size (λ_=>none):=(Heap.Ns.new s.heap (.type "dict")).keeps (qR _ _);have ok:=cellsFrom_ok scope.names (s.heap.push {cls:=.type "dict",data:=.dict #[]}) (s.heap.objs.size+1) [] ⟨λ_ _ d=>(nomatch d),List.Pairwise.nil⟩ (by rw[xZ];exact zE _);rw[xZ]at ok;have r:Inv X x n H {s with heap:=pushCells (s.heap.push {cls:=.type "dict",data:=.dict #[]}) scope.names}:=I.kept (t':=s.toks) k;generalize hh:pushCells (s.heap.push {cls:=.type "dict",data:=.dict #[]}) scope.names=T at k J ok r;have K:∀{y:Str}{b:Nat},(clOf X.env scope.names []).lookup y=some b->b<s.heap.objs.size:=λ{y b}e=>by
  obtain⟨v,z⟩:=I.cell y b (c.was I e);exact z.lt
 have own:∀{y:Str}{b:Nat},(cellsFrom (s.heap.objs.size+1) scope.names []).lookup y=some b->T.IsCell b none/\s.heap.objs.size+1<=b:=λ{y b}e=>ok.empty y b (mem_of_lookup e);refine⟨⟨I.ok.mod,c.kind,I.ok.glob,I.ok.blt,zE _,λy z b t a=>?_,λy g=>?_,λy b O t=>?_,I.ok.hd,I.ok.frames,.inl rfl,λb m=>?_,λb o e=>?_,?_,λb o e m=>?_,λb m S=>?_,?_,λb m=>?_⟩,
  rfl,I.bare,Un.kept k,⟨_,J,λi y v t a a3=>?_⟩,λy b h=>?_,?_,λy b h=>?_,λp U=>absurd (show p∈([]:PN) from U) (by simp),r.hok,?_⟩
 ·rcases eH t with e1|⟨_,e1⟩ <;> rcases eH a with f|⟨_,f⟩
  ·exact name_of_addr ok.apart (mem_of_lookup e1) (mem_of_lookup f)
  ·exact absurd (zI (K f) (qH (own e1).2)) (xA _)
  ·exact absurd (zI (K e1) (qH (own f).2)) (xA _)
  ·exact I.ok.inj y z b (c.was I e1) (c.was I f)
 ·show∃b,(cellsFrom (s.heap.objs.size+1) scope.names (clOf X.env scope.names [])).lookup y=some b;have d:(y,NameKind.free)∈scope.names\/(y,NameKind.cell)∈scope.names:=by
   rcases g with g|g
   ·exact Ct g (.inl rfl)
   ·exact Ct g (.inr rfl)
  rcases d with d|d
  ·exact cE (.inr (Cz (.inl d)))
  ·exact cE (.inl d)
 ·have g:scope.names.lookup y=some .cell:=by
   have a2:(scope.names.lookup y == some NameKind.cell)=true:=O;simpa using a2
  rcases eH t with e1|⟨e1,_⟩
  ·have:=(own e1).2;show s.heap.objs.size<=b;omega
  ·obtain⟨C,e⟩:=cE (n:=s.heap.objs.size+1) (acc:=[]) (.inl (mem_of_lookup g));rw[e1]at e;cases e
 ·obtain⟨⟨_,_,_,_,P,_⟩,o,e⟩:=D b m;refine⟨zY (zP e),λy C h=>?_⟩;rcases eH h with e1|⟨_,e1⟩
  ·exactλz=>absurd (zI (zP e) (qH (z ▸ (own e1).2))) (xA _)
  ·exact P y C (c.was I e1)
 ·exact I.bs b o e
 ·exact yH I.ok.bsz I.sz
 ·obtain⟨⟨_,_,_,W,_,_⟩,_⟩:=D b m;rcases W with z|z
  ·exact I.ok.noex b o e z
  ·exact absurd (zI (zP e) (yH I.ok.bsz z)) (xA _)
 ·obtain⟨⟨_,V,Y,_,_,_⟩,_⟩:=D b m;rcases xE.mp (I.stkSub b S) with z|z
  ·exact V z
  ·exact Y z
 ·exact I.stack
 ·exact I.stkFree b m
 ·have l:(xs++fr.map (·.1))[i]?=some y:=t
  by_cases hi:i<xs.length
  ·rw[yT (by simpa using hi),zD]at a;cases q:xs[i]? with
   |none=>rw[q]at a;cases a
   |some z=>rw[q]at a;cases zQ a
  ·rw [yG ⋯]at l;rw[yG (by simpa using hi),yE]at a;generalize i-xs.length=j at l a;rw[zD]at l;unfold lG at a;rw[zD]at a;cases e:fr[j]? with
   |none=>rw[e]at l;cases l
   | some p =>
    rw[e]at l a;have e1:p.1=y:=zQ l;have f:n.getD p.2 none=some v:=zQ a;obtain⟨Z,M⟩:=c.fr p (yF e);have N:n[p.2]?=some (some v):=by
     rw[tD]at f;cases q:n[p.2]? with
     |none=>rw[q]at f;cases f
     |some o=>rw[q]at f;have a0:o=some v:=f;rw[a0]
    subst e1;have d:(p.1,NameKind.free)∈scope.names:=vB M;have kd:=c.free' _ d rfl;obtain⟨a4,_,hl⟩:=r.loc;obtain⟨u,a1,R⟩:=hl p.2 p.1 v Z N (.inr kd);refine⟨u,a1,.inr ⟨Gf M,?_⟩⟩;rcases R with⟨k1,_⟩|⟨_,b,q,z⟩
    ·rcases kd with kd|kd <;> (rw[kd]at k1;cases k1)
    ·obtain⟨C,F⟩:=Cz (env:=X.env) (l:=scope.names) (cs:=[]) (.inl d);have G:=c.was I F;rw[q]at G;cases G;refine⟨b,?_,z⟩;show(cellsFrom (s.heap.objs.size+1) scope.names (clOf X.env scope.names [])).lookup p.1=some b;rw[cD,List.lookup_append];cases w:(cellsFrom (s.heap.objs.size+1) scope.names []).lookup p.1 with
     |none=>exact F
     |some b2 =>
      rcases Cu (mem_of_lookup w) with w|w
      ·simp at w
      ·cases Hw c.nn d w
 ·rcases eH h with e1|⟨_,e1⟩
  ·exact⟨none,(own e1).1⟩
  ·exact r.cell y b (c.was I e1)
 ·exact I.hok.fresh (zE _)
 ·rcases eH h with e1|⟨_,e1⟩
  ·exact I.hok.fresh (by have:=(own e1).2;omega)
  ·exact r.freeC y b (c.was I e1)
 ·show(xs.map (λ_=>none)++lG fr n).length=(xs++fr.map (·.1)).length;simp[lG]
end
abbrev TOx:=St->Hp->(Option V->Hp->Prop)->Prop
def tEl(te:TE):TOx:=λσ H Q=>te σ H λy H'=>Q (some y) H'
def jU(tc:TT)(te:TE):TOx:=λσ H Q=>tc σ H λb H1=>if b=true then te σ H1 (λy H'=>Q (some y) H') else Q none H1
def cF(elt:Expr)(ifs:List Expr)(env:Env)(M:Model)(A:Around)(Q:Option Value->Shared->Prop)(E:VP)(s:Shared):Prop:=
 match ifs with
 |[]=>wpAny M A (eval elt env) (λx s1=>Q (some x) s1) E s
 |[c]=>wpAny M A (isTrue c env (eval c env)) (λb s1=>if b=true then wpAny M A (eval elt env) (λx s2=>Q (some x) s2) E s1 else Q none s1) E s
 |_=>False
def POx(X:Cx)(elt:Expr)(ifs:List Expr)(t:TOx):Prop:=∀(pins:PN)(s:Shared)(σ:St)(H:Hp)(Q:Option V->Hp->Prop),Inv X pins σ H s->t σ H Q ->
 cF elt ifs X.env (model X.prog X.w) X.A (λo s'=>∃v H',Inv X pins σ H' s'/\(match o,v with|some u,some y=>RelV y u|none,none=>True|_,_=>False)/\Q v H') X.xe s
theorem lP{X:Cx}{a:Expr}{te:TE}(h:PE X a te):POx X a [] (tEl te):=λe s c H Q I g =>
 thn (h e s c H _ I g) λu j⟨y,i,d,f,b⟩=>⟨some y,i,d,f,b⟩
theorem Cs{X:Cx}{i c:Expr}{j:TT}{te:TE}(k:PT X c j)(h:PE X i te):POx X i [c] (jU j te):=λf s d H Q I o=>by
 refine thn (k f s d H _ I o) ?_;rintro b n ⟨g,e,a⟩;cases b with
 |true =>
  rw[zG rfl]at a ⊢;exact thn (h f n d g _ e a) λu r⟨y,q,m,l,p⟩=>⟨some y,q,m,l,p⟩
 |false =>
  rw[zF yJ]at a ⊢;exact⟨none,g,e,trivial,a⟩
theorem Qx{prog:Program}{w:World}{A:Around}{R:Result->Shared->Prop}{s:Shared}{e a f:Expr}{j:List Expr}{l:Scope}{i:Pos}{d acc:Value}{env:Env}(I:Nat->Shared->Prop)
  (turn:∀n s,I n s->wpAny (model prog w) A (pyNext d) (λr p=>match r with
   |none=>R (.ok .next) p
   | some v=>wpAny (model prog w) A (letOwnedTupleGo a d v) (λ_ C=>wpAny (model prog w) A (assign a env v) (λ_ u=>cF e j env (model prog w) A (λo q=>match o with
     |some x=>wpAny (model prog w) A (call (.builtin "list.append") [acc,x]) (λ_ D=>∃m,m<n/\I m D) (λ_ _=>False) q
     |none=>∃m,m<n/\I m q)
     (λ_ _=>False) u) (λ_ _=>False) C) (λ_ _=>False) p) (λ_ _=>False) s)
  (n:Nat)(h:I n s)(z:j.length<=1):
  codeAny (model prog w) A (.compLoop (.ListComp e [⟨a,f,j,0⟩] l i) 0 d acc env) R s:=by
 refine codeAny_loop rfl I (λn s G=>?_) n h;show wpAny _ _ ((compTurn (.ListComp e [⟨a,f,j,0⟩] l i) 0 d acc env).onRaise (λx=>do noteFrame x env;theTreesLotGoes x)) _ _ s;refine wpAny_noted ?_;have T:=turn n s G
 match j,z,T with
 | [],_,T =>
  rw[compTurn_list1];refine zA (tG (zA (xG T (λr p k=>?_) λ_ _ h'=>h'.elim)));cases r with
  |none=>exact zB k
  | some v =>
   refine zA (xG k (λ_ C F=>?_) λ_ _ h'=>h'.elim);exact zA (xG F (λ_ u t=>zA (zA (xG (show wpAny _ _ _ _ _ _ from t) (λx q g=>zA (xG g
    (λ_ D y=>zB (zB ⟨rfl,y⟩)) λ_ _ h'=>h'.elim)) λ_ _ h'=>h'.elim))) λ_ _ h'=>h'.elim)
 | [c],_,T =>
  have e1:compTurn (.ListComp e [⟨a,f,[c],0⟩] l i) 0 d acc env=(standAt f.pos >>= λ_=>pyNext d >>= λr=>match r with
   |none=>pure (.done .next)
   | some v=>letOwnedTupleGo a d v >>= λ_=>assign a env v >>= λ_=>isTrue c env (eval c env) >>= λok =>
    (if ok=true then(eval e env >>= λx=>call (.builtin "list.append") [acc,x] >>= λ_=>pure ()) >>= λ_=>again (.compLoop (.ListComp e [⟨a,f,[c],0⟩] l i) 0 d acc env)
     else again (.compLoop (.ListComp e [⟨a,f,[c],0⟩] l i) 0 d acc env))):=by
   unfold compTurn;simp only[List.forIn_cons,List.forIn_nil,if_true,bind_assoc,pure_bind,List.getElem?_cons_zero];rfl
  rw[e1];refine zA (tG (zA (xG T (λr p k=>?_) λ_ _ h'=>h'.elim)));cases r with
  |none=>exact zB k
  | some v =>
   refine zA (xG k (λ_ C F=>?_) λ_ _ h'=>h'.elim);refine zA (xG F (λ_ u t=>zA (xG (show wpAny _ _ _ _ _ _ from t) (λb q g=>?_) λ_ _ h'=>h'.elim)) λ_ _ h'=>h'.elim);cases b with
   |true =>
    rw[zG rfl]at g ⊢;exact zA (zA (xG g (λx D y=>zA (xG y (λ_ K J=>zB (zB ⟨rfl,J⟩)) λ_ _ h'=>h'.elim)) λ_ _ h'=>h'.elim))
   |false =>
    rw[zF yJ]at g ⊢;exact zB ⟨rfl,g⟩
 |_:: _:: _,z,T =>
  exact absurd z (by simp)
def Qw(a:Addr)(N:Hp->Prop):Option V->Hp->Prop
 |some y,H=>∃zs,H a=some (.lst zs)/\zs.length<sizeLine/\N (upd H a (.lst (zs++[y])))
 |none,H=>N H
abbrev kB(J:It)(g:TG)(tt:TOx)(n:Nat)(fr:List (Str×Nat))(σ:St)(a:Addr)(H:Hp)(Q:VK):Prop:=
 ∃ W:Nat->Nat->Hp->Prop,(∃m,W 0 m (upd H a (.lst [])))/\∀i m H2,W i m H2->(J.stop i H2/\Q (.ref a) H2) \/
  (J.go i H2/\∃N:Hp->Prop,(∀H',N H'->∃m',m'<m/\W (i+1) m' H')/\∀(ys:St) x H3,ys.length=n->J.yld i H2 x H3 ->
   g x (ys++lG fr σ) H3 λσ4 H4=>(∃ys':St,ys'.length=n/\σ4=ys'++lG fr σ)/\tt σ4 H4 (Qw a N))
def nW(wi:TI)(g:TG)(tt:TOx)(n:Nat)(fr:List (Str×Nat)):TE:=λσ H Q=>wi σ H λJ H1=>∀a,H1 a=none->kB J g tt n fr σ a H1 Q
section
variable {X:Cx} {sc scope:Scope} {xs:List Str} {fr:List (Str×Nat)} {elt tg iter:Expr} {ifs:List Expr} {g:TG} {tt:TOx}
theorem Hv{F:PN}{w:St}{H:Hp}{s:Shared}{b2:Pos}{b0:It}{k:LA}{Z:Addr}{M:Nat->Heap->Prop}{Q:VK}{RR:Value->Addr->Result->Shared->Prop}{E:VP}
  (c:jT X sc scope xs fr)(b5:X.calm=true)(R:ifs.length<=1)(I:Inv X F w H s)(T:Turn X.prog X.w X.K tg b0 k Z M)(a9:M 0 s.heap)(a1:∀b∈k,FpOk X F H b)
  (f1:∀(t:Shared)(D:Hp)(k:LA),(mQ X scope (xs++fr.map (·.1)) t D k).env.scope=jN sc scope->PG (mQ X scope (xs++fr.map (·.1)) t D k) tg g)
  (g0:∀(t:Shared)(D:Hp)(k:LA),(mQ X scope (xs++fr.map (·.1)) t D k).env.scope=jN sc scope->POx (mQ X scope (xs++fr.map (·.1)) t D k) elt ifs tt)
  (g1:∀a,H a=none->kB b0 g tt xs.length fr w a H Q)
  (e4:∀a C H' s' m,s'.heap.Ns C m->Inv X F w H' s'->FpOk X F H' C->Q (.ref a) H'->RR (.ref a) C (.ok .next) s'):
  wpAny (model X.prog X.w) X.A (newList []) (λacc t=>wpAny (model X.prog X.w) X.A (newFunctionEnv scope X.env.globals (clOf X.env scope.names []) [] X.env.qual none .none (some X.env)) (λc4 e3 =>
   codeAny (model X.prog X.w) X.A (.compStart (.ListComp elt [⟨tg,iter,ifs,0⟩] scope b2) 0 (.ref Z) acc {c4 with scope:=relabel scope X.env}) (RR acc c4.locals) e3) E t) E s:=by
 obtain⟨b8,⟨g2,e7⟩,turn⟩:=g1 s.heap.objs.size I.fresh;refine xL (Qz ?_);have c0:Inv X F w (upd H s.heap.objs.size (.lst [])) {s with heap:=s.heap.push {cls:=.type "list",dict:=none,data:=.seq ([]:LW).toArray}}:=I.lnew (ys:=[]) (its:=[]) (t':=s.toks) .nil (yR _);have S:∀b o,s.heap.get? b=some o->(s.heap.push {cls:=.type "list",dict:=none,data:=.seq ([]:LW).toArray}).get? b=some o:=λb o e=>zC _ e;have b1:Un (frs X.stack) k H (upd H s.heap.objs.size (.lst [])) s.heap (s.heap.push {cls:=.type "list",dict:=none,data:=.seq ([]:LW).toArray}):=Un.laid S (zE _) I.fresh;dsimp only;generalize hH2:s.heap.push {cls:=.type "list",dict:=none,data:=.seq ([]:LW).toArray}=l at c0 S b1 ⊢;have hsz:s.heap.objs.size<=l.objs.size:=by rw[←hH2,xZ];exact pJ _
 have c9:∀b∈k,∃o,s.heap.get? b=some o:=λb j=>let ⟨o,e,_⟩:=T.obj _ _ a9 b j;⟨o,e⟩
 have f9:∀b∈k,b≠s.heap.objs.size:=λb j=>let ⟨_,e⟩:=c9 b j;zY (zP e)
 have c7:∀b∈k,FpOk X F (upd H s.heap.objs.size (.lst [])) b/\∃o,l.get? b=some o:=λb j=>by
  obtain⟨o,e⟩:=c9 b j;exact⟨⟨by rw[nC (f9 b j)];exact(a1 b j).1,(a1 b j).2⟩,o,S b o e⟩
 have W:=Qy c c0 c7;have d5:∀b o,l.get? b=some o->(pushCells (l.push {cls:=.type "dict",data:=.dict #[]}) scope.names).get? b=some o:=λb o e=>qR _ _ b o (zC _ e);have c3:M 0 (pushCells (l.push {cls:=.type "dict",data:=.dict #[]}) scope.names):=T.keep 0 _ _ a9 λb j o e=>d5 b o (S b o e);have c5:∀(t:Shared)(D:Hp)(k:LA),(mQ X scope (xs++fr.map (·.1)) t D k).env.scope=jN sc scope:=λ_ _ _=>Pa c.hsc;have a3:∀{H':Hp},(∀b∈k,H' b=none)->∀b∈k,FpOk (mQ X scope (xs++fr.map (·.1)) {s with heap:=l} (upd H s.heap.objs.size (.lst [])) k) [] H' b:=λd8 b j=>by
  obtain⟨e1,f2⟩:=W.ok.exf b j;exact⟨d8 b j,e1,W.ok.exfs b j,.inl j,f2,λp d9=>absurd (show p∈([]:PN) from d9) (by simp)⟩
 have c2:codeAny (model X.prog X.w) X.A (.compLoop (.ListComp elt [⟨tg,iter,ifs,0⟩] scope b2) 0 (.ref Z) (.ref s.heap.objs.size) (compEnvC scope (cellsFrom (l.objs.size+1) scope.names (clOf X.env scope.names [])) l.objs.size X.env))
   (RR (.ref s.heap.objs.size) l.objs.size) {s with heap:=pushCells (l.push {cls:=.type "dict",data:=.dict #[]}) scope.names}:=by
  refine Qx (λn s'=>∃i,∃ys:St,∃H',ys.length=xs.length/\Inv (mQ X scope (xs++fr.map (·.1)) {s with heap:=l} (upd H s.heap.objs.size (.lst [])) k) [] (ys++lG fr w) H' s'/\M i s'.heap/\(∀b∈k,H' b=none)/\b8 i n H')
   ?_ g2 ⟨0,xs.map λ_=>none,_,by simp,W,c3,λb j=>(c7 b j).1.1,e7⟩ R
  rintro n a7 ⟨i,ys,P,d6,d0,a8,b6,d7⟩;rcases turn i n P d7 with⟨stop,d4⟩|⟨go,N,e8,step⟩
  ·refine thn (T.done (mQ X scope (xs++fr.map (·.1)) {s with heap:=l} (upd H s.heap.objs.size (.lst [])) k) rfl rfl rfl b5 i [] a7 _ P (λ_ _=>False) d0 (a3 b6) a8 stop) ?_;rintro r a2 ⟨hr,G⟩;subst hr;obtain⟨e6,f3,_⟩:=G.loc;have V:Inv X F w P a2:=I.call' G.os (b1.trans G.base) G.hok G.bare λb j=>let f:=a1 b j;⟨f.2.2.2.1,f.2.1,f.2.2.2.2.1,f.2.2.2.2.2⟩
   exact e4 _ _ P a2 e6 f3 V (I.fpOk hsz G.free) d4
  ·refine thn (T.item (mQ X scope (xs++fr.map (·.1)) {s with heap:=l} (upd H s.heap.objs.size (.lst [])) k) rfl rfl rfl b5 i [] a7 _ P (λ_ _=>False) d0 (a3 b6) a8 go) ?_;rintro r a2 ⟨u,hr,e0⟩;subst hr;refine thn e0 ?_;rintro _ b9 ⟨y,b4,V,e2,f7,a0,d3⟩;have f6:=V.pinned (a3 d3) (T.obj _ _ a0);refine thn (f1 _ _ _ (c5 _ _ _) _ b9 _ b4 y u _ f6 e2 (step ys y b4 d6 f7)) ?_;rintro _ g5 ⟨g9,d2,e9,⟨c1,e5,g6⟩,f0⟩;subst g6;have c6:∀(K:Shared)(v:Hp),Inv (mQ X scope (xs++fr.map (·.1)) {s with heap:=l} (upd H s.heap.objs.size (.lst [])) k) ([]++dR k b9.heap) (c1++lG fr w) v K->N v ->
     ∃m,m<n/\∃i,∃ys:St,∃H',ys.length=xs.length/\Inv (mQ X scope (xs++fr.map (·.1)) {s with heap:=l} (upd H s.heap.objs.size (.lst [])) k) [] (ys++lG fr w) H' K/\M i K.heap/\(∀b∈k,H' b=none)/\b8 i m H':=by
    intro K v L a6;obtain⟨f8,g3,g8⟩:=e8 v a6;refine⟨f8,g3,i+1,c1,v,e5,L.unpinned,T.keep _ _ _ a0 λb j o e=>(L.pin (b,o) (yK _ (yK _ (bY j e)))).1,λb j=>?_,g8⟩;obtain⟨o,e,d⟩:=T.obj _ _ a0 b j;exact(L.pin (b,o) (yK _ (yK _ (bY j e)))).2.1
   have g4:=g0 _ _ _ (c5 _ _ _) _ g5 _ d2 _ e9 f0;have mono:∀{Q Y:Option Value->Shared->Prop}{E:VP}{s':Shared}{env:Env},(∀o U,Q o U->Y o U)->cF elt ifs env (model X.prog X.w) X.A Q E s'->cF elt ifs env (model X.prog X.w) X.A Y E s':=by
    intro Q Y E s' env a5 J;unfold cF at J ⊢
    match ifs,R,J with
    |[],_,J=>exact xG J (λx U q=>a5 _ _ q) λ_ _ e=>e
    |[c],_,J =>
     refine xG J (λb U q=>?_) λ_ _ e=>e;split at q
     ·rename_i j;rw[zG j];exact xG q (λx h0 q=>a5 _ _ q) λ_ _ e=>e
     ·rename_i j;rw[zF j];exact a5 _ _ q
    |_:: _:: _,R,_=>exact absurd R (by simp)
   refine mono (?_) g4;rintro o d1 ⟨O,b3,c8,a4,b7⟩;cases o with
   |none =>
    cases O with
    |none=>exact c6 d1 b3 c8 b7
    |some z=>exact a4.elim
   | some g7 =>
    cases O with
    |none=>exact a4.elim
    |some O =>
     obtain⟨zs,f5,hl,f4⟩:=b7;exact thn (dX _ d1 _ b3 (.ref s.heap.objs.size) [O] (.ref s.heap.objs.size) [g7] (λ_ v=>N v) c8 rfl (.cons a4 .nil) ⟨_,zs,O,rfl,rfl,f5,hl,f4⟩) λ_ K⟨_,v,L,_,a6⟩=>c6 K v L a6
 exact codeAny_compStart_list c2 (T.self _ 0 _ _ _ c3 c2)
variable {wi:TI}
theorem kU{t:Pos}(c:jT X sc scope xs fr)(y:X.calm=true)(hi:PI X tg iter wi)
  (L:∀(j:Shared)(i:Hp)(d:LA),(mQ X scope (xs++fr.map (·.1)) j i d).env.scope=jN sc scope->PG (mQ X scope (xs++fr.map (·.1)) j i d) tg g)
  (p:∀(j:Shared)(i:Hp)(d:LA),(mQ X scope (xs++fr.map (·.1)) j i d).env.scope=jN sc scope->POx (mQ X scope (xs++fr.map (·.1)) j i d) elt ifs tt)
  (F:ifs.length<=1:=by exact Nat.le_of_ble_eq_true rfl)(z:∀x,foldedSetIterable iter X.env x=pure x:=by intro _;rfl):PE X (.ListComp elt [⟨tg,iter,ifs,0⟩] scope t) (nW wi g tt xs.length fr):=by
 intro k s l H Q I h;rw[eval_ListComp];refine wpAny_comprehension_free (use:=none) rfl z (Gg (c.cells I)) c.kind c.loc (thn (hi k s l H _ I h) λv P N=>thn N λO R r=>?_);obtain⟨S,d,U,V,W,e,G,T,n,M,w⟩:=r;subst e;refine Hv (RR:=λacc C=>compPost (model X.prog X.w) X.A X.xe none (EP X k l Q) acc C) c y F G T n M L p w ?_;intro a C H' s' m J K f q;exact⟨m,J,λh' u=>⟨.ref a,H',K.turned (t':=s'.toks) (λb o D e=>(u.2 b D).trans e) f.1 f.2.1 f.2.2.2.1 f.2.2.2.2.1 f.2.2.2.2.2,rfl,q⟩⟩
theorem fH{p u d:Pos}{y:Str}{i:Nat}(c:jT X sc scope xs fr)(P:X.calm=true)(J:X.N.Nodup)(z:X.N[i]?=some y)(hl:X.env.scope.names.lookup y=some .local)(hi:PI X tg iter wi)
  (Y:∀(l:Shared)(k:Hp)(j:LA),(mQ X scope (xs++fr.map (·.1)) l k j).env.scope=jN sc scope->PG (mQ X scope (xs++fr.map (·.1)) l k j) tg g)
  (F:∀(l:Shared)(k:Hp)(j:LA),(mQ X scope (xs++fr.map (·.1)) l k j).env.scope=jN sc scope->POx (mQ X scope (xs++fr.map (·.1)) l k j) elt ifs tt)
  (a4:swapsWith (.ListComp elt [⟨tg,iter,ifs,0⟩] scope p) (some (.Name y d)) u.line X.env=pure true:=by rfl)
  (S:ifs.length<=1:=by exact Nat.le_of_ble_eq_true rfl)(R:∀x,foldedSetIterable iter X.env x=pure x:=by intro _;rfl):PS X (.Assign [.Name y d] (.ListComp elt [⟨tg,iter,ifs,0⟩] scope p) u) (Ge i (nW wi g tt xs.length fr)):=by
 intro n s t H D I h;rw[exec_Assign_Name_used _ _ _ _ a4];refine zA (tG (zA ?_));show wpAny _ _ (do let _ ←comprehension (.ListComp elt [⟨tg,iter,ifs,0⟩] scope p) scope X.env _ (newList []) false (eval iter X.env) (some (assign (.Name y d) X.env))) _ _ s;refine zA (xG (wpAny_comprehension_free (use:=some (assign (.Name y d) X.env)) (Q:=λ_ s'=>SP X n D .next s') rfl R (Gg (c.cells I)) c.kind c.loc
  (thn (hi n s t H _ I h) λv a6 a2=>thn a2 λa5 a7 G=>?_)) (λ_ s' U=>zB (zB U)) λ_ _ e=>e)
 obtain⟨a8,j,a9,b0,b1,e,V,T,w,Z,N⟩:=G;subst e;refine Hv (RR:=λacc C=>compPost (model X.prog X.w) X.A X.xe (some (assign (.Name y d) X.env)) (λ_ s'=>SP X n D .next s') acc C) (Q:=λv a1=>D.nx (t.set i (some v)) a1) c P S V T w Z Y F N ?_;intro a C H' s' m W K f q;show wpAny _ _ (assign (.Name y d) X.env (.ref a)) _ _ _;refine wpAny_assign_Name (Fk K J z (.inl hl) (show RelV (.ref a) (.ref a) from rfl) (λa0 a3⟨b,O,r⟩=>?_) (.inr hl));have L:C≠b:=by
  rcases r with e|e
  ·rw[e];exact f.2.1
  ·exact yA (f.2.2.2.2.1 y b e)
 refine⟨m,W.sameBut O L,λh' M=>?_⟩;exact⟨_,H',a3.turned (t':=a0.toks) (λb o r e=>(M.2 b r).trans e) f.1 f.2.1 f.2.2.2.1 f.2.2.2.2.1 f.2.2.2.2.2,q⟩
end
def aI(sc:Scope)(N:List Str)(scope:Scope)(fr:List (Str×Nat)):Bool:=
 decide (scope.kind=.function) && decide ((scope.names.map (·.1)).Nodup) && decide (∀y∈scope.names,y.2=.free->sc.names.lookup y.1=some .cell\/sc.names.lookup y.1=some .free) &&
 decide (∀y∈scope.names,y.2=.local->scope.names.lookup y.1=some .local) && decide (∀p∈fr,N[p.2]?=some p.1/\scope.names.lookup p.1=some .free)
theorem lD{X:Cx}{sc a:Scope}{N xs:List Str}{fr:List (Str×Nat)}(c:X.env.scope=sc)(e:X.N=N)(h:aI sc N a fr=true):jT X sc a xs fr:=by
 unfold aI at h;simp only[Bool.and_eq_true,decide_eq_true_eq]at h;obtain⟨⟨⟨⟨e1,f⟩,d⟩,b⟩,g⟩:=h;subst e;exact⟨c,e1,f,d,b,g⟩
def aJ(sc:Scope)(N:List Str)(i:Nat)(x:Str):Bool:=decide (N.Nodup) && decide (N[i]?=some x) && (decide (sc.names.lookup x=some .local))
theorem kX{X:Cx}{sc:Scope}{N:List Str}{i:Nat}{x:Str}{a:Pos}(c:X.env.scope=sc)(b:X.N=N)(h:aJ sc N i x=true):PG X (.Name x a) (oU i):=by
 unfold aJ at h;simp only[Bool.and_eq_true,decide_eq_true_eq]at h;subst c b;exact nN h.1.1 h.1.2 (.inl h.2) (.inr h.2)
theorem jO{X:Cx}{sc:Scope}{N:List Str}{i:Nat}{x:Str}{b:Pos}(d:X.env.scope=sc)(a:X.N=N)(h:(decide (N.Nodup) && decide (N[i]?=some x) && (decide (sc.names.lookup x=some .cell)))=true)(c:X.fn x=true):PG X (.Name x b) (oU i):=by
 simp only[Bool.and_eq_true,decide_eq_true_eq]at h;subst d a;exact nN h.1.1 h.1.2 (.inr h.2) (.inl c)
def SqB(b:Bool)(K:Frag)(H:Hp)(a:Addr)(xs:List V):Prop:=match b with|false=>SqL K H a xs|true=>SqT K H a xs
def ItB(b:Bool)(h:Heap)(it a:Addr)(i:Nat):Prop:=match b with|false=>h.IsListIter it a i|true=>h.IsTupleIter it a i
def seqB(b:Bool)(h:Heap)(a:Addr)(its:Array Value):Prop:=match b with|false=>h.IsList a its|true=>h.IsTuple a its
def nmB(b:Bool):String:=match b with|false => "list_iterator" |true => "tuple_iterator"
theorem ItB.at{b:Bool}{h h':Heap}{c a:Addr}{i:Nat}(x:ItB b h c a i)(e:∀o,h.get? c=some o->h'.get? c=some o):ItB b h' c a i:=by
 cases b
 ·exact Heap.IsListIter.at x e
 ·exact Heap.IsTupleIter.at x e
theorem seqB.at{b:Bool}{h h':Heap}{a:Addr}{its:Array Value}(x:seqB b h a its)(e:∀o,h.get? a=some o->h'.get? a=some o):seqB b h' a its:=by
 cases b
 ·exact Heap.IsList.at x e
 ·obtain⟨o,c,r⟩:=x;exact⟨o,e o c,r⟩
theorem ItB.lt{b:Bool}{h:Heap}{f a:Addr}{i:Nat}(x:ItB b h f a i):∃o,h.get? f=some o/\∀v,o.data≠.cell v:=by
 cases b
 ·obtain⟨o,e,c,d⟩:=x;exact⟨o,e,λv z=>by rw[d]at z;cases z⟩
 ·obtain⟨o,e,c,d⟩:=x;exact⟨o,e,λv z=>by rw[d]at z;cases z⟩
section
variable {prog:Program} {w:World} {A:Around} {E:VP} {s:Shared}
theorem Qv{b a:Addr}{i:Nat}{items}{x:Value}{Q:VP}(e:s.heap.IsTupleIter b a i)(l:s.heap.IsTuple a items)(k:items[i]?=some x)
  (g:∀h',h'.IsTupleIter b a (i+1)->Heap.SameBut b s.heap h'->Q x {s with heap:=h'}):wpAny (model prog w) A (Builtin.SmallTypes.nextOf (.ref b)) Q E s:=by
 obtain⟨o,d,m,c⟩:=id e;obtain⟨p,j,_,n,f⟩:=l;unfold Builtin.SmallTypes.nextOf;refine zA (wD (name:=Str.ofString "__next__") e.typeIs vM
  (xX vM e.typeIs F.entry_tuple_iterator_next ?_ (F.args_tuple_iterator_next_1 _)))
 show wpAny _ _ (field (.ref b) 0 >>= _) _ _ s;refine zA (wB d c (x:=.ref a) rfl ?_);show wpAny _ _ (if(Value.ref a == Value.none)=true then _ else _) _ _ s;rw[zF (show¬ ((Value.ref a == Value.none)=true) from yJ)];show wpAny _ _ (field (.ref b) 1 >>= _) _ _ s;refine zA (wB d c (x:=.int i 0) rfl ?_);show wpAny _ _ (seqItems? (.ref a) >>= _) _ _ s;refine zA (wI j f ?_);simp only[Int.toNat_natCast,k];refine zA (rT d c (by simp) (zB ⟨x,rfl,zB (g _ ?_ (vC ..))⟩));exact⟨_,vH _ d (Obj.isFreed_of_fields (sE c _)),(Obj.cls_mapFields ..).trans m,by
  rw[sE c];simp[rawInt]⟩
theorem Qu{b a:Addr}{i:Nat}{items}{Q:VP}(hh:A.handled=none)(d:s.heap.IsTupleIter b a i)(m:s.heap.IsTuple a items)(l:items[i]?=none)
  (j:∀h' e,Heap.ExtBut b s.heap h'->(∃o,h'.get? e=some o/\o.cls=.type "StopIteration")->E (.ref e) {s with heap:=h'}):wpAny (model prog w) A (Builtin.SmallTypes.nextOf (.ref b)) Q E s:=by
 obtain⟨o,c,q,f⟩:=id d;obtain⟨p,k,_,n,g⟩:=m;unfold Builtin.SmallTypes.nextOf;refine zA (wD (name:=Str.ofString "__next__") d.typeIs vM
  (xX vM d.typeIs F.entry_tuple_iterator_next ?_ (F.args_tuple_iterator_next_1 _)))
 show wpAny _ _ (field (.ref b) 0 >>= _) _ _ s;refine zA (wB c f (x:=.ref a) rfl ?_);show wpAny _ _ (if(Value.ref a == Value.none)=true then _ else _) _ _ s;rw[zF (show¬ ((Value.ref a == Value.none)=true) from yJ)];show wpAny _ _ (field (.ref b) 1 >>= _) _ _ s;refine zA (wB c f (x:=.int i 0) rfl ?_);show wpAny _ _ (seqItems? (.ref a) >>= _) _ _ s;refine zA (wI k g ?_);simp only[Int.toNat_natCast,l];refine zA (wP (zA (rT c f (by simp) ?_)));show wpAny _ _ (newExc (.type "StopIteration") [] >>= _) _ _ _;refine zA ?_;simp only[newExc,newTuple];refine zA (xL ?_ (by size_fits));refine zA (m:=firstArgMember _ _) (wpAny_of_eq (a:=Value.none) (by first|rfl|(simp only[firstArgMember];rfl)) ?_);refine xL ?_ (by size_fits);simp only[raiseNew];refine zA (wpAny_handled ?_)
 first|rw[show A.in1.handled=none from hh]|rw[hh]
 refine zA (zB (wpAny_throw ?_));exact j _ _ (((vC ..).extBut.push _).push _) ⟨_,zT _ rfl,rfl⟩
theorem aK{b:Bool}{a l:Addr}{i:Nat}{items:Array Value}{x:Value}{Q:VP}(c:ItB b s.heap a l i)(hl:seqB b s.heap l items)(d:items[i]?=some x)
  (e:∀h',ItB b h' a l (i+1)->Heap.SameBut a s.heap h'->Q x {s with heap:=h'}):wpAny (model prog w) A (Builtin.SmallTypes.nextOf (.ref a)) Q E s:=by
 cases b
 ·exact wpAny_nextOf_list_item c hl d e
 ·exact Qv c hl d e
theorem Cr{b:Bool}{a l:Addr}{i:Nat}{items:Array Value}{Q:VP}(hh:A.handled=none)(c:ItB b s.heap a l i)(hl:seqB b s.heap l items)(f:items[i]?=none)
  (d:∀h' e,Heap.ExtBut a s.heap h'->(∃o,h'.get? e=some o/\o.cls=.type "StopIteration")->E (.ref e) {s with heap:=h'}):wpAny (model prog w) A (Builtin.SmallTypes.nextOf (.ref a)) Q E s:=by
 cases b
 ·exact wpAny_nextOf_list_end hh c hl f d
 ·exact Qu hh c hl f d
theorem Hu{b:Bool}{l:Addr}{items:Array Value}{Q:VP}(hl:seqB b s.heap l items)
  (a:Q (.ref s.heap.objs.size) {s with heap:=s.heap.push {cls:=.type (nmB b),data:=.fields #[.ref l,.int 0 0]}}):wpAny (model prog w) A (pyIter (.ref l)) Q E s:=by
 cases b
 ·exact sK hl a
 ·exact uE hl a
theorem Ht{b:Bool}{h:Heap}{l:Addr}:ItB b (h.push {cls:=.type (nmB b),data:=.fields #[.ref l,.int 0 0]}) h.objs.size l 0:=by
 cases b
 ·exact⟨_,zT _ rfl,rfl,rfl⟩
 ·exact⟨_,zT _ rfl,rfl,rfl⟩
theorem Hs(b:Bool)(hh:A.handled=none)(a l:Addr)(m:l≠a)(items:Array Value):
  Draws prog w A a [a,l] items.size (λi v=>items[i]?=some v) (λi h=>ItB b h a l i/\seqB b h l items) where
 live:=λ_ _ st=>let ⟨o,f,_⟩:=st.1.lt;⟨o,f⟩
 frame:=λ_ _ _ st d=>⟨st.1.at λo e=>d a (by simp) o e,st.2.at λo e=>d l (by simp) o e⟩
 item:=λi s Q E hi st k=>by
  refine aK st.1 st.2 (x:=items[i]) (by simp[hi]) λh' g c=>?_;exact k _ h' s.toks (by simp[hi]) ⟨g,st.2.at λo e=>(c.2 l m).trans e⟩ c
 done:=λs Q E st j=>Cr hh st.1 st.2 (by simp) j
theorem Qt{b1 b2:Bool}{z TI TO f g l1 l2:Addr}{k1 k2:Nat}{xs ys:Array Value}{x y a b:Value}{Q:Option Value->Shared->Prop}(D:ZipApart z TI TO f g l1 l2)
  (k:IsZip s.heap z TI TO .none)(a5:IsPair s.heap TI (.ref f) (.ref g))(a8:IsPair s.heap TO a b)
  (a6:ItB b1 s.heap f l1 k1)(W:ItB b2 s.heap g l2 k2)(a9:seqB b1 s.heap l1 xs)(b3:seqB b2 s.heap l2 ys)(X:xs[k1]?=some x)(V:ys[k2]?=some y)
  (a7:∀h',IsZip h' z TI TO (rawInt s.heap.objs.size)->IsPair h' TO x y->ItB b1 h' f l1 (k1+1)->ItB b2 h' g l2 (k2+1)->IsPair h' s.heap.objs.size x y->h'.objs.size=s.heap.objs.size+1 ->
   (∀c o,c≠z->c≠TO->c≠f->c≠g->s.heap.get? c=some o->h'.get? c=some o)->Q (some (.ref s.heap.objs.size)) {s with heap:=h'}):
  wpAny (model prog w) A (pyNext (.ref z)) Q E s:=by
 have R:s.TypeIs (.ref z) "zip" := ⟨_,k,rfl⟩;unfold pyNext;refine zA (vN (wD (name:=Str.ofString "__next__") R rG (xX rG R F.entry_zip_next ?_ (F.args_zip_next_1 _))));show wpAny _ _ (field (.ref z) 2 >>= _) _ _ _;refine zA (wB k rfl (x:=.bool false) rfl ?_);show wpAny _ _ (field (.ref z) 3 >>= _) _ _ _;refine zA (wB k rfl (x:=.ref TI) rfl ?_);refine zA (wI a5 rfl ?_);show wpAny _ _ (Builtin.SmallTypes.ownedTupleIsFree (.ref z) >>= _) _ _ _;refine zA ?_;unfold Builtin.SmallTypes.ownedTupleIsFree;refine zA (wB k rfl (x:=.none) rfl (zB ?_));simp only[if_true];refine zA (wP ?_);refine zA (wB k rfl (x:=.ref TO) rfl ?_);refine zA (vF k (by simp) λa4 v i=>?_);replace v:IsZip a4 z TI TO .ellipsis:=v;refine zA ?_;simp only[List.zipIdx_cons,List.zipIdx_nil,List.forIn_cons,List.forIn_nil];refine zA (zA (qD ?_));show wpAny _ _ (Builtin.SmallTypes.nextOf (.ref f) >>= _) _ _ _;refine zA (aK (a6.at λo e=>i.extBut _ _ D.i1z e) (a9.at λo e=>i.extBut _ _ D.l1z e) X λZ b5 m=>zB ?_);have O:IsPair Z TO a b:=m.extBut _ _ D.TOi1 (i.extBut _ _ D.TOz a8);refine zA (wI O rfl ?_);refine zA (rM O λb4 G l=>?_);replace G:IsPair b4 TO x b:=G;refine zA (wpAny_letGo (zB ?_));refine zA (zA (qD ?_));show wpAny _ _ (Builtin.SmallTypes.nextOf (.ref g) >>= _) _ _ _;refine zA (aK (W.at λo e=>l.extBut _ _ D.TOi2.symm (m.extBut _ _ D.i12.symm (i.extBut _ _ D.i2z e)))
  (b3.at λo e=>l.extBut _ _ D.l2TO (m.extBut _ _ D.l2i1 (i.extBut _ _ D.l2z e))) V λa1 U q=>zB ?_)
 have T:IsPair a1 TO x b:=q.extBut _ _ D.TOi2 G;refine zA (wI T rfl ?_);refine zA (rM T λd u p=>?_);replace u:IsPair d TO x y:=u;refine zA (wpAny_letGo (zB (zB ?_)));refine zA (wI u rfl ?_);refine zA (wpAny_newTuple ?_);have hsz:d.objs.size=s.heap.objs.size:=by rw[p.1,q.1,l.1,m.1,i.1]
 have P:IsZip d z TI TO .ellipsis:=p.extBut _ _ D.TOz.symm (q.extBut _ _ D.i2z.symm (l.extBut _ _ D.TOz.symm (m.extBut _ _ D.i1z.symm v)));have b0:∀c o,c≠z->c≠TO->c≠f->c≠g->s.heap.get? c=some o->d.get? c=some o:=λc o j t J K e =>
  p.extBut _ _ t (q.extBut _ _ K (l.extBut _ _ t (m.extBut _ _ J (i.extBut _ _ j e))))
 have a3:ItB b1 d f l1 (k1+1):=b5.at λo e=>p.extBut _ _ D.TOi1.symm (q.extBut _ _ D.i12 (l.extBut _ _ D.TOi1.symm e));have Y:ItB b2 d g l2 (k2+1):=U.at λo e=>p.extBut _ _ D.TOi2.symm e;have S:z<d.objs.size:=zP P;show wpAny _ _ (Builtin.SmallTypes.ownedTupleHandOut (.ref z) (.ref d.objs.size) >>= _) _ _ _;refine zA ?_;unfold Builtin.SmallTypes.ownedTupleHandOut;have a0:IsZip (d.push {cls:=.type "tuple",data:=.seq #[x,y]}) z TI TO .ellipsis:=zC _ P;refine zA (vF a0 (by simp) λa2 I C=>?_);replace I:IsZip a2 z TI TO (rawInt d.objs.size):=I;refine vF I (by simp) λn r L=>?_;replace r:IsZip n z TI TO (rawInt d.objs.size):=r;have up:∀c o,c≠z->d.get? c=some o->n.get? c=some o:=λc o j e=>L.extBut _ _ j (C.extBut _ _ j (zC _ e));have M:IsPair n d.objs.size x y:=L.extBut _ _ (rL S) (C.extBut _ _ (rL S) (zT _ rfl));have N:n.objs.size=d.objs.size+1:=by rw[L.1,C.1,xZ]
 rw[hsz]at r M N;refine zB ⟨_,rfl,zB ?_⟩;show Q (some (.ref d.objs.size)) _;rw[hsz];exact a7 n r (up _ _ D.TOz u) (a3.at λo e=>up _ o D.i1z e) (Y.at λo e=>up _ o D.i2z e) M N λc o j t J K e=>up c o j (b0 c o j t J K e)
theorem Qs{b1 b2:Bool}{z TI TO k n l1 l2:Addr}{k1 k2:Nat}{xs ys:Array Value}{a b:Value}{Q:Option Value->Shared->Prop}(hh:A.handled=none)(D:ZipApart z TI TO k n l1 l2)
  (j:IsZip s.heap z TI TO .none)(V:IsPair s.heap TI (.ref k) (.ref n))(X:IsPair s.heap TO a b)
  (K:ItB b1 s.heap k l1 k1)(S:ItB b2 s.heap n l2 k2)(N:seqB b1 s.heap l1 xs)(Z:seqB b2 s.heap l2 ys)(P:xs[k1]?=none\/ys[k2]?=none)
  (L:∀h',(∀c o,c≠z->c≠TO->c≠k->c≠n->s.heap.get? c=some o->h'.get? c=some o)->Q none {s with heap:=h'}):wpAny (model prog w) A (pyNext (.ref z)) Q E s:=by
 have M:s.TypeIs (.ref z) "zip" := ⟨_,j,rfl⟩;unfold pyNext;refine zA (vN (wD (name:=Str.ofString "__next__") M rG (xX rG M F.entry_zip_next (Q:=_) ?_ (F.args_zip_next_1 _))));show wpAny _ _ (field (.ref z) 2 >>= _) _ _ _;refine zA (wB j rfl (x:=.bool false) rfl ?_);show wpAny _ _ (field (.ref z) 3 >>= _) _ _ _;refine zA (wB j rfl (x:=.ref TI) rfl ?_);refine zA (wI V rfl ?_);show wpAny _ _ (Builtin.SmallTypes.ownedTupleIsFree (.ref z) >>= _) _ _ _;refine zA ?_;unfold Builtin.SmallTypes.ownedTupleIsFree;refine zA (wB j rfl (x:=.none) rfl (zB ?_));simp only[if_true];refine zA (wP ?_);refine zA (wB j rfl (x:=.ref TO) rfl ?_);refine zA (vF j (by simp) λU p d=>?_);replace p:IsZip U z TI TO .ellipsis:=p;refine zA ?_;simp only[List.zipIdx_cons,List.zipIdx_nil,List.forIn_cons,List.forIn_nil];refine zA (zA (qD ?_));show wpAny _ _ (Builtin.SmallTypes.nextOf (.ref k) >>= _) _ _ _;cases hx:xs[k1]? with
 |none =>
  refine zA (Cr hh (K.at λo e=>d.extBut _ _ D.i1z e) (N.at λo e=>d.extBut _ _ D.l1z e) hx λt e f q=>?_);obtain⟨r,g,m⟩:=q;have y:IsZip t z TI TO .ellipsis:=f _ _ D.i1z.symm p;have u:e≠z:=λx=>by subst x;rw[y]at g;cases g;simp at m
  refine vF y (by simp) λO _ i=>?_;refine zA (vW (T:= "StopIteration") (b:=true) ⟨r,i.extBut _ _ u g,m⟩ qZ ?_);exact zB (L O λc o l _ v _ x=>i.extBut _ _ l (f _ _ v (d.extBut _ _ l x)))
 | some x =>
  have R:ys[k2]?=none:=by rcases P with h|h;rw[hx]at h;cases h;exact h
  refine zA (aK (K.at λo e=>d.extBut _ _ D.i1z e) (N.at λo e=>d.extBut _ _ D.l1z e) hx λt a2 f=>zB ?_);have J:IsPair t TO a b:=f.extBut _ _ D.TOi1 (d.extBut _ _ D.TOz X);refine zA (wI J rfl ?_);refine zA (rM J λO a1 i=>?_);refine zA (wpAny_letGo (zB ?_));refine zA (zA (qD ?_));show wpAny _ _ (Builtin.SmallTypes.nextOf (.ref n) >>= _) _ _ _;refine zA (Cr hh (S.at λo e=>i.extBut _ _ D.TOi2.symm (f.extBut _ _ D.i12.symm (d.extBut _ _ D.i2z e)))
   (Z.at λo e=>i.extBut _ _ D.l2TO (f.extBut _ _ D.l2i1 (d.extBut _ _ D.l2z e))) R λT e G q=>?_)
  obtain⟨r,g,m⟩:=q;have I:IsZip T z TI TO .ellipsis:=G _ _ D.i2z.symm (i.extBut _ _ D.TOz.symm (f.extBut _ _ D.i1z.symm p));have u:e≠z:=λx=>by subst x;rw[I]at g;cases g;simp at m
  refine vF I (by simp) λa0 _ C=>?_;refine zA (vW (T:= "StopIteration") (b:=true) ⟨r,C.extBut _ _ u g,m⟩ qZ ?_);exact zB (L a0 λc o l Y v W x=>C.extBut _ _ l (G _ _ W (i.extBut _ _ Y (f.extBut _ _ v (d.extBut _ _ l x)))))
end
abbrev zB1(b1:Bool)(h:Heap)(l1:Addr):Heap:=h.push {cls:=.type (nmB b1),data:=.fields #[.ref l1,.int 0 0]}
abbrev zB2(b1 b2:Bool)(h:Heap)(l1 l2:Addr):Heap:=(zB1 b1 h l1).push {cls:=.type (nmB b2),data:=.fields #[.ref l2,.int 0 0]}
abbrev zB3(b1 b2:Bool)(h:Heap)(l1 l2:Addr):Heap:=(zB2 b1 b2 h l1 l2).push {cls:=.type "tuple",data:=.seq #[.ref h.objs.size,.ref (zB1 b1 h l1).objs.size]}
abbrev zB4(b1 b2:Bool)(h:Heap)(l1 l2:Addr):Heap:=(zB3 b1 b2 h l1 l2).push {cls:=.type "tuple",data:=.seq #[.none,.none]}
abbrev zB5(b1 b2:Bool)(h:Heap)(l1 l2:Addr):Heap:=(zB4 b1 b2 h l1 l2).push {cls:=.type "zip",data:=.fields #[.none,.bool false,.bool false,.ref (zB2 b1 b2 h l1 l2).objs.size,.ref (zB3 b1 b2 h l1 l2).objs.size]}
theorem Qr(b1 b2:Bool)(l1 l2:Addr)(xs ys:Array Value):
  Meets (Builtin.«zip.__new__» ⟨[.type "zip",.ref l1,.ref l2],[]⟩) (λ_ R s=>seqB b1 s.heap l1 xs/\seqB b2 s.heap l2 ys /\
   R (.ok (.ret (.ref (zB4 b1 b2 s.heap l1 l2).objs.size))) {s with heap:=zB5 b1 b2 s.heap l1 l2}):=
 .of_wp λprog w A R s h=>by
  obtain⟨a,g,d,tk,b⟩:=s;obtain⟨f,i,h⟩:=h;have k:=sub_zip;have c:seqB b1 (Shared.heap ⟨a,g,d,tk,b⟩) l1 xs:=f;have j:seqB b2 (Shared.heap ⟨a.push {cls:=.type (nmB b1),data:=.fields #[.ref l1,.int 0 0]},g,d,tk,b⟩) l2 ys:=i.at λo e=>zC _ e
  wp_walk using Hu c,Hu j
  exact⟨_,rfl,h⟩
theorem Qq{prog:Program}{w:World}{A:Around}{E:VP}{s:Shared}{b1 b2:Bool}{l1 l2:Addr}{xs ys:Array Value}{Q:VP}(p:seqB b1 s.heap l1 xs)(q:seqB b2 s.heap l2 ys)
  (h:∀h',IsZip h' (s.heap.objs.size+4) (s.heap.objs.size+2) (s.heap.objs.size+3) .none->IsPair h' (s.heap.objs.size+2) (.ref s.heap.objs.size) (.ref (s.heap.objs.size+1)) ->
   IsPair h' (s.heap.objs.size+3) .none .none->ItB b1 h' s.heap.objs.size l1 0->ItB b2 h' (s.heap.objs.size+1) l2 0 ->
   (∀c o,s.heap.get? c=some o->h'.get? c=some o)->Q (.ref (s.heap.objs.size+4)) {s with heap:=h'}):
  wpAny (model prog w) A (call (.type "zip") [.ref l1,.ref l2]) Q E s:=by
 refine callType_new F.called_zip ∅ (F.typeCall_zip_2 _ _) (F.newCall_zip_2 _ _) (λn=>F.args_object_init_3 n _ _) F.entry_zip_new
  (Qr b1 b2 l1 l2 xs ys) ⟨p,q,?_⟩
 have f:(zB1 b1 s.heap l1).objs.size=s.heap.objs.size+1:=xZ ..;have b:(zB2 b1 b2 s.heap l1 l2).objs.size=s.heap.objs.size+2:=by rw[xZ,f]
 have d:(zB3 b1 b2 s.heap l1 l2).objs.size=s.heap.objs.size+3:=by rw[xZ,b]
 have i:(zB4 b1 b2 s.heap l1 l2).objs.size=s.heap.objs.size+4:=by rw[xZ,d]
 have g:(zB5 b1 b2 s.heap l1 l2).get? (zB4 b1 b2 s.heap l1 l2).objs.size=some _:=zT _ rfl;have l:(zB5 b1 b2 s.heap l1 l2).get? (zB3 b1 b2 s.heap l1 l2).objs.size=some _:=zC _ (zT _ rfl);have j:(zB5 b1 b2 s.heap l1 l2).get? (zB2 b1 b2 s.heap l1 l2).objs.size=some _:=zC _ (zC _ (zT _ rfl));have a:∀c o,(zB2 b1 b2 s.heap l1 l2).get? c=some o->(zB5 b1 b2 s.heap l1 l2).get? c=some o:=λc o e=>zC _ (zC _ (zC _ e));have k:ItB b2 (zB5 b1 b2 s.heap l1 l2) (zB1 b1 s.heap l1).objs.size l2 0:=Ht.at λo e=>a _ o e;have m:ItB b1 (zB5 b1 b2 s.heap l1 l2) s.heap.objs.size l1 0:=Ht.at λo e=>a _ o (zC _ e);show _/\_;rw[b,d,i]at g;rw[f,b]at j;rw[d]at l;rw[f]at k;rw[i];exact⟨⟨_,g,rfl⟩,h _ g j l m k λc o x=>a c o (zC _ (zC _ x))⟩
section
variable {X:Cx} {pins:PN} {σ:St} {H:Hp} {s:Shared} {h':Heap}
theorem Inv.seqB{b:Bool}{a:Addr}{xs:List V}(I:Inv X pins σ H s)(h:SqB b X.K H a xs):∃its:LW,Vals xs its/\L2.seqB b s.heap a its.toArray:=by
 cases b
 ·obtain⟨its,c,p,_⟩:=I.list h;exact⟨its,c,p.isList⟩
 ·obtain⟨its,c,p,_⟩:=I.tuple h;exact⟨its,c,p⟩
theorem Inv.seqB_inj{b:Bool}{a:Addr}{xs ys:List V}(I:Inv X pins σ H s)(h:SqB b X.K H a xs)(c:SqB b X.K H a ys):xs=ys:=by
 cases b
 ·exact I.list_inj h c
 ·exact I.tuple_inj h c
theorem Inv.seq_ne{b:Bool}{a f:Addr}{xs:List V}(I:Inv X pins σ H s)(h:SqB b X.K H a xs)(g:FpOk X pins H f):a≠f:=by
 have d:∀u,Rd H a u->a≠f:=λu r z=>by
  subst z;rcases r with r|⟨o,r⟩ <;> (rw[g.1]at r;cases r)
 have i:∀o,X.K.lookup a=some o->a≠f:=λo e z=>by
  subst z;have q:=I.mod.kin a o e;rcases g.2.2.2.1 with w|w
  ·exact I.ok.noex _ _ q w
  ·exact absurd (zI (zP q) (yH I.ok.bsz w)) (xA _)
 cases b
 ·rcases h with h|⟨o,its,n,c,_⟩
  ·exact d _ h
  ·exact i _ c
 ·rcases h with h|⟨o,its,n,c,_⟩
  ·exact d _ h
  ·exact i _ c
theorem Inv.turnedNew{f:LA}{n:Addr}{u:HO}{t':Nat}(I:Inv X pins σ H s)(i:∀b∈f,FpOk X pins H b)(k:∀b o,b∉f->s.heap.get? b=some o->h'.get? b=some o)(l:s.heap.objs.size<=n)
  (new:mB X.prog X.w (upd H n u) h' n u):Inv X pins σ (upd H n u) {s with heap:=h',toks:=t'}:=by
 have d:=I.hok.fresh l;have j:∀b v,H b=some v->b∉f:=λb v e z=>by rw[(i b z).1]at e;cases e
 have y:X.env.locals∉f:=λz=>(i _ z).2.1 rfl;refine I.step (g':=s.gens) (d':=s.drawn) (ch:=f) (λb g=>?_) (λb o _ _ a e _=>k b o a e) (λb o _ _ a e _=>⟨o.slots,k b o a e⟩) (λb o _ e z=>?_)
  (λb o a e=>⟨o,k b o a e⟩) (λb xs e=>?_) (λb o v e=>?_) (λb ps e=>⟨#[],?_⟩) (λm F=>?_) (λb v e=>?_) I.bare
 ·obtain⟨G,w,J,C,p,D⟩:=i b g;exact⟨C,w,p,D⟩
 ·rw[nC (zY (zI (zP e) l))];exact z
 ·rw[nC (mE e d)];exact e
 ·rw[nC (mE e d)];exact e
 ·rw[nC (mE e d),e];simp
 ·obtain⟨o,es,ep,t,r⟩:=F;exact⟨o,es,ep,k _ o y t,r⟩
 ·by_cases g:b=n
  ·subst g;rw[oQ]at e;cases e;exact new
  ·rw[nC g]at e;refine(I.hok b v e).stay (λc x a q=>k c x ?_ q) (λc q=>by rw[nC (mE q d)];exact q) λc xs q=>by rw[nC (mE q d)];exact q
   rcases a with z|z
   ·rw[z];exact j b v e
   ·exact j c _ z
theorem Inv.turnedL{d:LA}{t':Nat}(I:Inv X pins σ H s)(f:∀b∈d,FpOk X pins H b)(k:∀b o,b∉d->s.heap.get? b=some o->h'.get? b=some o):Inv X pins σ H {s with heap:=h',toks:=t'}:=by
 have g:∀b v,H b=some v->b∉d:=λb v e z=>by rw[(f b z).1]at e;cases e
 have n:X.env.locals∉d:=λz=>(f _ z).2.1 rfl;refine I.step (g':=s.gens) (d':=s.drawn) (ch:=d) (λb j=>?_) (λb o _ _ a e _=>k b o a e) (λb o _ _ a e _=>⟨o.slots,k b o a e⟩) (λb o _ e z=>z)
  (λb o a e=>⟨o,k b o a e⟩) (λb xs e=>e) (λb o v e=>e) (λb ps e=>⟨#[],by rw[e];simp⟩) (λm w=>?_) (λb v e=>?_) I.bare
 ·obtain⟨y,p,C,t,i,u⟩:=f b j;exact⟨t,p,i,u⟩
 ·obtain⟨o,es,ep,l,r⟩:=w;exact⟨o,es,ep,k _ o n l,r⟩
 ·refine(I.hok b v e).stay (λc x a q=>k c x ?_ q) (λc q=>q) λc xs q=>q;rcases a with z|z
  ·rw[z];exact g b v e
  ·exact g c _ z
end
def Itz(K:Frag)(b1:Bool)(l1:Addr)(b2:Bool)(l2:Addr):It:=
  ⟨λi H=>∃xs ys x y,SqB b1 K H l1 xs/\SqB b2 K H l2 ys/\xs[i]?=some x/\ys[i]?=some y,
   λi H v H'=>∃p x y,v=.ref p/\H p=none/\H'=upd H p (.tup [x,y])/\(∀xs,SqB b1 K H l1 xs->xs[i]?=some x)/\∀ys,SqB b2 K H l2 ys->ys[i]?=some y,
   λi H=>∃xs ys,SqB b1 K H l1 xs/\SqB b2 K H l2 ys/\(xs[i]?=none\/ys[i]?=none)⟩
theorem Hr{xs:List V}{its:LW}{i:Nat}(r:Vals xs its):xs[i]?=none->its.toArray[i]?=none:=λh=>by
 have:=r.none_of h;simpa using this
theorem Qp{P:Program}{w:World}{K:Frag}{es:List Expr}{k:Nat}{c6:Pos}{b1 b2:Bool}{z TI TO d g l1 l2:Addr}(R:[z,TI,TO,d,g].Nodup):
  Turn P w K (.Tuple es k c6) (Itz K b1 l1 b2 l2) [z,TI,TO,d,g] z (λi h=>IsZip h z TI TO .none/\IsPair h TI (.ref d) (.ref g)/\(∃a b,IsPair h TO a b)/\ItB b1 h d l1 i/\ItB b2 h g l2 i) where
 mem:=by simp
 obj:=λi h⟨r,m,⟨a,b,C⟩,u,p⟩c N=>by
  simp only[List.mem_cons,List.not_mem_nil,or_false]at N;rcases N with e|e|e|e|e <;> subst e
  ·exact⟨_,r,λv q=>by have M:Data.fields _=Data.cell v:=q;cases M⟩
  ·exact⟨_,m,λv q=>by have M:Data.seq _ _=Data.cell v:=q;cases M⟩
  ·exact⟨_,C,λv q=>by have M:Data.seq _ _=Data.cell v:=q;cases M⟩
  ·exact u.lt
  ·exact p.lt
 keep:=λi h h'⟨r,m,⟨a,b,C⟩,u,p⟩O=>⟨O z (by simp) _ r,O TI (by simp) _ m,⟨a,b,O TO (by simp) _ C⟩,u.at λo e=>O d (by simp) o e,p.at λo e=>O g (by simp) o e⟩
 item:=by
  intro X a7 a3 Z N i b9 s c3 H E I t st a8;subst a7 a3 Z;obtain⟨r,m,⟨a,b,C⟩,u,p⟩:=st;obtain⟨xs,ys,x,y,J,L,e1,c4⟩:=a8;obtain⟨d6,a2,V⟩:=I.seqB J;obtain⟨c7,b3,b6⟩:=I.seqB L;obtain⟨c1,c9,d4⟩:=a2.get e1;obtain⟨c2,d7,d2⟩:=b3.get c4;have j:∀f∈[z,TI,TO,d,g],l1≠f:=λf F=>I.seq_ne J (t f F);have l:∀f∈[z,TI,TO,d,g],l2≠f:=λf F=>I.seq_ne L (t f F);simp only[List.nodup_cons,List.mem_cons,List.not_mem_nil,or_false,not_or,List.nodup_nil,and_true,not_false_eq_true]at R;obtain⟨⟨b5,a0,Y,a9⟩,⟨b7,U,a5⟩,⟨a4,b8⟩,W⟩:=R;have D:ZipApart z TI TO d g l1 l2:=⟨yA b5,yA a0,yA Y,yA a9,b7,U,a5,a4,b8,W,j z (by simp),j TO (by simp),j d (by simp),j g (by simp),l z (by simp),l TO (by simp),l d (by simp),l g (by simp)⟩;refine Qt D r m C u p V b6 (x:=c1) (y:=c2) (by simpa using c9) (by simpa using d7) λh' c5 d3 d8 d1 d0 e3 S=>⟨_,rfl,?_⟩;refine wpAny_letOwnedTupleGo_zip c5 λa1 c8 G=>?_;have up:∀c o,c∉[z,TI,TO,d,g]->s.heap.get? c=some o->a1.get? c=some o:=λc o n e=>by
   simp only[List.mem_cons,List.not_mem_nil,or_false,not_or]at n;obtain⟨T,e0,b0,b4,a6⟩:=n;exact G.extBut _ _ T (S c o T b0 b4 a6 e)
  have c0:s.heap.objs.size≠z:=rL (zP r);have new:mB X.prog X.w (upd H s.heap.objs.size (.tup [x,y])) a1 s.heap.objs.size (.tup [x,y]):=
   ⟨by show 2<=sizeLine;decide,[c1,c2],.cons d4 (.cons d2 .nil),⟨_,G.extBut _ _ c0 d0,rfl,_,rfl⟩⟩
  have d5:Inv X b9 c3 (upd H s.heap.objs.size (.tup [x,y])) {s with heap:=a1}:=I.turnedNew (t':=s.toks) t up (zE _) new;refine⟨.ref s.heap.objs.size,_,d5,rfl,⟨_,x,y,rfl,I.fresh,rfl,λe4 q=>by rw[I.seqB_inj q J];exact e1,λe2 q=>by rw[I.seqB_inj q L];exact c4⟩,⟨c8,G.extBut _ _ D.TIz (S _ _ D.TIz D.TITO D.TIi1 D.TIi2 m),⟨_,_,G.extBut _ _ D.TOz d3⟩,d8.at λo e=>G.extBut _ _ D.i1z e,d1.at λo e=>G.extBut _ _ D.i2z e⟩,λc n=>?_⟩;have d9:=(t c n).1;rw[nC]
  ·exact d9
  ·intro e;subst e;simp only[List.mem_cons,List.not_mem_nil,or_false]at n;rcases n with e|e|e|e|e
   ·exact c0 e
   ·exact absurd (zP m) (by rw[←e];exact xA _)
   ·exact absurd (zP C) (by rw[←e];exact xA _)
   ·obtain⟨o,q,_⟩:=u.lt;exact absurd (zP q) (by rw[←e];exact xA _)
   ·obtain⟨o,q,_⟩:=p.lt;exact absurd (zP q) (by rw[←e];exact xA _)
 done:=by
  intro X a7 a3 Z N i b9 s c3 H E I t st a8;subst a7 a3 Z;obtain⟨r,m,⟨a,b,C⟩,u,p⟩:=st;obtain⟨xs,ys,J,L,e1⟩:=a8;obtain⟨d6,a2,V⟩:=I.seqB J;obtain⟨c7,b3,b6⟩:=I.seqB L;have j:∀f∈[z,TI,TO,d,g],l1≠f:=λf F=>I.seq_ne J (t f F);have l:∀f∈[z,TI,TO,d,g],l2≠f:=λf F=>I.seq_ne L (t f F);simp only[List.nodup_cons,List.mem_cons,List.not_mem_nil,or_false,not_or,List.nodup_nil,and_true,not_false_eq_true]at R;obtain⟨⟨b5,a0,Y,a9⟩,⟨b7,U,a5⟩,⟨a4,b8⟩,W⟩:=R;have D:ZipApart z TI TO d g l1 l2:=⟨yA b5,yA a0,yA Y,yA a9,b7,U,a5,a4,b8,W,j z (by simp),j TO (by simp),j d (by simp),j g (by simp),l z (by simp),l TO (by simp),l d (by simp),l g (by simp)⟩;refine Qs (I.ok.hd N) D r m C u p V b6 (e1.imp (Hr a2) (Hr b3)) λh' S=>⟨rfl,I.turnedL (t':=s.toks) t λc o n e=>?_⟩;simp only[List.mem_cons,List.not_mem_nil,or_false,not_or]at n;obtain⟨T,e0,b0,b4,a6⟩:=n;exact S c o T b0 b4 a6 e
 self:=λ_ _ _ _ _ st h=>wpAny_pyIter_zip st.1 h
section
variable {X:Cx}
def iZip(K:Frag)(ta:TA):TI:=λσ H R=>ta σ H λvs H1=>∃b1 b2 l1 l2,vs=[.ref l1,.ref l2]/\(∃xs,SqB b1 K H1 l1 xs)/\(∃ys,SqB b2 K H1 l2 ys)/\R (Itz K b1 l1 b2 l2) H1
theorem Cq{a b:Expr}{ta:TA}{es:List Expr}{k:Nat}{S p m:Pos}(M:Gl X "zip")(D:X.mg "zip"=none)(K:PA X [a,b] ta)(F:bootBuiltins "zip"=some (.type "zip"):=by decide +kernel)
  (J:starEach [a,b] X.env=[(false,eval a X.env),(false,eval b X.env)]:=by rfl)(o:starEach [b] X.env=[(false,eval b X.env)]:=by rfl):
  PI X (.Tuple es k S) (.Call (.Name "zip" p) [a,b] [] m) (iZip X.K ta):=by
 intro v s L H R I h;refine Call_ (gC I M D F (wC (thn (K m v s L H _ I h) ?_) (by rw[J,o]) (by rw[o];rfl)));rintro us d ⟨vs,N,f,y,i⟩;obtain⟨b1,b2,l1,l2,e,⟨xs,i⟩,⟨ys,O⟩,q⟩:=i;subst e;cases y with
 | cons r g =>
  cases g with
  | cons w g =>
   cases g;cases r;cases w;obtain⟨U,V,u⟩:=f.seqB i;obtain⟨W,v2,T⟩:=f.seqB O;refine Qq u T λh' n G P C x z=>?_;refine wpAny_pyIter_zip n ?_;have lt:∀j,j<=4->d.heap.objs.size<=d.heap.objs.size+j:=λj _=>qN _ _;refine⟨d.heap.objs.size+4,[d.heap.objs.size+4,d.heap.objs.size+2,d.heap.objs.size+3,d.heap.objs.size,d.heap.objs.size+1],_,_,N,rfl,f.kept (t':=d.toks) z,Qp (b1:=b1) (b2:=b2) (l1:=l1) (l2:=l2) ?_,⟨n,G,⟨_,_,P⟩,C,x⟩,λc t=>?_,q⟩
   ·simp
   ·have l:d.heap.objs.size<=c:=by
     simp only[List.mem_cons,List.not_mem_nil,or_false]at t;rcases t with e|e|e|e|e <;> subst e <;> first|exact zE _|exact qN _ _
    exact f.fpOk l (f.hok.fresh l)
end
open AutoSeq1 (wpAny_loadPart')
set_option maxRecDepth 100000 in
theorem Qo(l:Addr)(items:Array Value)(n:Nat)(b:Option Addr)(e:Array (Option Value)):
  Meets (Builtin.«enumerate.__new__» ⟨[.type "enumerate",.ref l],[]⟩) (λ_ R s=>s.heap.get? l=some {cls:=.type "tuple",dict:=b,data:=.seq items n,slots:=e} /\
   R (.ok (.ret (.ref (s.heap.push {cls:=.type "tuple_iterator",data:=.fields #[.ref l,.int 0 0]}).objs.size)))
    {s with heap:=(s.heap.push {cls:=.type "tuple_iterator",data:=.fields #[.ref l,.int 0 0]}).push {cls:=.type "enumerate",data:=.fields #[.none,.bool false,.ref s.heap.objs.size,rawInt 0,.none,.none]}}):=
 .of_wp λprog w A R s h=>by
  obtain⟨f,g,d,tk,i⟩:=s;obtain⟨hl,h⟩:=h;have j:=sub_enumerate;have a:Heap.IsTuple (Shared.heap ⟨f,g,d,tk,i⟩) l items:=⟨_,hl,rfl,n,rfl⟩
  wp_walk using uH hl
  refine wpAny_stack_any λst=>zB ?_;split
  ·rename_i c _ _ _ _ _;cases(c == Value.type "enumerate")
   ·wp_walk using uH hl,uE a
    exact⟨_,rfl,h⟩
   ·wp_walk using uH hl,uE a
    exact⟨_,rfl,h⟩
  ·wp_walk using uH hl,uE a
   exact⟨_,rfl,h⟩
theorem Qn{prog:Program}{w:World}{A:Around}{E:VP}{s:Shared}{b:Bool}{l:Addr}{items:Array Value}{Q:VP}(e:seqB b s.heap l items)
  (h:∀h',IsEnum h' (s.heap.objs.size+1) s.heap.objs.size 0 .none->ItB b h' s.heap.objs.size l 0 ->
   (∀b o,s.heap.get? b=some o->h'.get? b=some o)->Q (.ref (s.heap.objs.size+1)) {s with heap:=h'}):
  wpAny (model prog w) A (call (.type "enumerate") [.ref l]) Q E s:=by
 cases b
 ·exact call_enumerate_list e λh' m q r p=>h h' m q p
 ·obtain⟨⟨c,i,dt,k⟩,hl,d,n,a⟩:=e;replace d:c=.type "tuple" := d;replace a:dt=.seq items n:=a;subst d a;refine callType_new F.called_enumerate ∅ (F.typeCall_enumerate_1 _) (F.newCall_enumerate_1 _) (λj=>F.args_object_init_2 j _) F.entry_enumerate_new
   (Qo l items n i k) ⟨hl,?_⟩
  have g:(s.heap.push {cls:=.type "tuple_iterator",data:=.fields #[.ref l,.int 0 0]}).objs.size=s.heap.objs.size+1:=xZ ..;show _/\_;rw[g];have f:IsEnum ((s.heap.push {cls:=.type "tuple_iterator",data:=.fields #[.ref l,.int 0 0]}).push
    {cls:=.type "enumerate",data:=.fields #[.none,.bool false,.ref s.heap.objs.size,rawInt 0,.none,.none]}) (s.heap.objs.size+1) s.heap.objs.size 0 .none:=by
   have:=zT (s.heap.push {cls:=.type "tuple_iterator",data:=.fields #[.ref l,.int 0 0]})
    (o:={cls:=.type "enumerate",data:=.fields #[.none,.bool false,.ref s.heap.objs.size,rawInt 0,.none,.none]}) rfl
   rw[g]at this;exact this
  refine⟨⟨_,f,rfl⟩,h _ f ⟨_,zC _ (zT _ rfl),rfl,rfl⟩ λb o x=>zC _ (zC _ x)⟩
def Ite(K:Frag)(b:Bool)(l:Addr):It:=
  ⟨λi H=>∃xs x,SqB b K H l xs/\xs[i]?=some x,
   λi H v H'=>∃p x,v=.ref p/\H p=none/\H'=upd H p (.tup [.int i,x])/\∀xs,SqB b K H l xs->xs[i]?=some x,
   λi H=>∃xs,SqB b K H l xs/\xs.length=i⟩
theorem Qm{P:Program}{w:World}{K:Frag}{es:List Expr}{k:Nat}{Z:Pos}{b:Bool}{e a l:Addr}(F:e≠a):
  Turn P w K (.Tuple es k Z) (Ite K b l) [e,a] e (λi h=>(∃p,IsEnum h e a i p)/\ItB b h a l i) where
 mem:=by simp
 obj:=λi h⟨⟨p,g⟩,j⟩c n=>by
  simp only[List.mem_cons,List.not_mem_nil,or_false]at n;rcases n with e|e <;> subst e
  ·exact⟨_,g,λv q=>by have a0:Data.fields _=Data.cell v:=q;cases a0⟩
  ·exact j.lt
 keep:=λi h h'⟨⟨p,g⟩,j⟩V=>⟨⟨p,V e (by simp) _ g⟩,j.at λo q=>V a (by simp) o q⟩
 item:=by
  intro X t N G n i T s Y H E I r st O;subst t N G;obtain⟨⟨p,g⟩,j⟩:=st;obtain⟨xs,x,m,e1⟩:=O;obtain⟨y,M,D⟩:=I.seqB m;obtain⟨W,U,a7⟩:=M.get e1;have C:∀f∈[e,a],l≠f:=λf R=>I.seq_ne m (r f R);have a5:i<y.toArray.size:=by
   have:=(oF.mp U).1;simpa using this
  refine wpAny_pyNext_enum_itemD (Hs b (show X.A.in1.handled=none from I.ok.hd n) a l (C a (by simp)) y.toArray) g ⟨j,D⟩ a5 F (λq=>?_) λu h' tk t a1 a6 a9 b3 a4=>⟨_,rfl,?_⟩
  ·simp only[List.mem_cons,List.not_mem_nil,or_false]at q;rcases q with q|q
   ·exact F q
   ·exact C e (by simp) q.symm
  have b1:u=W:=by
   have:y.toArray[i]?=some W:=by simpa using U
   rw[this]at t;exact(zQ t).symm
  subst b1;refine wpAny_letOwnedTupleGo_enum a1 λL a3 J=>?_;have S:s.heap.objs.size≠e:=rL (zP g);have up:∀c o,c∉[e,a]->s.heap.get? c=some o->L.get? c=some o:=λc o d q=>by
   simp only[List.mem_cons,List.not_mem_nil,or_false,not_or]at d;exact J.extBut _ _ d.1 (a4 c o d.1 d.2 q)
  have new:mB X.prog X.w (upd H s.heap.objs.size (.tup [.int i,x])) L s.heap.objs.size (.tup [.int i,x]):=
   ⟨by show 2<=sizeLine;decide,[.int i tk,u],.cons ⟨tk,rfl⟩ (.cons a7 .nil),⟨_,J.extBut _ _ S a9,rfl,_,rfl⟩⟩
  have a8:Inv X T Y (upd H s.heap.objs.size (.tup [.int i,x])) {s with heap:=L,toks:=tk+1}:=I.turnedNew (t':=tk+1) r up (zE _) new;refine⟨.ref s.heap.objs.size,_,a8,rfl,⟨_,x,rfl,I.fresh,rfl,λb4 q=>by rw[I.seqB_inj q m];exact e1⟩,⟨⟨u,by simpa using a3⟩,a6.1.at λo q=>J.extBut _ _ (yA F) q⟩,λc d=>?_⟩;have b0:=(r c d).1;rw[nC]
  ·exact b0
  ·intro z;subst z;simp only[List.mem_cons,List.not_mem_nil,or_false]at d;rcases d with z|z
   ·exact S z
   ·obtain⟨o,q,_⟩:=j.lt;exact absurd (zP q) (by rw[←z];exact xA _)
 done:=by
  intro X t N G n i T s Y H E I r st O;subst t N G;obtain⟨⟨p,g⟩,j⟩:=st;obtain⟨xs,m,e1⟩:=O;obtain⟨y,M,D⟩:=I.seqB m;have C:∀f∈[e,a],l≠f:=λf R=>I.seq_ne m (r f R);have b2:y.toArray.size=i:=by rw[zZ,←M.length,e1]
  refine wpAny_pyNext_enum_endD (Hs b (show X.A.in1.handled=none from I.ok.hd n) a l (C a (by simp)) y.toArray) g ⟨by rw[b2];exact j,D⟩ λh' a2=>⟨rfl,I.turnedL (t':=s.toks) r λc o d q=>?_⟩;simp only[List.mem_cons,List.not_mem_nil,or_false,not_or]at d;exact a2 c o d.2 q
 self:=λ_ _ _ _ _ st h=>let ⟨⟨_,q⟩,_⟩:=st;wpAny_pyIter_enum q h
section
variable {X:Cx}
def fI(K:Frag)(ta:TA):TI:=λσ H R=>ta σ H λvs H1=>∃b l,vs=[.ref l]/\(∃xs,SqB b K H1 l xs)/\R (Ite K b l) H1
theorem eI{a:Expr}{ta:TA}{es:List Expr}{k:Nat}{K p j:Pos}(G:Gl X "enumerate")(x:X.mg "enumerate"=none)(D:PA X [a] ta)(y:bootBuiltins "enumerate"=some (.type "enumerate"):=by decide +kernel)
  (C:starEach [a] X.env=[(false,eval a X.env)]:=by rfl):
  PI X (.Tuple es k K) (.Call (.Name "enumerate" p) [a] [] j) (fI X.K ta):=by
 intro u s F H R I h;refine Call_ (gC I G x y (wC (thn (D j u s F H _ I h) ?_) C rfl));rintro us d ⟨vs,J,f,v,g⟩;obtain⟨b,l,e,⟨xs,g⟩,q⟩:=g;subst e;cases v with
 | cons r t =>
  cases t;cases r;obtain⟨L,M,o⟩:=f.seqB g;refine Qn o λh' m z w=>?_;refine wpAny_pyIter_enum m ?_;refine⟨d.heap.objs.size+1,[d.heap.objs.size+1,d.heap.objs.size],_,_,J,rfl,f.kept (t':=d.toks) w,Qm (b:=b) (l:=l) (by simp),⟨⟨_,m⟩,z⟩,λc n=>?_,q⟩;have i:d.heap.objs.size<=c:=by
   simp only[List.mem_cons,List.not_mem_nil,or_false]at n;rcases n with e|e <;> subst e <;> first|exact zE _|exact qN _ _
  exact f.fpOk i (f.hok.fresh i)
theorem Hq:∀{ns:LI'}{its:LW},Vals (ns.map V.int) its->∃xs:List (Int×Tok),its=xs.map (λp=>Value.int p.1 p.2)/\xs.map (·.1)=ns
 |[],_,.nil=>⟨[],rfl,rfl⟩
 |n:: r,_,.cons ⟨b,h⟩ q=>by
  obtain⟨xs,e1,a⟩:=Hq (ns:=r) q;exact⟨(n,b):: xs,by rw[h,e1];rfl,by rw[zK,a]⟩
theorem Cp(e:X.calm=true):lZ X (.builtin "sum") (λxs H Q=>∃(p:Addr)(ns:LI'),xs=[.ref p]/\SqL X.K H p (ns.map V.int)/\Q (.int ns.sum) H):=by
 intro i s g H xs us Q I r h;obtain⟨p,ns,rfl,b,q⟩:=h;obtain⟨u,rfl,c⟩:=jF r;cases c;obtain⟨its,f,pl,j⟩:=I.list b;obtain⟨ps,e1,d⟩:=Hq f;have hl:s.heap.IsList p (intItems ps.toArray):=by
  have:=pl.isList;rw[e1]at this;simpa [intItems]using this
 refine sum_intListG (I.ok.hd e) hl λh' tk t' a=>⟨.int ns.sum,H,I.kept (t':=tk) a,⟨t',?_⟩,q⟩;rw[preSum_eq,xY (by simp)];simp[d]
end
theorem SqB.or{b:Bool}{K:Frag}{H:Hp}{a:Addr}{xs:List V}(h:SqB b K H a xs):SqL K H a xs\/SqT K H a xs:=by
 cases b
 ·exact .inl h
 ·exact .inr h
theorem SqB.up{b:Bool}{K:Frag}{H H':Hp}{a:Addr}{xs:List V}(h:SqB b K H a xs)(s:Same H H'):SqB b K H' a xs:=by
 cases b
 ·exact s.seq h
 ·exact s.tup h
theorem SqB.lst{K:Frag}{H:Hp}{a:Addr}{xs:List V}(h:H a=some (.lst xs)):SqB false K H a xs:=SqL.of h
theorem SqB.tup{K:Frag}{H:Hp}{a:Addr}{xs:List V}(h:H a=some (.tup xs)):SqB true K H a xs:=SqT.of h
def Its(K:Frag)(b:Bool)(a:Addr):It:=match b with|false=>Itl K a|true=>Itt K a
theorem Its.go{K:Frag}{b:Bool}{a:Addr}{xs:List V}{x:V}{i:Nat}{H:Hp}(h:SqB b K H a xs)(e:xs[i]?=some x):(Its K b a).go i H:=by
 cases b
 ·exact⟨xs,x,h,e⟩
 ·exact⟨xs,x,h,e⟩
theorem Its.stop{K:Frag}{b:Bool}{a:Addr}{xs:List V}{i:Nat}{H:Hp}(h:SqB b K H a xs)(e:xs.length<=i):(Its K b a).stop i H:=by
 cases b
 ·exact⟨xs,h,e⟩
 ·exact⟨xs,h,e⟩
theorem Its.yld{K:Frag}{b:Bool}{a:Addr}{xs:List V}{i:Nat}{H H':Hp}{x:V}(h:SqB b K H a xs)(y:(Its K b a).yld i H x H'):H'=H/\xs[i]?=some x:=by
 cases b
 ·exact⟨y.1,y.2 xs h⟩
 ·exact⟨y.1,y.2 xs h⟩
section
variable {X:Cx}
def iSeq(K:Frag)(tl:TE):TI:=λσ H R=>tl σ H λx H1=>∃b a,x=.ref a/\(∃xs,SqB b K H1 a xs)/\R (Its K b a) H1
theorem nH{u l:Expr}{i:TE}(hl:PE X l i):PI X u l (iSeq X.K i):=by
 intro n s m H R I h;refine thn (hl n s m H _ I h) ?_;rintro v c ⟨x,j,d,r,k⟩;obtain⟨b,a,e,⟨xs,g⟩,q⟩:=k;subst e;cases r;cases b
 ·obtain⟨its,w,p,t⟩:=d.list g;refine sK p.isList ?_;refine⟨c.heap.objs.size,[c.heap.objs.size],_,_,j,rfl,d.kept (t':=c.toks) λb o e=>zC _ e,Nm a _,⟨_,zT _ rfl,rfl,rfl⟩,λb f=>?_,q⟩;have e:b=c.heap.objs.size:=by simpa using f
  subst e;exact d.fpOk (zE _) (d.hok.fresh (zE _))
 ·obtain⟨its,w,p,t⟩:=d.tuple g;refine uE (show c.heap.IsTuple a its.toArray from p) ?_;refine⟨c.heap.objs.size,[c.heap.objs.size],_,_,j,rfl,d.kept (t':=c.toks) λb o e=>zC _ e,Nl a _,⟨_,zT _ rfl,rfl,rfl⟩,λb f=>?_,q⟩;have e:b=c.heap.objs.size:=by simpa using f
  subst e;exact d.fpOk (zE _) (d.hok.fresh (zE _))
def rIxB(K:Frag):R2:=λx y H Q=>E5 λ(b:Bool)(p:Addr)(xs:List V)(i:Int)(v:V)=>A5 (x=.ref p) (y=.int i) (SqB b K H p xs) (atI xs i=some v) (Q v H)
theorem ix_B:IxR X (rIxB X.K):=by
 intro j l k s d H x y v u Q I e f h;obtain⟨b,p,xs,i,g,e1,m,c,a,q⟩:=h;cases b
 ·exact Od j l k s d H x y v u Q I e f ⟨p,xs,i,g,e1,m,c,a,q⟩
 ·exact Oc j l k s d H x y v u Q I e f ⟨p,xs,i,g,e1,m,c,a,q⟩
def kY(K:Frag):List V->Hp->VK->Prop:=λxs H Q=>E3 λ(b:Bool)(p:Addr)(ys:List V)=>A3 (xs=[.ref p]) (SqB b K H p ys) (Q (.int ys.length) H)
theorem Ql:lZ X (.builtin "len") (kY X.K):=by
 intro c s d H xs us Q I r h;obtain⟨b,p,ys,e,a,q⟩:=h;exact Pw c s d H xs us Q I r ⟨p,ys,e,a.or,q⟩
def cG(K:Frag):List V->Hp->VK->Prop:=λxs H Q=>∃b p ys,xs=[.ref p]/\SqB b K H p ys/\∀l,H l=none->Q (.ref l) (upd H l (.lst ys))
theorem fJ:lZ X (.type "list") (cG X.K):=by
 intro c s d H xs us Q I r h;obtain⟨b,p,ys,e,a,q⟩:=h;exact Pu c s d H xs us Q I r ⟨p,ys,e,a.or,q⟩
def gG(K:Frag):List V->Hp->VK->Prop:=λxs H Q=>∃p ys,xs=[.ref p]/\((SqL K H p ys/\∀l,H l=none->Q (.ref l) (upd H l (.tup ys)))\/(SqT K H p ys/\Q (.ref p) H))
theorem kL:lZ X (.type "tuple") (gG X.K):=Pt
end
theorem Qk{K:Frag}{b:Bool}{a:Addr}{xs:List V}{g:TG}{tb:TS}{D:Ends}{c:St}{H:Hp}(d:Nat->St->Hp->Prop)(l:d 0 c H)(hl:∀i c H,i<=xs.length->d i c H->SqB b K H a xs)
  (p:∀i x c H,xs[i]?=some x->d i c H->g x c H λf j=>tb {D with nx:=d (i+1),ct:=d (i+1),bk:=D.nx} f j)(o:∀c H,d xs.length c H->D.nx c H):
  ∃e:Nat->Nat->St->Hp->Prop,(∃m,e 0 m c H)/\∀i m c H,e i m c H ->
   ((Its K b a).stop i H/\D.nx c H)\/((Its K b a).go i H/\∃N:St->Hp->Prop,(∀k H',N k H'->∃n,n<m/\e (i+1) n k H')/\∀x H',(Its K b a).yld i H x H'->g x c H' λf j=>tb {D with nx:=N,ct:=N,bk:=D.nx} f j):=by
 cases b
 ·exact Nh d l hl p o
 ·exact Ng d l hl p o
theorem Qj{K:Frag}{b:Bool}{a:Addr}{xs:List V}{g:TG}{tb:TS}{D:Ends}{c:St}{H:Hp}(d:Nat->St->Hp->Prop)(u:d 0 c H)(hl:∀i c H,i<=xs.length->d i c H->SqB b K H a xs)
  (z:∀i x p c H,xs[i]?=some x->d i c H->H p=none->g (.ref p) c (upd H p (.tup [.int i,x])) λk l=>tb {D with nx:=d (i+1),ct:=d (i+1),bk:=D.nx} k l)(w:∀c H,d xs.length c H->D.nx c H):
  ∃j:Nat->Nat->St->Hp->Prop,(∃m,j 0 m c H)/\∀i m c H,j i m c H ->
   ((Ite K b a).stop i H/\D.nx c H)\/((Ite K b a).go i H/\∃N:St->Hp->Prop,(∀f H',N f H'->∃n,n<m/\j (i+1) n f H')/\∀x H',(Ite K b a).yld i H x H'->g x c H' λk l=>tb {D with nx:=N,ct:=N,bk:=D.nx} k l):=by
 refine⟨λi m c H=>m=xs.length-i/\i<=xs.length/\d i c H,⟨xs.length,by simp,yR _,u⟩,?_⟩;rintro i m c H ⟨rfl,hi,p⟩;have q:=hl i c H hi p
 by_cases o:i<xs.length
 ·refine .inr ⟨⟨xs,xs[i],q,by simp[o]⟩,d (i+1),λf H' t=>⟨xs.length-(i+1),⋯,rfl,o,t⟩,λx H' y=>?_⟩;obtain⟨r,x,rfl,hr,rfl,v⟩:=y;exact z i x r c H (v xs q) p hr
 ·have e:i=xs.length:=⋯
  subst e;exact .inl ⟨⟨xs,q,rfl⟩,w c H p⟩
def jI(a:Addr)(H H':Hp):Prop:=∀b o,b≠a->H b=some o->H' b=some o
theorem Same.x{a:Addr}{H H':Hp}(s:Same H H'):jI a H H':=λb o _ e=>s b o e
section
variable {J:It} {g:TG} {tt:TOx} {te:TE} {n:Nat} {fr:List (Str×Nat)} {σ:St} {a:Addr} {H:Hp} {Q:VK} {K:Frag}
theorem aL(len:Nat)(P:Nat->List V->Hp->Prop)(w:H a=none)(R:len<=1000)(F:P 0 [] (upd H a (.lst [])))
  (hl:∀i zs c,P i zs c->zs.length<=i)(mono:∀i zs c d,P i zs c->jI a c d->P i zs d)
  (N:∀i c,i<len->Same H c->J.go i c)(I:∀c,Same H c->J.stop len c)
  (D:∀i c zs,i<len->Same H c->c a=some (.lst zs)->P i zs c->∀(ys:St) x l,ys.length=n->J.yld i c x l->∀C:Option V->Hp->Prop,
   (∀y d,Same c d->P (i+1) (zs++[y]) d->C (some y) d)->(∀d,Same c d->P (i+1) zs d->C none d) ->
   g x (ys++lG fr σ) l λv O=>(∃u:St,u.length=n/\v=u++lG fr σ)/\tt v O C)
  (G:∀c ys,Same H c->c a=some (.lst ys)->P len ys c->Q (.ref a) c):kB J g tt n fr σ a H Q:=by
 refine⟨λi m c=>m=len-i/\i<=len/\Same H c/\∃zs,c a=some (.lst zs)/\P i zs c,⟨len,by simp,Nat.zero_le _,Same.new w,[],oQ,F⟩,?_⟩;rintro i m c ⟨rfl,hi,f,zs,r,p⟩
 by_cases k:i<len
 ·refine .inr ⟨N i c k f,λH'=>i+1<=len/\Same H H'/\∃zs,H' a=some (.lst zs)/\P (i+1) zs H',λH' q=>⟨len-(i+1),⋯,rfl,q⟩,λys x l L z=>?_⟩;refine D i c zs k f r p ys x l L z _ (λy d j t=>?_) λd j t=>?_
  ·refine⟨zs,j _ _ r,cC (by have:=hl i zs c p;omega),k,Same.over w (f.trans j),_,oQ,mono _ _ _ _ t λb o M e=>?_⟩;rw[nC M];exact e
  ·exact⟨k,f.trans j,zs,j _ _ r,t⟩
 ·have e:i=len:=⋯
  subst e;exact .inl ⟨I c f,G c zs f r p⟩
theorem aM(len:Nat)(R:Nat->V->Hp->Prop)(L:H a=none)(v:len<=1000)(mono:∀i y b c,R i y b->jI a b c->R i y c)
  (M:∀i b,i<len->Same H b->J.go i b)(G:∀b,Same H b->J.stop len b)
  (q:∀i b zs,i<len->Same H b->b a=some (.lst zs)->∀(ys:St) x d,ys.length=n->J.yld i b x d->∀m:VK,(∀y c,Same b c->R i y c->m y c) ->
   g x (ys++lG fr σ) d λk O=>(∃f:St,f.length=n/\k=f++lG fr σ)/\te k O m)
  (F:∀b ys,Same H b->b a=some (.lst ys)->ys.length=len->(∀j y,ys[j]?=some y->R j y b)->Q (.ref a) b):kB J g (tEl te) n fr σ a H Q:=by
 refine aL len (λi zs b=>zs.length=i/\∀j y,zs[j]?=some y->R j y b) L v ⟨rfl,λj y e=>by simp at e⟩ (λi zs b p=>rN p.1) (λi zs b c p s=>⟨p.1,λj y e=>mono _ _ _ _ (p.2 j y e) s⟩) M G ?_ λb ys s e p=>F b ys s e p.1 p.2;intro i b zs hi u P p ys x d I o C D _;refine q i b zs hi u P ys x d I o _ λy c l r=>D y c l ⟨by simp[p.1],λj z e=>?_⟩
 by_cases N:j<zs.length
 ·rw[yT N]at e;exact mono _ _ _ _ (p.2 j z e) l.x
 ·rw[yG ⋯]at e;have w:j-zs.length=0:=by
   by_cases t:j-zs.length=0
   ·exact t
   ·rw[vG (by simp;omega)]at e;cases e
  rw[w]at e;cases zQ e;have:j=i:=by have:=p.1;omega
  rw[this];exact r
theorem nO{b:Bool}{l:Addr}{xs:List V}(R:Nat->V->Hp->Prop)(p:H a=none)(f:SqB b K H l xs)(w:xs.length<=1000)(mono:∀i y c d,R i y c->jI a c d->R i y d)
  (r:∀i x c zs,xs[i]?=some x->Same H c->c a=some (.lst zs)->∀e:VK,(∀y d,Same c d->R i y d->e y d)->te (some x:: lG fr σ) c e)
  (z:∀c ys,Same H c->c a=some (.lst ys)->ys.length=xs.length->(∀j y,ys[j]?=some y->R j y c)->Q (.ref a) c):kB (Its K b l) (oU 0) (tEl te) 1 fr σ a H Q:=by
 refine aM xs.length R p w mono (λi c hi s=>Its.go (f.up s) (x:=xs[i]) (by simp[hi])) (λc s=>Its.stop (f.up s) (zE _)) ?_ z;intro i c zs hi k u ys x t m q e C;obtain⟨e1,v⟩:=Its.yld (f.up k) q;subst e1
 match ys,m with
 |[o],_=>exact⟨⟨[some x],rfl,rfl⟩,r i x t zs v k u e C⟩
theorem kC{lo:Int}{len:Nat}(R:Nat->V->Hp->Prop)(f:H a=none)(t:len<=1000)(mono:∀i y b c,R i y b->jI a b c->R i y c)
  (l:∀(i:Nat) b zs,i<len->Same H b->b a=some (.lst zs)->∀d:VK,(∀y c,Same b c->R i y c->d y c)->te (some (.int (lo+i)):: lG fr σ) b d)
  (u:∀b ys,Same H b->b a=some (.lst ys)->ys.length=len->(∀j y,ys[j]?=some y->R j y b)->Q (.ref a) b):kB (Itr lo len) (oU 0) (tEl te) 1 fr σ a H Q:=by
 refine aM len R f t mono (λi b hi s=>hi) (λb s=>zE _) ?_ u;intro i b zs hi q p ys x m e k d v;obtain⟨e1,r⟩:=k;subst e1 r
 match ys,e with
 |[o],_=>exact⟨⟨[_],rfl,rfl⟩,l i m zs hi q p d v⟩
theorem Co{b1 b2:Bool}{l1 l2:Addr}{xs ys:List V}(R:Nat->V->Hp->Prop)(F:H a=none)(e:SqB b1 K H l1 xs)(l:SqB b2 K H l2 ys)(L:xs.length=ys.length)(t:xs.length<=1000)(mono:∀i y b c,R i y b->jI a b c->R i y c)
  (q:∀i x y b zs,xs[i]?=some x->ys[i]?=some y->Same H b->b a=some (.lst zs)->∀d:VK,(∀y c,Same b c->R i y c->d y c)->te (some x:: some y:: lG fr σ) b d)
  (v:∀b zs,Same H b->b a=some (.lst zs)->zs.length=xs.length->(∀j y,zs[j]?=some y->R j y b)->Q (.ref a) b):
  kB (Itz K b1 l1 b2 l2) (gTup K 2 (nV (oU 0) (nV (oU 1) gNil))) (tEl te) 2 fr σ a H Q:=by
 refine aM xs.length R F t mono (λi b hi s=>⟨xs,ys,xs[i],ys[i],e.up s,l.up s,by simp[hi],by simp⟩) (λb s=>⟨xs,ys,e.up s,l.up s,.inl (by simp)⟩) ?_ v;intro i b zs hi k G C x M D f d z;obtain⟨p,x,y,rfl,m,rfl,u,f⟩:=f;refine⟨p,[x,y],rfl,SqT.of oQ,rfl,x,[y],rfl,y,[],rfl,rfl,?_⟩
 match C,D with
 |[o,I],_ =>
  refine⟨⟨[some x,some y],rfl,rfl⟩,q i x y _ zs (u xs (e.up k)) (f ys (l.up k)) (k.trans (Same.new m)) (Same.new m _ _ G) d λy c w r=>z y c ((Same.new m).trans w) r⟩
theorem Qi{b:Bool}{l:Addr}{xs:List V}(R:Nat->V->Hp->Prop)(G:H a=none)(f:SqB b K H l xs)(u:xs.length<=1000)(mono:∀i y c d,R i y c->jI a c d->R i y d)
  (t:∀i x c zs,xs[i]?=some x->Same H c->c a=some (.lst zs)->∀e:VK,(∀y d,Same c d->R i y d->e y d)->te (some (.int i):: some x:: lG fr σ) c e)
  (w:∀c zs,Same H c->c a=some (.lst zs)->zs.length=xs.length->(∀j y,zs[j]?=some y->R j y c)->Q (.ref a) c):
  kB (Ite K b l) (gTup K 2 (nV (oU 0) (nV (oU 1) gNil))) (tEl te) 2 fr σ a H Q:=by
 refine aM xs.length R G u mono (λi c hi s=>⟨xs,xs[i],f.up s,by simp[hi]⟩) (λc s=>⟨xs,f.up s,rfl⟩) ?_ w;intro i c zs hi m I D x M F q e C;obtain⟨p,x,rfl,k,rfl,v⟩:=q;refine⟨p,[.int i,x],rfl,SqT.of oQ,rfl,_,[x],rfl,x,[],rfl,rfl,?_⟩
 match D,F with
 |[o,L],_ =>
  refine⟨⟨[some (.int i),some x],rfl,rfl⟩,t i x _ zs (v xs (f.up m)) (m.trans (Same.new k)) (Same.new k _ _ I) e λy d z r=>C y d ((Same.new k).trans z) r⟩
end
def MatB(b1 b2:Bool)(K:Frag)(H:Hp)(a:Addr)(rows:List (LI')):Prop:=∃ps:LA,SqB b1 K H a (ps.map V.ref)/\ps.length=rows.length/\∀(i:Nat)(p:Addr)(r:LI'),ps[i]?=some p->rows[i]?=some r->SqB b2 K H p (r.map V.int)
theorem MatB.up{b1 b2:Bool}{K:Frag}{H H':Hp}{a:Addr}{b:List (LI')}(h:MatB b1 b2 K H a b)(s:Same H H'):MatB b1 b2 K H' a b:=let ⟨ps,d,e,c⟩:=h;⟨ps,d.up s,e,λi p r e1 f=>(c i p r e1 f).up s⟩
def RowR(a:Addr)(f:Nat->LI')(j:Nat)(y:V)(H:Hp):Prop:=∃p,y=.ref p/\p≠a/\H p=some (.lst ((f j).map V.int))
theorem RowR.mono{a:Addr}{f:Nat->LI'}(i:Nat)(y:V)(b c:Hp)(h:RowR a f i y b)(s:jI a b c):RowR a f i y c:=let ⟨p,e,n,q⟩:=h;⟨p,e,n,s _ _ n q⟩
def iT:Nat->PyData->Bool
 |_,.int _=>true
 |n+1,.list xs=>xs.all (iT n)
 |n+1,.tuple xs=>xs.all (iT n)
 |_,_=>false
theorem iG:∀(n:Nat)(d:PyData),iT n d=true->d.canLay0=true/\d.depth<=n
 |0,.int _,_=>by simp[PyData.canLay0,PyData.depth]
 |n+1,.int _,_=>by simp[PyData.canLay0,PyData.depth]
 | n+1,.list xs,h=>by
  have all:∀ys:List PyData,ys.all (iT n)=true->PyData.canLayAll0 ys=true/\PyData.depthAll ys<=n:=by
   intro ys
   induction ys with
   |nil=>intro _;simp[PyData.canLayAll0,PyData.depthAll]
   |cons y r c =>
    intro a;rw[xJ,zR]at a;have e:=iG n y a.1;have b:=c a.2;simp only[PyData.canLayAll0,PyData.depthAll,Bool.and_eq_true];exact⟨⟨e.1,b.1⟩,⋯⟩
  have:=all xs (by simpa [iT]using h);simp only[PyData.canLay0,PyData.depth];exact⟨this.1,⋯⟩
 | n+1,.tuple xs,h=>by
  have all:∀ys:List PyData,ys.all (iT n)=true->PyData.canLayAll0 ys=true/\PyData.depthAll ys<=n:=by
   intro ys
   induction ys with
   |nil=>intro _;simp[PyData.canLayAll0,PyData.depthAll]
   |cons y r c =>
    intro a;rw[xJ,zR]at a;have e:=iG n y a.1;have b:=c a.2;simp only[PyData.canLayAll0,PyData.depthAll,Bool.and_eq_true];exact⟨⟨e.1,b.1⟩,⋯⟩
  have:=all xs (by simpa [iT]using h);simp only[PyData.canLay0,PyData.depth];exact⟨this.1,⋯⟩
theorem aN:∀(n:Nat)(d d':PyData),iT n d=true->iT n d'=true->SeqAt.noMix d d'=true:=by
 intro n
 induction n with
 |zero=>intro d d' h h';cases d <;> simp[iT]at h <;> cases d' <;> simp[iT]at h' <;> simp[SeqAt.noMix]
 | succ n e =>
  have all:∀ys zs:List PyData,ys.all (iT n)=true->zs.all (iT n)=true->SeqAt.noMixAll ys zs=true:=by
   intro ys
   induction ys with
   |nil=>intro zs _ _;cases zs <;> simp[SeqAt.noMixAll]
   | cons y r c =>
    intro zs a b;cases zs with
    |nil=>simp[SeqAt.noMixAll]
    |cons z f =>
     rw[xJ,zR]at a b;simp only[SeqAt.noMixAll,Bool.and_eq_true];exact⟨e y z a.1 b.1,c f a.2 b.2⟩
  intro d d' h h';cases d <;> simp only[iT,Bool.false_eq_true]at h <;> cases d' <;> simp only[iT,Bool.false_eq_true]at h' <;> simp only[SeqAt.noMix]
  ·exact all _ _ h h'
  ·exact all _ _ h h'
theorem aO:∀(n:Nat)(d d':PyData),iT n d=true->iT n d'=true->(same d d'=true↔d=d'):=by
 intro n
 induction n with
 |zero=>intro d d' h h';cases d <;> simp[iT]at h <;> cases d' <;> simp[iT]at h' <;> simp[same]
 | succ n e =>
  have all:∀ys zs:List PyData,ys.all (iT n)=true->zs.all (iT n)=true->(sameAll ys zs=true↔ys=zs):=by
   intro ys
   induction ys with
   |nil=>intro zs _ _;cases zs <;> simp[sameAll]
   | cons y r c =>
    intro zs a b;cases zs with
    |nil=>simp[sameAll]
    |cons z f =>
     rw[xJ,zR]at a b;simp only[sameAll,Bool.and_eq_true,List.cons.injEq];rw[e y z a.1 b.1,c f a.2 b.2]
  intro d d' h h';cases d <;> simp only[iT,Bool.false_eq_true]at h <;> cases d' <;> simp only[iT,Bool.false_eq_true]at h' <;> simp only[same,beq_iff_eq,PyData.int.injEq,PyData.list.injEq,PyData.tuple.injEq,reduceCtorEq,Bool.false_eq_true]
  ·exact all _ _ h h'
  ·exact all _ _ h h'
theorem aP{n:Nat}{d:PyData}(a:n<=64)(h:iT n d=true):SeqAt.shaped d=true:=by
 have:=iG n d h;unfold SeqAt.shaped;rw[zR];exact⟨this.1,zL ⋯⟩
section
variable {K:Frag} {H:Hp} {x y:V} {d d':PyData} {Q:VK}
theorem aQ(n:Nat)(f:n<=64)(g:Dt K H x d)(i:Dt K H y d')(c:iT n d=true)(a:iT n d'=true){b:Bool}(j:b=true↔d=d')(q:Q (.bl b) H):rEqD K x y H Q:=by
 refine⟨d,d',g,i,aP f c,aP f a,aN n d d' c a,?_⟩;have:=aO n d d' c a;have e:same d d'=b:=by
  cases hs:same d d' <;> cases b <;> simp_all
 rw[e];exact q
theorem cH(n:Nat)(f:n<=64)(g:Dt K H x d)(i:Dt K H y d')(c:iT n d=true)(a:iT n d'=true){b:Bool}(j:b=true↔d=d')(q:Q (.bl (!b)) H):rNeD K x y H Q:=by
 refine⟨d,d',g,i,aP f c,aP f a,aN n d d' c a,?_⟩;have:=aO n d d' c a;have e:same d d'=b:=by
  cases hs:same d d' <;> cases b <;> simp_all
 rw[e];exact q
end
def seqD(b:Bool)(ds:List PyData):PyData:=match b with|false=>.list ds|true=>.tuple ds
def jV(b:Bool)(ns:LI'):PyData:=seqD b (ns.map PyData.int)
def matD(b1 b2:Bool)(rows:List (LI')):PyData:=seqD b1 (rows.map (jV b2))
theorem Ho{b:Bool}{xs ys:List PyData}:seqD b xs=seqD b ys↔xs=ys:=by cases b <;> simp[seqD]
theorem Cn{b c:Type}{f:b->c}(a:∀x y,f x=f y->x=y):∀{xs ys:List b},xs.map f=ys.map f↔xs=ys
 |[],[]=>by simp
 |[],_:: _=>by simp
 |_:: _,[]=>by simp
 |x:: r,y:: d=>by
  rw[zK,zK,yL,yL,Cn a];exact⟨λh=>⟨a _ _ h.1,h.2⟩,λh=>⟨by rw[h.1],h.2⟩⟩
theorem aR{b:Bool}{ns ms:LI'}:jV b ns=jV b ms↔ns=ms:=by
 unfold jV;rw[Ho,Cn λx y h=>by injection h]
theorem Qh{b1 b2:Bool}{A B:List (LI')}:matD b1 b2 A=matD b1 b2 B↔A=B:=by
 unfold matD;rw[Ho,Cn λx y h=>aR.mp h]
theorem aS(b:Bool)(n:Nat)(ns:LI'):iT (n+1) (jV b ns)=true:=by
 have:(ns.map PyData.int).all (iT n)=true:=by
  rw[wR];intro d a;obtain⟨i,_,rfl⟩:=pS.mp a;cases n <;> rfl
 cases b <;> simpa [jV,seqD,iT]using this
theorem Dt.seqB{b:Bool}{K:Frag}{H:Hp}{a:Addr}{xs:List V}{ds:List PyData}(h:SqB b K H a xs)(c:Dts K H xs ds):Dt K H (.ref a) (seqD b ds):=by
 cases b
 ·exact .lst h c
 ·exact .tup h c
theorem Dt.intsB{b:Bool}{K:Frag}{H:Hp}{a:Addr}{ns:LI'}(h:SqB b K H a (ns.map V.int)):Dt K H (.ref a) (jV b ns):=Dt.seqB h (Dts.ints ns)
theorem Dt.matB{b1 b2:Bool}{K:Frag}{H:Hp}{a:Addr}{b:List (LI')}(h:MatB b1 b2 K H a b):Dt K H (.ref a) (matD b1 b2 b):=by
 obtain⟨ps,e,c,d⟩:=h;refine Dt.seqB e ?_;clear e
 induction ps generalizing b with
 |nil =>
  cases b with
  |nil=>exact .nil
  |cons r j=>simp at c
 | cons p ps f =>
  cases b with
  |nil=>simp at c
  |cons r j =>
   refine .cons (Dt.intsB (d 0 p r rfl rfl)) (f (by simpa using c) λi q z e1 g=>d (i+1) q z (by simpa using e1) (by simpa using g))
section
variable {wi:TI} {g:TG} {tt:TOx} {te:TE} {tc:TT} {n:Nat} {fr:List (Str×Nat)} {σ:St} {H:Hp} {Q:VK}
theorem nF(h:∀B:TE,B=te->wi σ H λc b=>∀a,b a=none->kB c g (tEl B) n fr σ a b Q):nW wi g (tEl te) n fr σ H Q:=h _ rfl
theorem Hn(h:∀(C:TT)(B:TE),C=tc->B=te->wi σ H λc b=>∀a,b a=none->kB c g (jU C B) n fr σ a b Q):nW wi g (jU tc te) n fr σ H Q:=h _ _ rfl rfl
end
def seqO(b:Bool)(xs:List V):HO:=match b with|false=>.lst xs|true=>.tup xs
def rSlB(K:Frag):V->Option Int->Option Int->Hp->VK->Prop:=λx lo hi H Q=>∃b a xs,x=.ref a/\SqB b K H a xs /\
 (b=true->¬ (HT.sIx xs.length 0 lo=0/\HT.sIx xs.length xs.length hi=xs.length))/\∀p,H p=none->Q (.ref p) (upd H p (seqO b (cutV xs lo hi)))
theorem sl_B{X:Cx}:SlR X (rSlB X.K):=by
 intro k s d H x v j l lo hi i Q I g m pl f h;obtain⟨b,a,xs,e,c,n,q⟩:=h;cases b
 ·exact Py k s d H x v j l lo hi i Q I g m pl f ⟨a,xs,e,c,q⟩
 ·exact Og k s d H x v j l lo hi i Q I g m pl f ⟨a,xs,e,c,n rfl,q⟩
def MatL(H:Hp)(a:Addr)(rows:List (LI')):Prop:=∃ps:LA,H a=some (.lst (ps.map V.ref))/\ps.length=rows.length/\∀(i:Nat)(p:Addr)(r:LI'),ps[i]?=some p->rows[i]?=some r->p≠a/\H p=some (.lst (r.map V.int))
theorem MatL.b{K:Frag}{H:Hp}{a:Addr}{b:List (LI')}(h:MatL H a b):MatB false false K H a b:=let ⟨ps,d,e,c⟩:=h;⟨ps,SqB.lst d,e,λi p r e1 f=>SqB.lst (c i p r e1 f).2⟩
theorem MatL.up{H H':Hp}{a:Addr}{c:List (LI')}(h:MatL H a c)(s:Same H H'):MatL H' a c:=let ⟨ps,e,f,b⟩:=h;⟨ps,s _ _ e,f,λi p r e1 d=>⟨(b i p r e1 d).1,s _ _ (b i p r e1 d).2⟩⟩
theorem MatL.of{H:Hp}{a:Addr}{f:Nat->LI'}{ys:List V}(h:H a=some (.lst ys))(hr:∀(j:Nat) y,ys[j]?=some y->RowR a f j y H):MatL H a ((List.range ys.length).map f):=by
 have g:∃ps:LA,ys=ps.map V.ref:=by
  clear h;have:∀(zs:List V)(k:Nat),(∀(j:Nat) y,zs[j]?=some y->RowR a f (j+k) y H)->∃ps:LA,zs=ps.map V.ref:=by
   intro zs
   induction zs with
   |nil=>intro k _;exact⟨[],rfl⟩
   | cons z r d =>
    intro k c;obtain⟨p,e,_⟩:=c 0 z rfl;obtain⟨ps,b⟩:=d (k+1) λj y q=>by
     have:=c (j+1) y (by simpa using q)
     rwa[sW,pF 1 k]at this
    exact⟨p:: ps,by rw[e,b];rfl⟩
  exact this ys 0 hr
 obtain⟨ps,rfl⟩:=g;refine⟨ps,h,by simp,λi p r e1 b=>?_⟩;obtain⟨l,e,n,q⟩:=hr i (.ref p) (by simp[e1]);cases e;have hi:i<ps.length:=(oF.mp e1).1;have:r=f i:=by
  rw[zD,yE,yP hi]at b;exact(zQ b).symm
 rw[this];exact⟨n,q⟩
theorem MatB.row{b1 b2:Bool}{K:Frag}{H:Hp}{a:Addr}{b:List (LI')}(h:MatB b1 b2 K H a b){i:Nat}{r:LI'}(e:b[i]?=some r):∃ps:LA,∃p,SqB b1 K H a (ps.map V.ref)/\(ps.map V.ref)[i]?=some (.ref p)/\(ps.map V.ref).length=b.length/\SqB b2 K H p (r.map V.int):=by
 obtain⟨ps,f,d,c⟩:=h;have hi:i<ps.length:=by have:=(oF.mp e).1;omega
 exact⟨ps,ps[i],f,by simp[hi],by simp[d],c i _ r (by simp[hi]) e⟩
theorem MatB.walk{b1 b2:Bool}{K:Frag}{H:Hp}{a:Addr}{b:List (LI')}(h:MatB b1 b2 K H a b):∃xs:List V,SqB b1 K H a xs/\xs.length=b.length/\∀(i:Nat) x,xs[i]?=some x->∃p r,x=.ref p/\b[i]?=some r/\SqB b2 K H p (r.map V.int):=by
 obtain⟨ps,d,f,c⟩:=h;refine⟨_,d,by simp[f],λi x e=>?_⟩;rw[zD]at e;cases q:ps[i]? with
 |none=>rw[q]at e;cases e
 |some p =>
  rw[q]at e;have hi:i<b.length:=by have:=(oF.mp q).1;omega
  exact⟨p,b[i],(zQ e).symm,by simp[hi],c i p _ q (by simp[hi])⟩
theorem lQ{a:Type}{xs:List a}{k:Nat}{x:a}{i:Int}(h:xs[k]?=some x)(hi:i=k):atI xs i=some x:=by
 subst hi;exact Of h
theorem mS{ns:LI'}{i:Nat}{x:V}(h:(ns.map V.int)[i]?=some x):∃n,ns[i]?=some n/\x=.int n:=by
 rw[zD]at h;cases e:ns[i]? with
 |none=>rw[e]at h;cases h
 |some n=>rw[e]at h;exact⟨n,rfl,(zQ h).symm⟩
theorem jJ{ns:LI'}{i:Nat}{n:Int}(h:ns[i]?=some n):(ns.map V.int)[i]?=some (.int n):=by rw[zD,h];rfl
theorem Qg{ns:LI'}{k:Nat}{n:Int}(h:ns[k]?=some n):ns.getD k 0=n:=by rw[tD,h];rfl
theorem getD_at{ns:LI'}{k:Nat}(h:k<ns.length):ns[k]?=some (ns.getD k 0):=by simp[h]
theorem getD_mem{ns:LI'}{k:Nat}(h:k<ns.length):ns.getD k 0∈ns:=by
 rw[show ns.getD k 0=ns[k] by simp[h]];exact xD h
def colI(k:Nat)(rows:List (LI')):LI':=rows.map λr=>r.getD k 0
def dotI(ms ns:LI'):Int:=(List.zipWith (·*·) ms ns).sum
def gH(w:Nat)(rows:List (LI')):List (LI'):=(List.range w).map λk=>colI k rows
def mulM(w:Nat)(A B:List (LI')):List (LI'):=A.map λr=>(List.range w).map λk=>dotI r (colI k B)
section
variable {K:Frag} {g:TG} {tb:TS} {σ:St} {H:Hp} {nx:St->Hp->Prop} {rt:VK}
abbrev aT(J:It)(g:TG)(tb:TS)(nx:St->Hp->Prop)(rt:VK)(σ:St)(H:Hp):Prop:=∃W:Nat->Nat->St->Hp->Prop,(∃m,W 0 m σ H)/\∀i m σ H,W i m σ H ->
 (J.stop i H/\nx σ H)\/(J.go i H/\∃N:St->Hp->Prop,(∀σ' H',N σ' H'->∃m',m'<m/\W (i+1) m' σ' H')/\∀x H',J.yld i H x H'->g x σ H' λσ2 H2=>tb {nx:=N,rt:=rt,bk:=nx,ct:=N} σ2 H2)
theorem Hm{lo:Int}{n:Nat}(a:Nat->St->Hp->Prop)(c:a 0 σ H)
  (f:∀i σ H,i<n->a i σ H->g (.int (lo+i)) σ H λb e=>tb {nx:=a (i+1),rt:=rt,bk:=nx,ct:=a (i+1)} b e)(d:∀σ H,a n σ H->nx σ H):aT (Itr lo n) g tb nx rt σ H:=
 Nf (D:={nx:=nx,rt:=rt,bk:=nx,ct:=nx}) a c f d
theorem kZ{b:Bool}{a:Addr}{xs:List V}(c:Nat->St->Hp->Prop)(e:c 0 σ H)(hl:∀i σ H,i<=xs.length->c i σ H->SqB b K H a xs)
  (k:∀i x σ H,xs[i]?=some x->c i σ H->g x σ H λd j=>tb {nx:=c (i+1),rt:=rt,bk:=nx,ct:=c (i+1)} d j)(f:∀σ H,c xs.length σ H->nx σ H):aT (Its K b a) g tb nx rt σ H:=
 Qk (D:={nx:=nx,rt:=rt,bk:=nx,ct:=nx}) c e hl k f
theorem aU{b:Bool}{a:Addr}{xs:List V}(c:Nat->St->Hp->Prop)(e:c 0 σ H)(hl:∀i σ H,i<=xs.length->c i σ H->SqB b K H a xs)
  (k:∀i x p σ H,xs[i]?=some x->c i σ H->H p=none->g (.ref p) σ (upd H p (.tup [.int i,x])) λd j=>tb {nx:=c (i+1),rt:=rt,bk:=nx,ct:=c (i+1)} d j)(f:∀σ H,c xs.length σ H->nx σ H):aT (Ite K b a) g tb nx rt σ H:=
 Qj (D:={nx:=nx,rt:=rt,bk:=nx,ct:=nx}) c e hl k f
end
theorem aV{b1 b2:Bool}{K:Frag}{H:Hp}{a:Addr}{b:List (LI')}{i k:Nat}{r:LI'}{x:Int}{I c:Int}{Q:VK}(h:MatB b1 b2 K H a b)(e:b[i]?=some r)(f:r[k]?=some x)(hi:I=i)(d:c=k)(q:Q (.int x) H):
  rIxB K (.ref a) (.int I) H λv g=>rIxB K v (.int c) g Q:=by
 obtain⟨ps,p,k1,k2,k3,j⟩:=h.row e;exact⟨b1,a,_,_,_,rfl,rfl,k1,lQ k2 hi,b2,p,_,_,_,rfl,rfl,j,lQ (jJ f) d,q⟩
theorem Qf{b1 b2:Bool}{K:Frag}{H:Hp}{a:Addr}{b:List (LI')}{i:Nat}{r:LI'}{I:Int}{Q:VK}(h:MatB b1 b2 K H a b)(e:b[i]?=some r)(hi:I=i)(q:∀p,SqB b2 K H p (r.map V.int)->Q (.ref p) H):
  rIxB K (.ref a) (.int I) H Q:=by
 obtain⟨ps,p,k1,k2,k3,c⟩:=h.row e;exact⟨b1,a,_,_,_,rfl,rfl,k1,lQ k2 hi,q p c⟩
theorem iH{b1 b2:Bool}{K:Frag}{H:Hp}{a:Addr}{b:List (LI')}{Q:VK}(h:MatB b1 b2 K H a b)(q:Q (.int b.length) H):kY K [.ref a] H Q:=by
 obtain⟨ps,d,c,e⟩:=h;refine⟨b1,a,_,rfl,d,?_⟩;rw[yE,c];exact q
theorem kM{b:Bool}{K:Frag}{H:Hp}{a:Addr}{ns:LI'}{Q:VK}(h:SqB b K H a (ns.map V.int))(q:Q (.int ns.length) H):kY K [.ref a] H Q:=by
 refine⟨b,a,_,rfl,h,?_⟩;rw[yE];exact q
def Itq(lo st:Int)(n:Nat):It:=⟨λi _=>i<n,λi H x H'=>H'=H/\x=.int (lo+i*st),λi _=>n<=i⟩
section
variable {g:TG} {tb:TS} {σ:St} {H:Hp} {nx:St->Hp->Prop} {rt:VK}
theorem fr_step{lo st:Int}{n:Nat}(a:Nat->St->Hp->Prop)(f:a 0 σ H)
  (l:∀i σ H,i<n->a i σ H->g (.int (lo+i*st)) σ H λd k=>tb {nx:=a (i+1),rt:=rt,bk:=nx,ct:=a (i+1)} d k)(j:∀σ H,a n σ H->nx σ H):aT (Itq lo st n) g tb nx rt σ H:=by
 refine⟨λi m σ H=>m=n-i/\i<=n/\a i σ H,⟨n,by simp,yR _,f⟩,?_⟩;rintro i m σ H ⟨rfl,hi,p⟩
 by_cases b:i<n
 ·refine .inr ⟨b,a (i+1),λo H' c=>⟨n-(i+1),⋯,rfl,b,c⟩,λx H' y=>?_⟩;obtain⟨e,y⟩:=y;subst e y;exact l i σ _ b p
 ·have e:i=n:=⋯
  subst e;exact .inl ⟨zE _,j σ H p⟩
end
def kN(a:Addr)(H:Hp)(zs:List V)(M:List (LI')):Prop:=∃ps:LA,zs=ps.map V.ref/\ps.length=M.length/\∀(j:Nat)(p:Addr)(r:LI'),ps[j]?=some p->M[j]?=some r->p≠a/\H p=some (.lst (r.map V.int))
theorem kN.nil{a:Addr}{H:Hp}:kN a H [] []:=⟨[],rfl,rfl,λj p r e=>by simp at e⟩
theorem kN.len{a:Addr}{H:Hp}{zs:List V}{M:List (LI')}(h:kN a H zs M):zs.length=M.length:=let ⟨ps,e,l,_⟩:=h;by rw[e,yE,l]
theorem kN.mono{a:Addr}{H H':Hp}{zs:List V}{M:List (LI')}(h:kN a H zs M)(s:jI a H H'):kN a H' zs M:=let ⟨ps,e,l,q⟩:=h;⟨ps,e,l,λj p r e1 b=>⟨(q j p r e1 b).1,s _ _ (q j p r e1 b).1 (q j p r e1 b).2⟩⟩
theorem kN.snoc{a p:Addr}{H:Hp}{zs:List V}{M:List (LI')}{r:LI'}(h:kN a H zs M)(e:p≠a)(f:H p=some (.lst (r.map V.int))):kN a H (zs++[.ref p]) (M++[r]):=by
 obtain⟨ps,rfl,c,d⟩:=h;refine⟨ps++[p],by simp,by simp[c],λi q z e1 b=>?_⟩
 by_cases hi:i<ps.length
 ·rw[yT hi]at e1;rw[yT ⋯]at b;exact d i q z e1 b
 ·have g:i=ps.length:=by
   have:=(oF.mp e1).1;simp at this;omega
  subst g;rw[yG (zE _)]at e1;rw[c,yG (zE _)]at b;simp at e1 b;subst e1 b;exact⟨e,f⟩
theorem kN.mat{a:Addr}{H:Hp}{zs:List V}{M:List (LI')}(h:H a=some (.lst zs))(r:kN a H zs M):MatL H a M:=by
 obtain⟨ps,rfl,c,b⟩:=r;exact⟨ps,h,c,b⟩
theorem eJ(ns:LI')(lo hi:Option Int):cutV (ns.map V.int) lo hi=((ns.drop (HT.sIx ns.length 0 lo)).take (HT.sIx ns.length ns.length hi-HT.sIx ns.length 0 lo)).map V.int:=by
 unfold cutV;rw[yE,List.map_take,List.map_drop]
theorem Qe{ns:LI'}{k:Nat}(h:k<=ns.length):cutV (ns.map V.int) none (some (k:Int))=(ns.take k).map V.int:=by
 rw[eJ,HT.sIx_none,HT.sIx_nat,Nat.min_eq_left h];simp
theorem Qd{ns:LI'}{k:Nat}(h:k<=ns.length):cutV (ns.map V.int) (some (k:Int)) none=(ns.drop k).map V.int:=by
 rw[eJ,HT.sIx_none,HT.sIx_nat,Nat.min_eq_left h,xY (by simp)]
section
variable {K:Frag} {H:Hp} {a a1:Addr} {M:List (LI')} {σ:St} {Q:VK} {b1 b2:Bool}
def MatT(H:Hp)(a:Addr)(rows:List (LI')):Prop:=∃ps:LA,H a=some (.lst (ps.map V.ref))/\ps.length=rows.length/\∀(i:Nat)(p:Addr)(r:LI'),ps[i]?=some p->rows[i]?=some r->H p=some (.tup (r.map V.int))
theorem Qb(I:MatB b1 false K H a M)(hl:M.length<=1000)(u:H a1=none)(J:∀b,Same H b->MatT b a1 M->Q (.ref a1) b):kB (Its K b1 a) (oU 0) (tEl (tCB (gG K) (oV (tVar 0) tNil))) 1 [] σ a1 H Q:=by
 obtain⟨xs,F,U,P⟩:=I.walk;refine nO (λj y b=>∃p r,y=.ref p/\M[j]?=some r/\p≠a1/\b p=some (.tup (r.map V.int))) u F ⋯ (λi y b W⟨p,r,e1,c,d,g⟩s=>⟨p,r,e1,c,d,s _ _ d g⟩) ?_ ?_
 ·intro i x b zs w f N T v;obtain⟨p,r,rfl,L,G⟩:=P i x w;exact⟨_,rfl,p,_,rfl,.inl ⟨G.up f,λl o=>v _ _ (Same.new o) ⟨l,r,rfl,L,yA (mE N o),oQ⟩⟩⟩
 ·intro b ys f e1 m n;have C:∃ps:LA,ys=ps.map V.ref:=by
   clear e1 m;have:∀(zs:List V),(∀(j:Nat) y,zs[j]?=some y->∃p:Addr,y=.ref p)->∃ps:LA,zs=ps.map V.ref:=by
    intro zs
    induction zs with
    |nil=>intro _;exact⟨[],rfl⟩
    |cons z r D =>
     intro k;obtain⟨p,e⟩:=k 0 z rfl;obtain⟨ps,c⟩:=D λj y q=>k (j+1) y (by simpa using q);exact⟨p:: ps,by rw[e,c];rfl⟩
   exact this ys λj y e=>let ⟨p,r,e1,_⟩:=n j y e;⟨p,e1⟩
  obtain⟨ps,rfl⟩:=C;refine J b f ⟨ps,e1,by simp at m;omega,λi p r c d=>?_⟩;obtain⟨R,S,g,t,_,O⟩:=n i (.ref p) (by simp[c]);cases g;rw[d]at t;cases t;exact O
theorem MatT.tuple{l:Addr}(h:MatT H a M)(hl:H l=none):∃zs,H a=some (.lst zs)/\MatB true true K (upd H l (.tup zs)) l M:=by
 obtain⟨ps,e,d,c⟩:=h;exact⟨_,e,ps,SqB.tup oQ,d,λi p r e1 b=>SqB.tup (Same.new hl _ _ (c i p r e1 b))⟩
end
theorem Qa{X:Cx}{x:Str}{v:V}{b:Pos}(c:Gl X x)(h:∃u,X.mg x=some u/\RelV v u)(a:(x == ("__debug__" :Str))=false:=by decide):PE X (.Name x b) (tC v):=by
 obtain⟨u,e,r⟩:=h;exact Nu c e r a
def MkI(te:TE)(n:Int):Prop:=∀σ H Q,Q (.int n) H->te σ H Q
def MkIs(ta:TA)(ns:LI'):Prop:=∀σ H Q,Q (ns.map V.int) H->ta σ H Q
def MkR(te:TE)(ns:LI'):Prop:=∀σ H Q,(∀p H',Same H H'->H p=none->H' p=some (.lst (ns.map V.int))->Q (.ref p) H')->te σ H Q
theorem MkR.of{ta:TA}{ns:LI'}(h:MkIs ta ns)(a:ns.length<=1000):MkR (tLst ta) ns:=λb H Q q=>h b H _ ⟨by rw[yE];exact wA (cC a),λl hl=>q l _ (Same.new hl) hl oQ⟩
def MkRs(ta:TA)(M:List (LI')):Prop:=∀σ H Q,(∀ps H',Same H H'->RefRowsN H H' ps M->Q (ps.map V.ref) H')->ta σ H Q
where RefRowsN (H H':Hp) (ps:LA) (M:List (LI')):Prop:=ps.length=M.length/\∀(j:Nat)(p:Addr)(r:LI'),ps[j]?=some p->M[j]?=some r->H' p=some (.lst (r.map V.int))
theorem MkRs.nil:MkRs tNil []:=λ_ H Q q=>q [] H (Same.refl _) ⟨rfl,λj p r e=>by simp at e⟩
theorem MkRs.cons{te:TE}{ta:TA}{ns:LI'}{M:List (LI')}(h:MkR te ns)(g:MkRs ta M):MkRs (oV te ta) (ns:: M):=λb H Q q=>h b H _ λp i f m e1=>g b i _ λps l c r=>q (p:: ps) l (f.trans c) ⟨by simp[r.1],λj d k e a=>by
 cases j with
 |zero=>simp at e a;subst e a;exact c _ _ e1
 |succ j=>exact r.2 j d k (by simpa using e) (by simpa using a)⟩
def MkM(te:TE)(M:List (LI')):Prop:=∀σ H Q,(∀p H',Same H H'->H p=none->MatL H' p M->Q (.ref p) H')->te σ H Q
theorem MkM.of{ta:TA}{M:List (LI')}(h:MkRs ta M)(f:M.length<=1000):MkM (tLst ta) M:=λc H Q q=>h c H _ λps g a r=>⟨by rw[yE,r.1];exact wA (cC f),λl hl=>by
 have d:H l=none:=by cases e:H l with|none=>rfl|some o=>rw[a _ _ e]at hl;cases hl
 exact q l _ (a.trans (Same.new hl)) d ⟨ps,oQ,r.1,λi p z e1 b=>⟨mE (r.2 i p z e1 b) hl,Same.new hl _ _ (r.2 i p z e1 b)⟩⟩⟩
def Mats(H:Hp)(p:Addr)(Ms:List (List (LI'))):Prop:=∃ps:LA,H p=some (.lst (ps.map V.ref))/\ps.length=Ms.length/\∀(i:Nat)(q:Addr)(M:List (LI')),ps[i]?=some q->Ms[i]?=some M->MatL H q M
theorem Mats.up{H H':Hp}{p:Addr}{a:List (List (LI'))}(h:Mats H p a)(s:Same H H'):Mats H' p a:=let ⟨ps,c,d,b⟩:=h;⟨ps,s _ _ c,d,λi q M e1 e=>(b i q M e1 e).up s⟩
def MkMs(ta:TA)(Ms:List (List (LI'))):Prop:=∀σ H Q,(∀(ps:LA) H',Same H H'->ps.length=Ms.length->(∀(i:Nat)(q:Addr)(M:List (LI')),ps[i]?=some q->Ms[i]?=some M->MatL H' q M)->Q (ps.map V.ref) H')->ta σ H Q
theorem MkMs.nil:MkMs tNil []:=λ_ H Q q=>q [] H (Same.refl _) rfl λj p r e=>by simp at e
theorem MkMs.cons{te:TE}{ta:TA}{M:List (LI')}{c:List (List (LI'))}(h:MkM te M)(i:MkMs ta c):MkMs (oV te ta) (M:: c):=λb H Q q=>h b H _ λp k g _ e1=>i b k _ λps n d l r=>q (p:: ps) n (g.trans d) (by simp[l]) λj f m e a=>by
 cases j with
 |zero=>simp at e a;subst e a;exact e1.up d
 |succ j=>exact r j f m (by simpa using e) (by simpa using a)
theorem MkMs.lst{ta:TA}{b:List (List (LI'))}(h:MkMs ta b)(g:b.length<=1000){d:St}{H:Hp}{Q:VK}(q:∀p H',Same H H'->Mats H' p b->Q (.ref p) H'):tLst ta d H Q:=h d H _ λps j e l r=>⟨by rw[yE,l];exact wA (cC g),λa c =>
 q a _ (e.trans (Same.new c)) ⟨ps,oQ,l,λi q M e1 f=>(r i q M e1 f).up (Same.new c)⟩⟩
theorem Mats.at{K:Frag}{H:Hp}{p:Addr}{a:List (List (LI'))}{i:Nat}{M:List (LI')}{I:Int}{Q:VK}(h:Mats H p a)(e:a[i]?=some M)(hi:I=i)(k:∀q,MatL H q M->Q (.ref q) H):rIxB K (.ref p) (.int I) H Q:=by
 obtain⟨ps,d,f,c⟩:=h;have b:i<ps.length:=by have:=(oF.mp e).1;omega
 exact⟨false,p,_,_,_,rfl,rfl,SqB.lst d,lQ (show(ps.map V.ref)[i]?=some (.ref ps[i]) by simp[b]) hi,k _ (c i _ M (by simp[b]) e)⟩
def MatD(H0 H:Hp)(a:Addr)(rows:List (LI')):Prop:=∃ps:LA,H a=some (.lst (ps.map V.ref))/\ps.length=rows.length/\ps.Nodup/\∀(i:Nat)(p:Addr)(r:LI'),ps[i]?=some p->rows[i]?=some r->p≠a/\H0 p=none/\H p=some (.lst (r.map V.int))
theorem MatD.l{g H:Hp}{a:Addr}{c:List (LI')}(h:MatD g H a c):MatL H a c:=let ⟨ps,e,f,_,b⟩:=h;⟨ps,e,f,λi p r e1 d=>⟨(b i p r e1 d).1,(b i p r e1 d).2.2⟩⟩
section
variable {K:Frag} {H:Hp} {a a1:Addr} {M:List (LI')} {σ:St} {Q:VK} {b1 b2:Bool}
theorem Rz(W:MatB b1 b2 K H a M)(hl:M.length<=1000)(G:H a1=none)(X:∀b,Same H b->MatD H b a1 M->Q (.ref a1) b):kB (Its K b1 a) (oU 0) (tEl (tCB (cG K) (oV (tVar 0) tNil))) 1 [] σ a1 H Q:=by
 obtain⟨xs,y,a5,a4⟩:=W.walk;refine aL xs.length (λa2 zs b=>∃ps:LA,zs=ps.map V.ref/\ps.length=a2/\ps.Nodup/\∀(j:Nat)(p:Addr)(r:LI'),ps[j]?=some p->M[j]?=some r->p≠a1/\H p=none/\b p=some (.lst (r.map V.int))) G ⋯ ⟨[],rfl,rfl,sG,λj p r e=>by simp at e⟩
  (λi zs b⟨ps,e,l,_⟩=>by rw[e,yE,l];exact zE _) (λi zs b a7⟨ps,e,l,n,q⟩s=>⟨ps,e,l,n,λj p r e1 d=>⟨(q j p r e1 d).1,(q j p r e1 d).2.1,s _ _ (q j p r e1 d).1 (q j p r e1 d).2.2⟩⟩)
  (λi b hi s=>Its.go (y.up s) (x:=xs[i]) (by simp[hi])) (λb s=>Its.stop (y.up s) (zE _)) ?_ ?_
 ·rintro i b zs hi g Z ⟨ps,rfl,m,u,k⟩ ys x a6 P I C L _;obtain⟨e1,d⟩:=Its.yld (y.up g) I;subst e1;obtain⟨p,r,rfl,Y,U⟩:=a4 i x d
  match ys,P with
  | [o],_ =>
   refine⟨⟨[some (.ref p)],rfl,rfl⟩,_,rfl,b2,p,_,rfl,U.up g,λl f=>L _ _ (Same.new f) ⟨ps++[l],by simp,by simp[m],?_,λj F N c t=>?_⟩⟩
   ·rw[List.nodup_append];refine⟨u,by simp,λz J w R=>?_⟩;rw[pY.mp R];obtain⟨j,D,v⟩:=wM J;have S:j<M.length:=⋯
    exact mE (k j z M[j] (by simp[D,v]) (by simp[S])).2.2 f
   ·by_cases D:j<ps.length
    ·rw[yT D]at c;obtain⟨a0,O,a3⟩:=k j F N c t;exact⟨a0,O,Same.new f _ _ a3⟩
    ·have v:j=ps.length:=by have:=(oF.mp c).1;simp at this;omega
     subst v;rw[yG (zE _)]at c;simp at c;subst c;rw[m,Y]at t;cases t;have T:H l=none:=by cases w:H l with|none=>rfl|some o=>rw[g _ _ w]at f;cases f
     exact⟨yA (mE Z f),T,oQ⟩
 ·rintro b ys g e1 ⟨ps,rfl,m,u,k⟩;exact X b g ⟨ps,e1,⋯,u,k⟩
end
def litI:Expr->Option Int
 |.Constant (.int i) _ _=>some i
 |.UnaryOp .USub (.Constant (.int i) _ _) _=>some (-i)
 |_=>none
def aW:List Expr->Option (LI')
 |[]=>some []
 |e:: es=>match litI e,aW es with|some n,some ns=>some (n:: ns)|_,_=>none
def litR:Expr->Option (LI')
 |.List es _=>aW es
 |_=>none
def aX:List Expr->Option (List (LI'))
 |[]=>some []
 |e:: es=>match litR e,aX es with|some n,some ns=>some (n:: ns)|_,_=>none
def litM:Expr->Option (List (LI'))
 |.List es _=>aX es
 |_=>none
def aY:List Expr->Option (List (List (LI')))
 |[]=>some []
 |e:: es=>match litM e,aY es with|some n,some ns=>some (n:: ns)|_,_=>none
def Cm:Expr->Option (List (List (LI')))
 |.List es _=>aY es
 |_=>none
section
variable {X:Cx}
theorem PE.weak{e:Expr}{b u:TE}(h:PE X e b)(w:∀a H Q,u a H Q->b a H Q):PE X e u:=λc s a H Q I q=>h c s a H Q I (w a H Q q)
theorem PA.weak{es:List Expr}{b u:TA}(h:PA X es b)(w:∀a H Q,u a H Q->b a H Q):PA X es u:=λc d s a H Q I q=>h c d s a H Q I (w a H Q q)
theorem Hl{e:Expr}{n:Int}(h:litI e=some n):PE X e (tC (.int n))/\∀es,starEach (e:: es) X.env=(false,eval e X.env):: starEach es X.env:=by
 unfold litI at h;split at h
 ·cases h;exact⟨oW,λ_=>rfl⟩
 ·cases h;exact⟨(fA fC oW).weak λa H Q q=>⟨_,rfl,q⟩,λ_=>rfl⟩
 ·cases h
theorem Hk:∀{es:List Expr}{ns:LI'},aW es=some ns->PA X es λ_ H Q=>Q (ns.map V.int) H
 |[],ns,h=>by cases h;exact oM
 |e:: es,ns,h=>by
  unfold aW at h;split at h
  ·rename_i n ms e1 a;cases h;exact(oK (Hl e1).1 (Hk a) ((Hl e1).2 es)).weak λb H Q q=>q
  ·cases h
def Hj(ns:LI'):TE:=λ_ H Q=>∀p H',Same H H'->H p=none->H' p=some (.lst (ns.map V.int))->Q (.ref p) H'
def Hi(M:List (LI')):TE:=λ_ H Q=>∀p H',Same H H'->H p=none->MatL H' p M->Q (.ref p) H'
def Hh(Ms:List (List (LI'))):TE:=λ_ H Q=>∀p H',Same H H'->Mats H' p Ms->Q (.ref p) H'
theorem Ry{e:Expr}{ns:LI'}(h:litR e=some ns)(a:ns.length<=1000):PE X e (Hj ns)/\∀es,starEach (e:: es) X.env=(false,eval e X.env):: starEach es X.env:=by
 unfold litR at h;split at h
 ·refine⟨(lO (Hk h)).weak λb H Q q=>MkR.of (ta:=λ_ H Q=>Q (ns.map V.int) H) (λ_ _ _ q=>q) a b H Q q,λ_=>rfl⟩
 ·cases h
theorem Hg:∀{es:List Expr}{M:List (LI')},aX es=some M->(∀r∈M,r.length<=1000)->∃ta,PA X es ta/\MkRs ta M
 |[],ns,h,_=>by cases h;exact⟨_,oM,MkRs.nil⟩
 |e:: es,ns,h,b=>by
  unfold aX at h;split at h
  ·rename_i n ms e1 f;cases h;have a:=Ry (X:=X) e1 (b n zU);obtain⟨ta,d,c⟩:=Hg f λr hr=>b r (zM _ hr);exact⟨_,oK a.1 d (a.2 es),MkRs.cons (te:=Hj n) (λg H Q q=>q) c⟩
  ·cases h
theorem Rx{e:Expr}{M:List (LI')}(h:litM e=some M)(a:M.length<=1000/\∀r∈M,r.length<=1000):PE X e (Hi M)/\∀es,starEach (e:: es) X.env=(false,eval e X.env):: starEach es X.env:=by
 unfold litM at h;split at h
 ·obtain⟨ta,d,c⟩:=Hg (X:=X) h a.2;exact⟨(lO d).weak λb H Q q=>MkM.of c a.1 b H Q q,λ_=>rfl⟩
 ·cases h
theorem Hf:∀{es:List Expr}{a:List (List (LI'))},aY es=some a->(∀M∈a,M.length<=1000/\∀r∈M,r.length<=1000)->∃ta,PA X es ta/\MkMs ta a
 |[],ns,h,_=>by cases h;exact⟨_,oM,MkMs.nil⟩
 |e:: es,ns,h,c=>by
  unfold aY at h;split at h
  ·rename_i n ms e1 g;cases h;have b:=Rx (X:=X) e1 (c n zU);obtain⟨ta,f,d⟩:=Hf g λr hr=>c r (zM _ hr);exact⟨_,oK b.1 f (b.2 es),MkMs.cons (te:=Hi n) (λi H Q q=>q) d⟩
  ·cases h
theorem Rw{e:Expr}{a:List (List (LI'))}(h:(decide (Cm e=some a) && decide (a.length<=1000/\∀M∈a,M.length<=1000/\∀r∈M,r.length<=1000))=true):PE X e (Hh a):=by
 simp only[Bool.and_eq_true,decide_eq_true_eq]at h;obtain⟨h,f,c⟩:=h;unfold Cm at h;split at h
 ·obtain⟨ta,b,d⟩:=Hf (X:=X) h c;exact(lO b).weak λg H Q q=>MkMs.lst d f q
 ·cases h
end
def Rv(Ms:List (List (LI'))):Bool:=decide (Ms.length<=1000/\∀M∈Ms,M.length<=1000/\∀r∈M,r.length<=1000)
def isList:Expr->Bool
 |.List _ _=>true
 |_=>false
section
variable {X:Cx}
theorem He:∀{bs:List Bool}{its:LW},Vals (bs.map V.bl) its->∀(i:Nat)(v:Value),its[i]?=some v->∃b,bs[i]?=some b/\v=.bool b
 |[],_,.nil,i,v,e=>by simp at e
 |b:: r,_,.cons h q,i,v,e=>by
  cases i with
  |zero=>simp at e;subst e;exact⟨b,rfl,h⟩
  |succ i=>simpa using He (bs:=r) q i v (by simpa using e)
theorem Hd:∀bs:List Bool,((List.range bs.length).any λi=>(bs[i]?).getD false)=bs.any id
 |[]=>rfl
 |b:: bs=>by
  have a:=Hd bs;rw[zW,List.range_succ_eq_map,tF,tF,List.any_map];show(b || _)=(b || _);congr 1
theorem aZ(n:X.calm=true):lZ X (.builtin "any") (λxs H Q=>∃(p:Addr)(bs:List Bool),xs=[.ref p]/\SqL X.K H p (bs.map V.bl)/\Q (.bl (bs.any id)) H):=by
 intro w s t H xs us Q I r h;obtain⟨p,bs,rfl,f,q⟩:=h;obtain⟨u,rfl,j⟩:=jF r;cases j;obtain⟨its,c,pl,y⟩:=I.list f;have hl:s.heap.IsList p its.toArray:=pl.isList;have m:p<s.heap.objs.size:=by obtain⟨_,e,_⟩:=hl;exact zP e
 have g:its.toArray.size=bs.length:=by
  have:=c.length;simpa using this.symm
 refine call_any_walk (sK hl ?_);refine⟨s.heap.objs.size,[s.heap.objs.size,p],[s.heap.objs.size],its.toArray.size,_,_,λi=>(bs[i]?).getD false,rfl,Walks.list (A:=X.A.in1) (I.ok.hd n) _ p (zY m) its.toArray,
  ⟨⟨_,zT _ rfl,rfl,rfl⟩,hl.push _⟩,λi v s' o z k a=>?_,λh' tk d=>?_⟩
 ·obtain⟨b,e,rfl⟩:=He c i v (by simpa using k);simp only[e,Option.getD_some]at a;exact uO a
 ·rw[g,Hd bs];refine⟨.bl (bs.any id),H,I.kept (t':=tk) λb x e=>d b x (λl=>by rw[pY.mp l]at e;exact xA _ (zP e)) (zC _ e),rfl,q⟩
end
section
variable {prog:Program} {w:World} {A:Around} {E:VP} {s:Shared}
set_option maxRecDepth 100000 in
end
def Hc(K:Frag)(C0:Addr)(tb:XE->TS)(ts:TS):TS:=λD σ H =>
 tb (λσ' C H'=>PySem.W.exmOne K C (.ref C0)=some true/\ts D σ' H') D σ H
section
variable {X:Cx} {C0:Addr} {x:Str} {np hpos pos:Pos} {body suite:List Stmt} {b₀:Stmt} {tb:XE->TS} {ts:TS}
theorem SP.offsuite{c:PN}{D:Ends}{f:Flow}{s:Shared}{e:Addr}(ok:X.Ok)(h:SP (X.suite e) c D f s):SP X c D f s:=by
 cases f with
 |next=>obtain⟨a,H',b,q⟩:=h;exact⟨a,H',b.offsuite ok,q⟩
 |brk=>obtain⟨a,H',b,q⟩:=h;exact⟨a,H',b.offsuite ok,q⟩
 |cont=>obtain⟨a,H',b,q⟩:=h;exact⟨a,H',b.offsuite ok,q⟩
 |ret u=>obtain⟨v,a,H',b,r,q⟩:=h;exact⟨v,a,H',b.offsuite ok,r,q⟩
theorem Ru(d:X.stack=X.env:: X.outer)(k:X.env.frame=some X.env.locals)(o:X.ex=[])
  (Y:Gl X x)(O:X.mg x=some (.ref C0))(R:∀y E l,aF (X.body y E) l->PSs (X.body y E) body (tb l))(P:∀e,PSs (X.suite e) (b₀:: suite) ts)
  (a5:(x == ("__debug__" :Str))=false:=by decide):PS X (.Try body [.ExceptHandler (some (.Name x np)) none (b₀:: suite) hpos] [] [] pos) (Hc X.K C0 tb ts):=by
 intro a s V H D I h;refine wpAny_Try_except (xG (R (X.pn++a) (λj G=>wpAny (model X.prog X.w) X.A (noteFrame j X.env) (λ_ K=>wpAny (model X.prog X.w) X.A (setFlight j none) (λ_ a7 =>
  wpAny (model X.prog X.w) X.A (handleBy j X.env [.ExceptHandler (some (.Name x np)) none (b₀:: suite) hpos]) (SP X a D) X.xe a7) X.xe K) X.xe G) _ ?_ [] s V H D I.intry h) (λf b q=>?_) λ_ _ q=>q)
 ·intro b3 c H' b e C a3 F a1;obtain⟨a8,L⟩:=a1;have v:Inv X a c H' b:=a3.offtry;obtain⟨B,U,fl,n,a6⟩:=F;have J:Heap.FlyingW B (X.env:: X.outer) e C U b.heap:=d ▸ fl;have a0:X.A.frames=some (X.env:: X.outer):=I.ok.frames.trans (by rw[d]);have t:∀p∈X.pn++a,B.get? p.1=some p.2:=λp W=>a6 p (xN _ W);refine wpAny_looks_onW a0 k J λb0 a9 w=>?_;refine wpAny_landsW a9 λg i m=>?_;have r:Inv X a c H' {b with heap:=g}:=v.flown d k o i.1 (w.trans m) n t;have M:Inv (X.suite e) a c H' {b with heap:=g}:=r.insuite;obtain⟨b1,N,Z⟩:=i.there;refine wpAny_handleBy_cons (codeAny_handlers_test (fZ (X:=X.suite e) M Y O ?_ a5)) (by intro q;cases q);have a4:PySem.W.Looks (model X.prog X.w) g (typeOf (.ref e)) C:=by
   rw[←Z];exact(qL N).andThen .now
  refine(PySem.W.exm_one r.kIn a4 a8).here ?_;show codeAny _ _ _ _ _;refine codeAny_handlers_suite ?_;refine lands_againW i λz S a2=>?_;have T:Inv X a c H' {b with heap:=z}:=v.flown d k o S.1 ((w.trans m).trans a2) n t;refine xG (P e a _ _ _ _ T.insuite L) (λf b2 q=>?_) λ_ _ q=>q.elim;exact SP.offsuite I.ok q
 ·cases f with
  |next=>exact tP (SP.offtry q)
  |brk=>exact SP.offtry q
  |cont=>exact SP.offtry q
  |ret u=>exact SP.offtry q
end
open Builtin Builtin.Str
def qVar(i:Nat):TE:=λσ H Q=>match σ[i]? with
 |some (some v)=>Q v H
 |_=>False
theorem Rt{i:Nat}{a:St}{H:Hp}{Q:VK}(h:qVar i a H Q):tVar i a H Q:=by
 unfold qVar at h;split at h
 ·next v e=>exact⟨v,e,h⟩
 ·exact h.elim
theorem pq{X:Cx}(i:Nat){x:Str}{c:Pos}(d:X.N[i]?=some x:=by rfl)(g:Vis X.env.scope x:=by first|exact Or.inl rfl|exact Or.inr (Or.inl rfl)|exact Or.inr (Or.inr rfl))(f:(x == ("__debug__" :Str))=false:=by decide)
  (e:(x == ("__classdict__" :Str))=false:=by decide):PE X (.Name x c) (qVar i):=λb s a H Q I q=>pv i d g f e b s a H Q I (Rt q)
section
variable {X:Cx} {e:Expr} {ta:TE} {pos p p':Pos} {i:Int} {j:Nat}
theorem oT(a:PE X e ta):PE X (e.Subscript (.Constant (.int i) j p') pos) (tOp (rIxB X.K) ta (tC (.int i))):=mI ix_B a oW (λ_ _=>rfl)
theorem nQ(m:X.mg "len"=none)(a:PE X e ta)(g:Gl X "len" := by rfl)(b:starEach [e] X.env=(false,eval e X.env):: starEach [] X.env:=by rfl):PE X (.Call (.Name "len" p) [e] [] pos) (tCB (kY X.K) (oV ta tNil)):=mV Ql g m (nofun) (oK a oM b) ∅ ∅ b rfl
end
section
variable {X:Cx} {sc scope:Scope} {fr:List (Str×Nat)} {x:Str} {px:Pos} {iter elt:Expr} {wi:TI} {te:TE} {N:List Str}
theorem nR{m:Pos}(j:X.env.scope=sc)(l:X.N=N)(g:aI sc N scope fr=true)(n:X.calm=true)(i:aJ (jN sc scope) ([x]++fr.map (·.1)) 0 x=true)(hi:PI X (.Name x px) iter wi)
  (k:∀(f:Shared)(c:Hp)(e:LA),(mQ X scope ([x]++fr.map (·.1)) f c e).env.scope=jN sc scope->PE (mQ X scope ([x]++fr.map (·.1)) f c e) elt te)(o:∀x,foldedSetIterable iter X.env x=pure x:=by intro _;rfl):PE X (.ListComp elt [⟨.Name x px,iter,[],0⟩] scope m) (nW wi (oU 0) (tEl te) 1 fr):=
 kU (xs:=[x]) (lD j l g) n hi (λ_ _ _ h=>kX (i:=0) h rfl i) (λa b d h=>lP (k a b d h)) (yR _) o
theorem iX{g c e:Pos}{y:Str}{i:Nat}(n:X.env.scope=sc)(q:X.N=N)(m:aI sc N scope fr=true)(u:X.calm=true)(t:X.N.Nodup)(o:X.N[i]?=some y)(hl:X.env.scope.names.lookup y=some .local)(l:aJ (jN sc scope) ([x]++fr.map (·.1)) 0 x=true)(hi:PI X (.Name x px) iter wi)
  (p:∀(k:Shared)(f:Hp)(j:LA),(mQ X scope ([x]++fr.map (·.1)) k f j).env.scope=jN sc scope->PE (mQ X scope ([x]++fr.map (·.1)) k f j) elt te)
  (r:swapsWith (.ListComp elt [⟨.Name x px,iter,[],0⟩] scope g) (some (.Name y e)) c.line X.env=pure true:=by rfl)(v:∀x,foldedSetIterable iter X.env x=pure x:=by intro _;rfl):PS X (.Assign [.Name y e] (.ListComp elt [⟨.Name x px,iter,[],0⟩] scope g) c) (Ge i (nW wi (oU 0) (tEl te) 1 fr)):=
 fH (xs:=[x]) (lD n q m) u t o hl hi (λ_ _ _ h=>kX (i:=0) h rfl l) (λa b d h=>lP (p a b d h)) r (yR _) v
end
structure FunT(K:Frag)(mg:MT)(x:Str)(st:Stmt)(f:Addr)(fd:FuncData)(ps:List Str):Prop extends Fun K x x st f fd where
 m:mg x=some (.ref f)
 b:lB K fd ps []
section
variable {X:Cx} {k:Nat} {f:Addr} {fd:FuncData} {ps:List Str} {sp:Sp} {x:Str} {st:Stmt} {p pos:Pos} {e:Expr} {es:List Expr} {t:TA}
theorem oS(F:FnOk X.prog X.w X.K X.mg X.base CX0 k f fd ps sp)(hr:Room k X.A)(c:FunT X.K X.mg x st f fd ps)(a:PA X (e:: es) t)(d:Gl X x:=by rfl)(g:(x == ("__debug__" :Str))=false:=by decide)
  (b:starEach (e:: es) X.env=(false,eval e X.env):: starEach es X.env:=by rfl)(i:(backTo pos (starEach es X.env)).any (·.1)=false:=by rfl):PE X (.Call (.Name x p) (e:: es) [] pos) (mC sp [] E0 t):=kK F hr d c.m c.kp c.b .nil mK a g b i
end
instance decPD:DecidableEq PyData:=λ_ _=>Classical.propDecidable _
def tT:Nat->PyData->Bool
 |_,.int _=>true
 |n+1,.tuple xs=>xs.all (tT n)
 |_,_=>false
theorem gI:∀(n:Nat)(d:PyData),tT n d=true->iT n d=true:=by
 intro n
 induction n with
 |zero=>intro d h;cases d <;> simp[tT]at h <;> simp[iT]
 |succ n a =>
  intro d h;cases d <;> simp[tT]at h
  ·simp[iT]
  ·simp only[iT,List.all_eq_true];exactλx b=>a x (h x b)
mutual
def iI:PyData->Int
 |.int i=>hashInt i
 |.tuple xs=>reduceHash (Builtin.Tuple.tupleHashOf (cI xs))
 |_=>0
def cI:List PyData->LI'
 |[]=>[]
 |d:: ds=>iI d:: cI ds
end
mutual
def iJ:PyData->Nat
 |.tuple xs=>fK xs+1
 |_=>1
def fK:List PyData->Nat
 |[]=>0
 |d:: ds=>iJ d+fK ds
end
section
variable {prog:Program} {w:World} {E:VP}
theorem Rr(n:Nat)(j:∀{A:Around}{s:Shared}{v:Value}{d:PyData}{as:LA}{Q:Int->Shared->Prop},tT n d=true->Reads s.heap v d as->A.units+n<cLine->Q (iI d) {s with toks:=s.toks+iJ d}->wpAny (model prog w) A (pyHash v) Q E s):
  ∀(xs:List PyData)(vs:LW)(as:LA)(A:Around)(s:Shared)(b:Array Int)(Q:Array Int->Shared->Prop),xs.all (tT n)=true->ReadsAll s.heap vs xs as->A.units+n<cLine ->
  (∀a:Array Int,a.toList=b.toList++cI xs->Q a {s with toks:=s.toks+fK xs}) ->
  wpAny (model prog w) A (forIn vs b λx r=>do let h ←pyHash x;pure PUnit.unit;pure (ForInStep.yield (r.push h))) Q E s:=by
 intro xs
 induction xs with
 |nil =>
  intro vs as A s b Q _ r _ h;cases r;exact zB (h b (by simp[cI]))
 | cons d ds i =>
  intro vs as A s b Q c r e h;cases r with
  |cons k g =>
   rw[xJ,zR]at c;rw[uG];refine zA (zA (j c.1 k e ?_));refine zA (zB (zB ?_));refine i _ _ A {s with toks:=s.toks+iJ d} (b.push (iI d)) Q c.2 g e λa f=>?_;have:=h a (by rw[f];simp[cI]);rw[show s.toks+fK (d:: ds)=s.toks+iJ d+fK ds by simp[fK,Nat.add_assoc]]at this;exact this
theorem Rq:∀(n:Nat){A:Around}{s:Shared}{v:Value}{d:PyData}{as:LA}{Q:Int->Shared->Prop},tT n d=true->Reads s.heap v d as->A.units+n<cLine->Q (iI d) {s with toks:=s.toks+iJ d}->wpAny (model prog w) A (pyHash v) Q E s:=by
 intro n
 induction n with
 |zero =>
  intro A s v d as Q c r g h;cases r <;> simp[tT]at c;exact qK (by simpa [iI,iJ]using h)
 | succ n i =>
  intro A s v d as Q c r g h;cases r <;> simp only[tT,Bool.false_eq_true]at c
  case int=>exact qK (by simpa [iI,iJ]using h)
  case tuple a o vs m xs hg hc hd hr =>
   unfold pyHash;refine PySem.W.pyHash_slot (T:= "tuple") ⟨_,hg,hc⟩ PySem.F.slot_tuple_hash PySem.F.entry_tuple_hash (PySem.F.args_tuple_hash_1 _) (beq_builtin_none _) (.inr ⋯) ?_;show wpAny _ _ (Builtin.Tuple.tupleItemsOf (.ref a) >>= _) _ _ s;refine zA (rW hg hd ?_);refine zA ?_;rw[←Array.forIn_toList];refine Rr n i xs vs.toList _ A.in1 s #[] _ c hr (by show A.units+1+n<cLine;omega) λb f=>?_;show wpAny _ _ (retInt (Builtin.Tuple.tupleHashOf b.toList)) _ _ _;rw[f];refine zA (wpAny_mkInt (zB ⟨_,_,rfl,?_⟩));have e:s.toks+fK xs+1=s.toks+iJ (.tuple xs):=by simp[iJ,Nat.add_assoc]
   simp only[iI]at h;rw[←e]at h;exact h
theorem Rp:∀(n m:Nat),n<m->∀{A:Around}{s:Shared}{v:Value}{d:PyData}{as:LA}{Q:Bool->Shared->Prop},tT n d=true->Reads s.heap v d as->Q true s->wpAny (model prog w) A (eqIsQuiet m v) Q E s:=by
 intro n
 induction n with
 |zero =>
  intro m _ A s v d as Q b r h;cases r <;> simp[tT]at b;rw[eqIsQuiet_byValue _ rfl];exact zB h
 | succ n l =>
  intro m t A s v d as Q b r h;cases r <;> simp only[tT,Bool.false_eq_true]at b
  case int=>rw[eqIsQuiet_byValue _ rfl];exact zB h
  case tuple a o vs k xs hg hc hd hr =>
   obtain⟨m,rfl⟩:∃j,m=j+1:=⟨m-1,⋯⟩;have g:s.TypeIs (.ref a) "tuple" := ⟨o,hg,hc⟩;unfold eqIsQuiet;refine zA (wpAny_specialOf g PySem.F.slot_tuple_eq.lookup ?_);show wpAny _ _ (isInstance (.ref a) (.type "tuple") >>= _) _ _ s;refine zA (vW g isSubtype_tuple_tuple ?_);simp only[Bool.not_true,Bool.false_eq_true,if_false];refine zA (wI hg hd ?_);refine zA ?_;show wpAny _ _ (forIn vs _ _) _ _ s;rw[←Array.forIn_toList];refine wpAny_forIn_list _ (λrest q s'=>q.1=none/\s'=s/\∃ys bs,ys.all (tT n)=true/\ReadsAll s.heap rest ys bs) _ ?_ ?_ _ _ ⟨rfl,rfl,xs,_,b,hr⟩
   ·rintro u rest q s' ⟨c,rfl,ys,bs,e,p⟩;cases p with
    |cons i f =>
     rw[xJ,zR]at e;refine zA (l m ⋯ e.1 i ?_);simp only[Bool.not_true,Bool.false_eq_true,if_false];exact zB ⟨rfl,rfl,_,_,e.2,f⟩
   ·rintro⟨i,f⟩ s' ⟨c,rfl,_⟩;simp only at c;subst c;exact zB h
end
theorem Ro{h h':Heap}{x:Addr}{c:Obj}{es:Array DictEntry}{ep:Nat}(j:h.get? x=some c)(m:c.data=.dict es ep)(p:Heap.SameBut x h h'):∀(n:Nat){v:Value}{d:PyData}{as:LA},tT n d=true->Reads h v d as->Reads h' v d as:=by
 intro n
 induction n with
 |zero =>
  intro v d as b r;cases r <;> simp[tT]at b;exact .int _ _
 | succ n g =>
  have all:∀(xs:List PyData)(vs:LW)(as:LA),xs.all (tT n)=true->ReadsAll h vs xs as->ReadsAll h' vs xs as:=by
   intro xs
   induction xs with
   |nil=>intro vs as _ r;cases r;exact .nil
   | cons d ds f =>
    intro vs as b r;cases r with
    |cons i e =>
     rw[xJ,zR]at b;exact .cons (g b.1 i) (f _ _ b.2 e)
  intro v d as b r;cases r <;> simp only[tT,Bool.false_eq_true]at b
  case int=>exact .int _ _
  case tuple a o vs k xs hg hc hdd hr =>
   have l:a≠x:=by
    rintro rfl;rw[j]at hg;cases hg;rw[m]at hdd;cases hdd
   exact .tuple ((p.2 a l).trans hg) hc hdd (all _ _ _ b hr)
def isT(h:Heap)(d:PyData)(a:Addr):Prop:=tT 4 d=true/\∃as,Reads h (.ref a) d as
def jA(prog:Program)(w:World):HeapKind prog w PyData where
 is:=isT
 hash:=iI
 draws:=iJ
 room:=λA=>A.units+8<cLine
 inj:=λ{h a x y}hx hy=>by
  obtain⟨t1,as,r1⟩:=hx;obtain⟨t2,bs,r2⟩:=hy;exact tV _ _ _ _ _ (iG 4 _ (gI 4 _ t1)).1 r1 r2
 keeps:=λ{h h' k a x o es ep}hk hx hd hs=>⟨hk.1,let ⟨as,r⟩:=hk.2;⟨as,Ro hx hd hs 4 hk.1 r⟩⟩
 pyHash:=λ{A E s k a Q}hu hk h=>let ⟨as,r⟩:=hk.2;Rq 4 hk.1 r ⋯ h
 eqBool:=λ{A E s x y a b Q}hu hx hy h=>by
  obtain⟨t1,as,r1⟩:=hx;obtain⟨t2,bs,r2⟩:=hy;have i1:=gI 4 _ t1;have i2:=gI 4 _ t2;have l1:=iG 4 _ i1;have l2:=iG 4 _ i2;refine PySem.SeqAt.eqBoolOverData _ _ _ _ _ _ _ _ _ _ _ _ r1 r2 l1.1 l2.1 ⋯ ?_;rw[←SeqAt.same_eq_eqv _ _ (aN 4 _ _ i1 i2)];have e:=aO 4 _ _ i1 i2
  by_cases z:x=y
  ·rw[zL z]at h;rw[e.mpr z];exact h
  ·rw[zN z]at h;have:same x y=false:=by
    cases q:same x y with
    |false=>rfl
    |true=>exact absurd (e.mp q) z
   rw[this];exact h
 quiet:=λ{A E s k a Q}hk h=>let ⟨as,r⟩:=hk.2;Rp 4 8 ∅ hk.1 r h
def kD(a:Addr)(xs:List (PyData×Addr×Value)):HO:=.ext λh=>∃o es ep,h.get? a=some o/\o.ExactDict/\o.data=.dict es ep/\es.toList=xs.map λx=>⟨iI x.1,.ref x.2.1,x.2.2⟩
theorem Iz{o:Option V}{u:Option Value}(h:RelO o u):o.isSome=u.isSome:=by
 cases o <;> cases u <;> first|rfl|exact h.elim
def vT(kvs:List (PyData×V))(k:PyData):Option V:=(kvs.find? λkv=>decide (kv.1=k)).map (·.2)
def pT(kvs:List (PyData×V))(k:PyData)(v:V):List (PyData×V):=if(vT kvs k).isSome=true then kvs.map (λkv=>if kv.1=k then(kv.1,v) else kv) else kvs++[(k,v)]
theorem eK{p:PyData×V}{r:List (PyData×V)}{k:PyData}(e:p.1=k):vT (p:: r) k=some p.2:=by simp[vT,List.find?_cons,e]
theorem fL{p:PyData×V}{r:List (PyData×V)}{k:PyData}(e:¬ p.1=k):vT (p:: r) k=vT r k:=by simp[vT,List.find?_cons,e]
abbrev KP(K:Frag)(H:Hp):List (PyData×V)->List (PyData×Addr×Value)->Prop:=Paired λp q=>p.1=q.1/\(tT 4 p.1=true/\Dt K H (.ref q.2.1) p.1)/\RelV p.2 q.2.2
structure DTr(K:Frag)(H:Hp)(a:Addr)(kvs:List (PyData×V)):Prop where
 len:kvs.length<=sizeLine
 sys:(a == sysModules)=false
 ex:∃xs,H a=some (kD a xs)/\(xs.map (·.1)).Nodup/\KP K H kvs xs
theorem KP.val{K:Frag}{H:Hp}{kvs:List (PyData×V)}{xs:List (PyData×Addr×Value)}(r:KP K H kvs xs)(k:PyData):RelO (vT kvs k) ((atKey xs k).map (·.2)):=by
 induction r with
 |nil=>exact True.intro
 | @cons p q ps a h i d =>
  obtain⟨c,_,f⟩:=h
  by_cases e:p.1=k
  ·have b:atKey (q:: a) k=some q.2:=by simp[atKey,List.find?_cons,c.symm.trans e]
   rw[eK e,b];exact f
  ·have g:¬ q.1=k:=λz=>e (c.trans z);have b:atKey (q:: a) k=atKey a k:=by simp[atKey,List.find?_cons,g]
   rw[fL e,b];exact d
theorem KP.put{K:Frag}{H:Hp}{kvs:List (PyData×V)}{xs:List (PyData×Addr×Value)}(r:KP K H kvs xs)(k:PyData){b:Addr}{y:V}{u:Value}(tk:tT 4 k=true)(f:Dt K H (.ref b) k)(c:RelV y u):KP K H (pT kvs k y) (storedH xs k b u):=by
 have e:(vT kvs k).isSome=(atKey xs k).isSome:=by rw[Iz (r.val k),Option.isSome_map]
 unfold pT storedH;rw[e]
 by_cases q:(atKey xs k).isSome=true
 ·rw[zG q,zG q];clear e q
  induction r with
  |nil=>exact .nil
  |@cons p q ps j h l i =>
   rw[zK,zK];refine .cons ?_ i;obtain⟨a,d,g⟩:=h;unfold putAt
   by_cases e:p.1=k
   ·rw[zG e,zG (a.symm.trans e)];exact⟨a,d,c⟩
   ·rw[zF e,zF (λz=>e (a.trans z))];exact⟨a,d,g⟩
 ·rw[zF q,zF q];exact rV r ⟨rfl,⟨tk,f⟩,c⟩
theorem kE{K:Frag}{H H':Hp}(i:∀b xs,SqT K H b xs->SqT K H' b xs):∀(n:Nat){x:V}{d:PyData},tT n d=true->Dt K H x d->Dt K H' x d:=by
 intro n
 induction n with
 |zero =>
  intro x d h r;cases r <;> simp[tT]at h;exact .int _
 | succ n f =>
  have all:∀(ds:List PyData)(xs:List V),ds.all (tT n)=true->Dts K H xs ds->Dts K H' xs ds:=by
   intro ds
   induction ds with
   |nil=>intro xs _ r;cases r;exact .nil
   | cons d ds e =>
    intro xs h r;cases r with
    |cons g c =>
     rw[xJ,zR]at h;exact .cons (f h.1 g) (e _ h.2 c)
  intro x d h r;cases r <;> simp only[tT,Bool.false_eq_true]at h
  case int=>exact .int _
  case tup a xs ds hq hr=>exact .tup (i _ _ hq) (all _ _ h hr)
theorem Iy{K:Frag}{H:Hp}{a:Addr}{o:HO}(d:∀xs,¬ Rd H a (.tup xs)):∀b xs,SqT K H b xs->SqT K (upd H a o) b xs:=λb xs h=>by
 rcases h with h|h
 ·have c:b≠a:=λe=>d xs (e ▸ h);rcases h with h|⟨f,h⟩
  ·exact .inl (.inl (by rw[nC c];exact h))
  ·exact .inl (.inr ⟨f,by rw[nC c];exact h⟩)
 ·exact .inr h
theorem KP.keeps{K:Frag}{H H':Hp}{kvs:List (PyData×V)}{xs:List (PyData×Addr×Value)}(r:KP K H kvs xs)(a:∀b ys,SqT K H b ys->SqT K H' b ys):KP K H' kvs xs:=
 Paired.mapP r λ_ _ z=>⟨z.1,⟨z.2.1.1,kE a 4 z.2.1.1 z.2.1.2⟩,z.2.2⟩
theorem mL{K:Frag}{H H':Hp}(s:Same H H'):∀b xs,SqT K H b xs->SqT K H' b xs:=λb xs h=>by
 rcases h with(h|⟨o,h⟩)|h
 ·exact .inl (.inl (s _ _ h))
 ·exact .inl (.inr ⟨o,s _ _ h⟩)
 ·exact .inr h
theorem DTr.up{K:Frag}{H H':Hp}{a:Addr}{kvs:List (PyData×V)}(h:DTr K H a kvs)(s:Same H H'):DTr K H' a kvs:=by
 obtain⟨l,y,xs,e,n,r⟩:=h;exact⟨l,y,xs,s _ _ e,n,r.keeps (mL s)⟩
section
variable {X:Cx} {pins:PN} {σ:St} {H:Hp} {s:Shared} {a:Addr}
theorem fM{k:PyData}{b:Addr}(I:Inv X pins σ H s)(tk:tT 4 k=true)(c:Dt X.K H (.ref b) k):(jA X.prog X.w).is s.heap k b:=⟨tk,c.reads I rfl⟩
theorem fN{kvs:List (PyData×V)}(I:Inv X pins σ H s)(g:DTr X.K H a kvs):∃xs,H a=some (kD a xs)/\KP X.K H kvs xs/\s.heap.DictOfH (jA X.prog X.w) a xs:=by
 obtain⟨_,_,xs,e,n,r⟩:=g;obtain⟨⟨o,es,ep,f,k,d,j⟩,_⟩:=(show mB X.prog X.w H s.heap a (kD a xs) from I.hok a _ e);refine⟨xs,e,r,o,es,ep,f,k,d,j,λx b=>?_,n⟩;have all:∀{l:List (PyData×V)}{m:List (PyData×Addr×Value)},KP X.K H l m->∀x∈m,(jA X.prog X.w).is s.heap x.1 x.2.1:=by
  intro l m q
  induction q with
  |nil=>intro x b;exact nomatch b
  |@cons p q ps t c u i =>
   intro x b;rcases xE.mp b with e|b
   ·subst e;rw[←c.1];exact fM I c.2.1.1 c.2.1.2
   ·exact i x b
 exact all r x b
end
def Cl(K:Frag):R2:=λx y H Q=>∃a kvs b k v,x=.ref a/\y=.ref b/\DTr K H a kvs/\tT 4 k=true/\Dt K H (.ref b) k/\vT kvs k=some v/\Q v H
def rInT(K:Frag)(neg:Bool):R2:=λy x H Q=>∃a kvs b k,x=.ref a/\y=.ref b/\DTr K H a kvs/\tT 4 k=true/\Dt K H (.ref b) k/\Q (.bl (if neg=true then !(vT kvs k).isSome else(vT kvs k).isSome)) H
def Rn(K:Frag):TSet:=λx y v H Q=>∃a kvs b k,x=.ref a/\y=.ref b/\DTr K H a kvs/\tT 4 k=true/\Dt K H (.ref b) k/\kvs.length<sizeLine/\∀H',(∀c o,c≠a->H c=some o->H' c=some o)->(∀c,c≠a->H' c=H c)->DTr K H' a (pT kvs k v)->Q H'
section
variable {X:Cx}
theorem ix_T(G:X.A.units+64<cLine):IxR X (Cl X.K):=by
 intro C F D s w H x y v u Q I i j h t;obtain⟨a,kvs,b,k,z,rfl,rfl,g,tk,d,o,q⟩:=h;cases i;cases j;obtain⟨xs,e,r,dd⟩:=fN I g;obtain⟨n,m,f⟩:=RelO.some_of (v:=z) (o:=(atKey xs k).map (·.2)) (by rw[←o];exact r.val k);obtain⟨p,l,c⟩:=oG.mp m;refine sV (x:=n) dd.typeIs PySem.F.slot_dict_getitem.lookup ?_ t;refine wpAny_getItem_heap (knd:=jA X.prog X.w) (show X.A.units+1+8<cLine by omega) (fM I tk d) dd l ⟨c,z,H,I.tok _,?_,q⟩;rw[c];exact f
theorem Rm(l:X.A.units+64<cLine):OpR X (compareOp .NotIn) (rInT X.K true):=by
 intro j s i H x y v u Q I d f h;obtain⟨a,kvs,b,k,rfl,rfl,g,tk,c,q⟩:=h;cases d;cases f;obtain⟨xs,e,r,dd⟩:=fN I g;refine wpAny_notIn_heap (knd:=jA X.prog X.w) (show X.A.units+1+8<cLine by omega) (fM I tk c) g.sys dd ?_;have e:=Iz (r.val k);rw[Option.isSome_map]at e;rw[←e];exact⟨.bl _,H,I.tok _,rfl,q⟩
theorem Rl(kvs:List (PyData×V))(k:PyData)(v:V):(pT kvs k v).length<=kvs.length+1:=by
 unfold pT;split
 ·rw[yE];omega
 ·rw[zS];exact zE _
theorem Az{P:Program}{w:World}{H:Hp}{h:Heap}{a:Addr}{xs:List (PyData×Addr×Value)}{o:Obj}{es:Array DictEntry}{ep:Nat}(b:h.get? a=some o)(i:o.ExactDict)(d:o.data=.dict es ep)(g:es.toList=xs.map λx=>⟨iI x.1,.ref x.2.1,x.2.2⟩):mB P w H h a (kD a xs):=
 ⟨⟨o,es,ep,b,i,d,g⟩,⟨o,b⟩,λm n⟨c,f,j,e,l⟩k=>⟨c,f,j,k c e,l⟩⟩
theorem Rk(M:X.A.units+64<cLine):PSet X (Rn X.K):=by
 intro J s N H o i v K L u Q I D w G h;obtain⟨a,kvs,b,k,rfl,rfl,g,tk,f,hl,q⟩:=h;cases D;cases w;obtain⟨xs,e,r,dd⟩:=fN I g;have p:xs.length<=sizeLine:=by rw[←Paired.length r];exact g.len
 have m:∀ys,¬ Rd H a (.tup ys):=λys z=>by
  rcases z with z|⟨j,z⟩
  ·rw[e]at z;cases z
  ·rw[e]at z;cases z
 refine wpAny_setItem_heap (knd:=jA X.prog X.w) (hsz:=p) (show X.A.units+1+8<cLine by omega) (fM I tk f) dd λh' F x=>?_;obtain⟨j,es,ep,l,n,y,C,_,t⟩:=F;refine⟨upd H a (kD a (storedH xs k b u)),I.write (x:=a) (e:=a) (by rw[e];exact True.intro) (.inl rfl) (λc o d z=>(x.2 c d).trans z) ⟨j,l⟩ (Az l n y C),?_⟩;refine q _ (λc o d z=>by rw[nC d];exact z) (λc d=>nC d) ⟨by have:=Rl kvs k v;omega,g.sys,_,oQ,t,(r.put k tk f G).keeps (Iy m)⟩
end
section
variable {X:Cx} {pos:Pos}
theorem Ck{a:PN}{b:St}{H:Hp}{s:Shared}(I:Inv X a b H s):sysModules<s.heap.objs.size:=
 Nat.lt_trans ∅ (show mainGlobals<s.heap.objs.size from(I.mod.glob.keeps I.bk).lt)
theorem Rj{P:Program}{w:World}{H:Hp}(h:Heap):mB P w H (h.push {cls:=.type "dict",data:=.dict #[]}) h.objs.size (kD h.objs.size []):=
 Az (es:=#[]) (ep:=0) (zT _ rfl) ⟨rfl,rfl,rfl⟩ rfl rfl
theorem Ri{K:Frag}{H:Hp}{p:Addr}(a:(p == sysModules)=false)(e:H p=some (kD p [])):DTr K H p []:=⟨yR _,a,[],e,sG,.nil⟩
def Ix(K:Frag)(tk tv:TE):TE:=λσ H Q=>∀p,H p=none->tk σ (upd H p (kD p [])) λx H1=>tv σ H1 λy H2=>∃b d,x=.ref b/\tT 4 d=true/\Dt K H2 (.ref b) d/\H2 p=some (kD p [])/\∀H3,(∀c,c≠p->H3 c=H2 c)->DTr K H3 p [(d,y)]->Q (.ref p) H3
theorem Rh{k v:Expr}{tk w:TE}(a2:X.A.units+64<cLine)(L:PE X k tk)(O:PE X v w):PE X (.Dict [some k] [v] pos) (Ix X.K tk w):=by
 intro i s l H Q I q;have T:=I.hok.fresh (zE s.heap.objs.size);have m:(s.heap.objs.size == sysModules)=false:=pV.mpr (yA (zY (Ck I)));have D:=I.laid (a:=s.heap.objs.size) (o:=kD s.heap.objs.size []) (h':=s.heap.push {cls:=.type "dict",data:=.dict #[]}) (t':=s.toks) (λ_ _ q=>zC _ q) (zE _) (Rj s.heap);rw[arm_eval_Dict,zip_pairTrees [some k] [v] X.env pos rfl rfl,dictDisplay_pairs (pairTrees [some k] [v] X.env pos) (by intro e;cases e) (show 1<17 by decide)];refine zA (tG (zA ?_));unfold subDict;refine zA (wpAny_alloc ?_);refine zA (xW ?_);rw[zG (show(pairTrees [some k] [v] X.env pos).length<=15 from(show 1<=15 by decide))];refine zA (pairTrees_cons_walk (thn (L i _ l _ _ D (q _ T)) λu J⟨x,V,S,Z,M⟩=>thn (O i J l V _ S M) λY a1⟨y,t,f,F,b,d,K,g,j,e,W⟩=>pairTrees_nil_walk ?_));subst K;cases Z;refine xW ?_;obtain⟨xs,a3,r,dd⟩:=fN f (Ri m e);cases r;refine zA ?_;rw[uG];refine zA (zA (wpAny_dictSet_heap (knd:=jA X.prog X.w) (hsz:=yR _) (show X.A.units+8<cLine by omega) (fM f g j) dd λh' a0 P=>zB ?_));refine zB (zB (zB (zB ?_)));obtain⟨n,es,ep,p,G,R,U,_,N⟩:=a0;have C:∀ys,¬ Rd t s.heap.objs.size (.tup ys):=λys z=>by
  rcases z with z|⟨n,z⟩
  ·rw[e]at z;cases z
  ·rw[e]at z;cases z
 refine⟨.ref s.heap.objs.size,upd t s.heap.objs.size (kD s.heap.objs.size (storedH [] d b Y)),f.write (x:=s.heap.objs.size) (e:=s.heap.objs.size) (by rw[e];exact True.intro) (.inl rfl) (λc o a z=>(P.2 c a).trans z) ⟨n,p⟩ (Az p G R U),rfl,?_⟩;exact W _ (λc a=>nC a) ⟨by show 1<=sizeLine;decide,m,_,oQ,N,.cons ⟨rfl,⟨g,kE (Iy C) 4 g j⟩,F⟩ .nil⟩
def Rg(K:Frag):V->List V->Hp->VK->Prop:=λx vs H Q=>∃a kvs b k,x=.ref a/\vs=[.ref b]/\DTr K H a kvs/\tT 4 k=true/\Dt K H (.ref b) k/\Q ((vT kvs k).getD .non) H
def tBMR(K:Frag)(r:V->List V->Hp->VK->Prop)(to:TE)(ta:TA):TE:=λσ H Q=>to σ H λx H1=>(∃a kvs,x=.ref a/\DTr K H1 a kvs)/\ta σ H1 λvs H2=>r x vs H2 Q
theorem Rf{T:String}{o e:Expr}{es:List Expr}{name:Str}{id:String}{i b:Pos}{j:TE}{l:TA}{r:V->List V->Hp->VK->Prop}(P:PlainAttrs "dict")(u:Slot "dict" name id)(p:typeOf (.builtin id)=pure (.type "method_descriptor"))(z:MtM X id r)(m:PE X o j)(D:PA X (e:: es) l)
  (K:attributeBase o name X.env (eval o X.env)=eval o X.env:=by rfl)
  (y:((backTo b (starEach (e:: es) X.env)).all (λx=>!x.1) && (backToKw b (keywordEach [] X.env)).all (λx=>x.1.isSome)
   && decide ((e:: es).length+([]:List Keyword).length+(if([]:List Keyword).isEmpty then 0 else 1)<30))=true:=by rfl)
  (M:(i.endLine == b.line)=true:=by rfl)(C:starEach (e:: es) X.env=(false,eval e X.env):: starEach es X.env:=by rfl)(N:(backTo b (starEach es X.env)).any (·.1)=false:=by rfl):
  PE X (.Call (.Attribute o name i) (e:: es) [] b) (tBMR X.K r j l):=by
 intro c s d H Q I h;refine wpAny_Call_method_late K y M rfl (thn (m c s d H _ I h) ?_);rintro v n ⟨x,G,f,w,ty,t⟩;obtain⟨a,kvs,rfl,g⟩:=ty;cases w;obtain⟨xs,R,r,dd⟩:=fN f g;refine⟨"dict",id,P,u,p,dd.typeIs,dictOfH_noDict dd,?_⟩;have k:=D b c n d G _ f t;rw[C]at k ⊢;refine Calls.callWith_builtin (by show(false || (backTo b (starEach es X.env)).any (·.1))=false;rw[N] <;> rfl) (rP ?_);exact thn k λus q⟨vs,O,F,L,J⟩=>z c q d O (.ref a) vs _ us Q F rfl L J
theorem Re{o:Option V}{u:Option Value}{d:V}{r:Value}(h:RelO o u)(a:RelV d r):RelV (o.getD d) (u.getD r):=by
 cases o <;> cases u <;> first|exact a|exact h.elim|exact h
theorem Rc(m:X.A.units+64<cLine):MtM X "dict.get" (Rg X.K):=by
 intro l s j H x vs v us Q I d i h;obtain⟨a,kvs,b,k,rfl,rfl,g,tk,c,q⟩:=h;cases d;obtain⟨u,rfl,f⟩:=i.one;cases f;obtain⟨xs,e,r,dd⟩:=fN I g;refine call_meetsIn PySem.F.slot_dict_get dd.typeIs PySem.F.entry_dict_get (PySem.F.args_dict_get_2 _ _) (meetsH_dict_get (jA X.prog X.w) a b g.sys) ⟨show X.A.units+1+8<cLine by omega,k,xs,fM I tk c,dd,⟨_,H,I.tok _,?_,q⟩⟩;exact Re (r.val k) rfl
end
def jK:Bool->Keyed->Array Keyed->Nat->Nat->Nat->StateT SortSt Sem (Option Nat):=sortPriv%PySem.Builtin.gallop
def fO(left:Bool)(key:Keyed)(arr:Array Keyed)(base i:Nat):StateT SortSt Sem (Option Bool):=do
 let x ←elem' arr (base+i)
 if left then lt' x key else return (←lt' key x).map (!·)
theorem Rb(left:Bool)(b:Keyed)(arr:Array Keyed)(d n a:Nat):jK left b arr d n a=(do
 let mut lastofs:=0
 let mut ofs:=1
 let mut lo:=0
 let mut hi:=0
 let some right ←fO left b arr d a|return none
 if right then
  let c:=n-a
  for _ in[0:n] do
   if ofs≥c then break
   let some more ←fO left b arr d (a+ofs)|return none
   if !more then break
   lastofs:=ofs
   ofs:=2*ofs+1
  lo:=a+lastofs+1
  hi:=a+min ofs c
 else
  let c:=a+1
  for _ in[0:n] do
   if ofs≥c then break
   let some found ←fO left b arr d (a-ofs)|return none
   if found then break
   lastofs:=ofs
   ofs:=2*ofs+1
  lo:=a+1-min ofs c
  hi:=a-lastofs
 for _ in[0:n] do
  if lo≥hi then break
  let m:=lo+(hi-lo)/2
  let some more ←fO left b arr d m|return none
  if more then lo:=m+1 else hi:=m
 return some hi):=rfl
section
variable {prog:Program} {w:World} {A:Around} {E:VP} {s:Shared} {κ:PyProof.Rows.KeyKind} {kd:SortKind}
def Cmp(prog:Program)(w:World)(A:Around)(s:Shared)(κ:PyProof.Rows.KeyKind)(kd:SortKind):Prop:=
 ∀(E:VP)(x y:Value)(a b:κ.α)(Q:Bool->Shared->Prop),κ.keyOf x=some a->κ.keyOf y=some b->Q (κ.blt a b) s->wpAny (model prog w) A (keyLt' kd x y) Q E s
def ky(κ:PyProof.Rows.KeyKind)(p:Keyed):κ.α:=(κ.keyOf p.1).getD κ.dflt
def Gd(κ:PyProof.Rows.KeyKind)(p:Keyed):Prop:=∃a,κ.keyOf p.1=some a
def lq(κ:PyProof.Rows.KeyKind)(p q:Keyed):Bool:=κ.blt (ky κ p) (ky κ q)
theorem Iw{p:Keyed}(h:Gd κ p):κ.keyOf p.1=some (ky κ p):=by
 obtain⟨a,e⟩:=h;unfold ky;rw[e];rfl
theorem cJ(d:Cmp prog w A s κ kd){st:SortSt}{x y:Keyed}{Q:Option Bool->SortSt->Prop}(a:kindOf st=kd)(b:Gd κ x)(c:Gd κ y)(h:Q (some (lq κ x y)) st):wpS (model prog w) A E s (lt' x y) Q st:=by
 rw[lt'_eq];refine zH (uS ?_);rw[a];refine zH (rS (vN (d _ x.1 y.1 _ _ _ (Iw b) (Iw c) ⟨rfl,?_⟩)));exact zJ h
theorem lU{st:SortSt}{arr:Array Keyed}{i:Nat}{p:Keyed}{Q:Keyed->SortSt->Prop}(hi:arr[i]?=some p)(h:Q p st):wpS (model prog w) A E s (elem' arr i) Q st:=by
 rw[elem'_eq,hi];exact zJ h
def bey(κ:PyProof.Rows.KeyKind)(left:Bool)(key p:Keyed):Bool:=if left=true then lq κ p key else !lq κ key p
theorem Ra(e:Cmp prog w A s κ kd){st:SortSt}{left:Bool}{a p:Keyed}{arr:Array Keyed}{f i:Nat}{Q:Option Bool->SortSt->Prop}(b:kindOf st=kd)(d:Gd κ a)(g:arr[f+i]?=some p)(c:Gd κ p)(h:Q (some (bey κ left a p)) st):
  wpS (model prog w) A E s (fO left a arr f i) Q st:=by
 unfold fO;refine zH (lU g ?_);unfold bey at h;cases left with
 |true =>
  rw[zG rfl]at h ⊢;exact cJ e b c d h
 |false =>
  rw[zF (by simp)]at h ⊢;exact zH (cJ e b d c (zJ h))
theorem Iv{st:SortSt}{n lo hi:Nat}{B:Nat->Bool}{f:Nat->StateT SortSt Sem (Option Bool)}{Q:Option Nat->SortSt->Prop}
  (t:∀(i:Nat)(R:Option Bool->SortSt->Prop),i<n->R (some (B i)) st->wpS (model prog w) A E s (f i) R st)(g:lo<=hi)(o:hi<=n)(mono:∀i j,i<=j->j<n->B j=true->B i=true)(l:∀i,i<lo->B i=true)(p:∀i,hi<=i->i<n->B i=false)
  (h:∀k,k<=n->(∀i,i<k->B i=true)->(∀i,k<=i->i<n->B i=false)->Q (some k) st):
  wpS (model prog w) A E s (do
   let mut lo:=lo
   let mut hi:=hi
   for _ in[0:n] do
    if lo≥hi then break
    let m:=lo+(hi-lo)/2
    let some more ←f m|return none
    if more then lo:=m+1 else hi:=m
   return some hi) Q st:=by
 refine zH (wK (xM (I:=λx c d=>d=st/\∃lo hi,c=(none,lo,hi)/\lo<=hi/\hi<=n/\hi-lo+x<=n/\(∀i,i<lo->B i=true)/\∀i,hi<=i->i<n->B i=false)
  (Q:=λc d=>d=st/\∃k,c=(none,k,k)/\k<=n/\(∀i,i<k->B i=true)/\∀i,k<=i->i<n->B i=false) ?_ ?_ ⟨rfl,lo,hi,rfl,g,o,⋯,l,p⟩) ?_)
 ·rintro x c d _ v ⟨rfl,lo,hi,rfl,q,e,u,b,a⟩;dsimp only
  by_cases hl:lo≥hi
  ·rw[zG hl];exact zJ ⟨rfl,hi,by rw[show lo=hi by omega],e,λi hi'=>b i ⋯,a⟩
  ·rw[zF hl];refine zH (t _ _ ⋯ ?_);dsimp only;cases hb:B (lo+(hi-lo)/2) with
   |true =>
    rw[zG rfl];refine zJ ⟨rfl,_,_,rfl,⋯,e,⋯,λi hi'=>?_,a⟩;exact mono i _ ⋯ ⋯ hb
   |false =>
    rw[zF (by simp)];refine zJ ⟨rfl,_,_,rfl,⋯,⋯,⋯,b,λi hi' r=>?_⟩;cases hbi:B i with
    |false=>rfl
    |true=>rw[mono _ i hi' r hbi]at hb;cases hb
 ·rintro c d ⟨rfl,lo,hi,rfl,q,e,u,b,a⟩;have:lo=hi:=⋯
  subst this;exact⟨rfl,lo,rfl,e,b,a⟩
 ·rintro c d ⟨rfl,k,rfl,e,b,a⟩;exact zJ (h k e b a)
theorem cK(F:Cmp prog w A s κ kd){st:SortSt}{left:Bool}{o:Keyed}{arr:Array Keyed}{u n b:Nat}{B:Nat->Bool}{Q:Option Nat->SortSt->Prop}(G:kindOf st=kd)(I:Gd κ o)(y:b<n)
  (C:∀i,i<n->∃p,arr[u+i]?=some p/\Gd κ p/\bey κ left o p=B i)(mono:∀i j,i<=j->j<n->B j=true->B i=true)
  (h:∀k,k<=n->(∀i,i<k->B i=true)->(∀i,k<=i->i<n->B i=false)->Q (some k) st):wpS (model prog w) A E s (jK left o arr u n b) Q st:=by
 have m:∀(i:Nat)(R:Option Bool->SortSt->Prop),i<n->R (some (B i)) st->wpS (model prog w) A E s (fO left o arr u i) R st:=λi R hi r=>by
  obtain⟨p,e1,J,z⟩:=C i hi;exact Ra F G I e1 J (by rw[z];exact r)
 rw[Rb];refine zH (m b _ y ?_);dsimp only;cases hh:B b with
 | true =>
  rw[zG rfl];refine zH (wK (xM (I:=λx c e=>e=st/\∃lo a,c=(none,lo,a)/\x+1<=a/\lo<a/\b+lo<n/\B (b+lo)=true)
   (Q:=λc e=>e=st/\∃lo a,c=(none,lo,a)/\lo<a/\b+lo<n/\B (b+lo)=true/\(n-b<=a\/(b+a<n/\B (b+a)=false))) ?_ ?_ ⟨rfl,0,1,rfl,zE _,⋯,y,hh⟩) ?_)
  ·rintro x c e _ D ⟨rfl,lo,a,rfl,t,g,f,d⟩;dsimp only
   by_cases hl:a≥n-b
   ·rw[zG hl];exact zJ ⟨rfl,lo,a,rfl,g,f,d,.inl hl⟩
   ·rw[zF hl];refine zH (m _ _ ⋯ ?_);dsimp only;cases hb:B (b+a) with
    |true =>
     rw[zF (by simp)];exact zJ ⟨rfl,_,_,rfl,⋯,⋯,⋯,hb⟩
    |false =>
     rw[zG ∅];exact zJ ⟨rfl,lo,a,rfl,g,f,d,.inr ⟨⋯,hb⟩⟩
  ·rintro c e ⟨rfl,lo,a,rfl,t,g,f,d⟩;exact⟨rfl,lo,a,rfl,g,f,d,.inl ⋯⟩
  ·rintro c e ⟨rfl,lo,a,rfl,g,f,d,l⟩;dsimp only;refine Iv (lo:=b+lo+1) (hi:=b+min a (n-b)) m ⋯ ⋯ mono (λi hi=>mono i _ ⋯ f d) (λi hi v=>?_) h;rcases l with l|⟨l,q⟩
   ·omega
   ·cases hbi:B i with
    |false=>rfl
    |true=>rw[mono _ i ⋯ v hbi]at q;cases q
 | false =>
  rw[zF (by simp)];refine zH (wK (xM (I:=λx c e=>e=st/\∃lo a,c=(none,lo,a)/\x+1<=a/\lo<a/\lo<=b/\B (b-lo)=false)
   (Q:=λc e=>e=st/\∃lo a,c=(none,lo,a)/\lo<a/\lo<=b/\B (b-lo)=false/\(b+1<=a\/(a<=b/\B (b-a)=true))) ?_ ?_ ⟨rfl,0,1,rfl,zE _,⋯,yR _,hh⟩) ?_)
  ·rintro x c e _ D ⟨rfl,lo,a,rfl,t,g,f,d⟩;dsimp only
   by_cases hl:a≥b+1
   ·rw[zG hl];exact zJ ⟨rfl,lo,a,rfl,g,f,d,.inl hl⟩
   ·rw[zF hl];refine zH (m _ _ ⋯ ?_);dsimp only;cases hb:B (b-a) with
    |true =>
     rw[zG rfl];exact zJ ⟨rfl,lo,a,rfl,g,f,d,.inr ⟨⋯,hb⟩⟩
    |false =>
     rw[zF (by simp)];exact zJ ⟨rfl,_,_,rfl,⋯,⋯,⋯,hb⟩
  ·rintro c e ⟨rfl,lo,a,rfl,t,g,f,d⟩;exact⟨rfl,lo,a,rfl,g,f,d,.inl ⋯⟩
  ·rintro c e ⟨rfl,lo,a,rfl,g,f,d,l⟩;dsimp only;refine Iv (lo:=b+1-min a (b+1)) (hi:=b-lo) m ⋯ ⋯ mono (λi hi=>?_) (λi hi v=>?_) h
   ·rcases l with l|⟨l,q⟩
    ·omega
    ·exact mono i _ ⋯ ⋯ q
   ·cases hbi:B i with
    |false=>rfl
    |true=>rw[mono _ i ⋯ v hbi]at d;cases d
end
section
variable {κ:PyProof.Rows.KeyKind}
def le'(κ:PyProof.Rows.KeyKind)(x y:Keyed):Prop:=lq κ y x=false
theorem lI{x y z:Keyed}(b:le' κ x y)(a:le' κ y z):le' κ x z:=KeyOrd.kle_trans (O:=κ.toKeyOrd) b a
theorem lV{x y:Keyed}(h:lq κ x y=true):le' κ x y:=KeyOrd.klt_asymm (O:=κ.toKeyOrd) h
theorem iY(x:Keyed):le' κ x x:=κ.irrefl _
abbrev Srt(κ:PyProof.Rows.KeyKind)(l:List Keyed):Prop:=l.Pairwise (le' κ)
structure MI(κ:PyProof.Rows.KeyKind)(A B out:List Keyed)(ia ib:Nat):Prop where
 pm:out.Perm (A.take ia++B.take ib)
 so:Srt κ out
 oa:∀x∈out,∀y∈A.drop ia,le' κ x y
 ob:∀x∈out,∀y∈B.drop ib,le' κ x y
theorem MI.symm{A B out:List Keyed}{ia ib:Nat}(h:MI κ A B out ia ib):MI κ B A out ib ia:=⟨h.pm.trans vJ,h.so,h.ob,h.oa⟩
theorem Sz{A:List Keyed}{i k:Nat}:A.take (i+k)=A.take i++(A.drop i).take k:=by rw[qC]
theorem MI.ext{A B out:List Keyed}{ia ib k:Nat}(h:MI κ A B out ia ib)(e:Srt κ A)(f:∀x∈(A.drop ia).take k,∀y∈B.drop ib,le' κ x y):MI κ A B (out++(A.drop ia).take k) (ia+k) ib:=by
 have d:Srt κ (A.drop ia):=uR (sL _ _) e;have cut:(A.drop ia).take k++A.drop (ia+k)=A.drop ia:=by rw[←qX];exact xS _ _
 have c:=oE.mp (show Srt κ ((A.drop ia).take k++A.drop (ia+k)) by rw[cut];exact d);refine⟨?_,oE.mpr ⟨h.so,c.1,λx b y a=>h.oa x b y (rQ a)⟩,λx b y a=>?_,λx b y a=>?_⟩
 ·rw[Sz,yN];refine(h.pm.append_right _).trans ?_;rw[yN];exact rA _ vJ
 ·rcases oA.mp b with q|q
  ·exact h.oa x q y (by rw[←cut];exact yK _ a)
  ·exact c.2.2 x q y a
 ·rcases oA.mp b with q|q
  ·exact h.ob x q y a
  ·exact f x q y a
theorem Ay{A:List Keyed}{i:Nat}{p:Keyed}(e:A[i]?=some p):A.drop i=p:: A.drop (i+1):=by
 obtain⟨h,rfl⟩:=oF.mp e;exact tQ h
theorem MI.push{A B out:List Keyed}{ia ib:Nat}{p:Keyed}(h:MI κ A B out ia ib)(d:Srt κ A)(e:A[ia]?=some p)(f:∀y∈B.drop ib,le' κ p y):MI κ A B (out++[p]) (ia+1) ib:=by
 have:=MI.ext (k:=1) h d (λx a y c=>by
  rw[Ay e]at a;have b:x=p:=by simpa using a
  rw[b];exact f y c)
 rw[Ay e]at this;simpa using this
theorem eN{A:List Keyed}{i:Nat}{p q:Keyed}(c:Srt κ A)(e:A[i]?=some q)(h:le' κ p q):∀y∈A.drop i,le' κ p y:=λy a=>by
 have b:Srt κ (A.drop i):=uR (sL _ _) c;rw[Ay e]at a b;rcases xE.mp a with d|a
 ·rw[d];exact h
 ·exact lI h ((pW.mp b).1 y a)
def Res(κ:PyProof.Rows.KeyKind)(A B r:List Keyed):Prop:=r.Perm (A++B)/\Srt κ r
theorem MI.all{A B out:List Keyed}{ia ib:Nat}(h:MI κ A B out ia ib)(b:Srt κ A)(a:B.length<=ib):Res κ A B (out++A.drop ia):=by
 refine⟨?_,oE.mpr ⟨h.so,uR (sL _ _) b,h.oa⟩⟩;have:=h.pm;rw[xY a]at this;refine(this.append_right _).trans ?_;rw[yN];refine(rA _ vJ).trans ?_;rw[←yN,xS]
theorem Res.symm{A B r:List Keyed}(h:Res κ A B r):Res κ B A r:=⟨h.1.trans vJ,h.2⟩
theorem MI.last{A B out:List Keyed}{ia ib:Nat}{p:Keyed}(h:MI κ A B out ia ib)(b:Srt κ B)(e:A[ia]?=some p)(hl:ia+1=A.length)(d:∀y∈B,le' κ y p):Res κ A B (out++B.drop ib++A.drop ia):=by
 have a:A.drop ia=[p]:=by rw[Ay e,sT ⋯]
 rw[a];refine⟨?_,oE.mpr ⟨oE.mpr ⟨h.so,uR (sL _ _) b,h.ob⟩,List.pairwise_singleton _ _,λx g y c=>?_⟩⟩
 ·have f:A=A.take ia++[p]:=by rw[←a,xS]
  have:=(h.pm.append_right (B.drop ib)).append_right [p];refine this.trans ?_;rw[yN (A.take ia),xS,yN]
  conv=>rhs;rw[f]
  rw[yN];exact rA _ vJ
 ·rw[pY.mp c];rcases oA.mp g with q|q
  ·exact h.oa x q p (by rw[a];exact List.mem_singleton_self _)
  ·exact d x (List.mem_of_mem_drop q)
theorem Cj(a:Array Keyed)(i j:Nat):(a.extract i (i+j)).toList=(a.toList.drop i).take j:=by simp[Array.toList_extract,List.extract_eq_take_drop]
theorem eO(a:Array Keyed)(i:Nat):(a.extract i a.size).toList=a.toList.drop i:=by
 simp only[Array.toList_extract,List.extract_eq_take_drop];exact xY (by rw[uV,zO];exact zE _)
end
section
variable {prog:Program} {w:World} {A:Around} {E:VP} {s:Shared} {κ:PyProof.Rows.KeyKind} {kd:SortKind}
structure MG(κ:PyProof.Rows.KeyKind)(a b:Array Keyed):Prop where
 sa:Srt κ a.toList
 sb:Srt κ b.toList
 ga:∀p∈a.toList,Gd κ p
 gb:∀p∈b.toList,Gd κ p
 na:1<=a.size
 nb:1<=b.size
 top:∀p,a[a.size-1]?=some p->∀y∈b.toList,le' κ y p
 fst:∀p q,b[0]?=some p->a[0]?=some q->le' κ p q
structure Sm(st st':SortSt):Prop where
 k:kindOf st'=kindOf st
 a:arrOf st'=arrOf st
 p:pendingOf st'=pendingOf st
 f:failedOf st'=failedOf st
theorem Sm.refl(st:SortSt):Sm st st:=⟨rfl,rfl,rfl,rfl⟩
theorem Sm.set{st a:SortSt}(h:Sm st a)(g:Nat):Sm st (SortSt.mk' (kindOf a) (arrOf a) (pendingOf a) g (failedOf a)):=⟨h.k,h.a,h.p,h.f⟩
theorem nE{a:Array Keyed}{i:Nat}{p:Keyed}:a[i]?=some p↔a.toList[i]?=some p:=by rw[yU]
theorem mW{a:Array Keyed}{i:Nat}(h:i<a.size):∃p,a[i]?=some p:=⟨a[i],Array.getElem?_eq_getElem h⟩
theorem kH{st:SortSt}{arr:Array Keyed}{i:Nat}{Q:Keyed->SortSt->Prop}(hi:i<arr.size)(h:∀p,arr[i]?=some p->Q p st):wpS (model prog w) A E s (elem' arr i) Q st:=by
 obtain⟨p,e⟩:=mW hi;exact lU e (h p e)
theorem gJ{l:List Keyed}(c:Srt κ l){i j:Nat}{p q:Keyed}(h:i<=j)(e1:l[i]?=some p)(a:l[j]?=some q):le' κ p q:=by
 rcases uT i j with h'|h'
 ·obtain⟨d,rfl⟩:=oF.mp e1;obtain⟨b,rfl⟩:=oF.mp a;exact pR.mp c i j d b h'
 ·have:i=j:=⋯
  subst this;rw[e1]at a;cases a;exact iY _
theorem Ci{l:List Keyed}{i:Nat}{x:Keyed}(h:x∈l.drop i):∃j,i<=j/\l[j]?=some x:=by
 obtain⟨j,a,rfl⟩:=wM h;exact⟨i+j,⋯,by rw[←tZ];exact xQ a⟩
theorem eQ{l:List Keyed}{i k:Nat}{x:Keyed}(h:x∈(l.drop i).take k):∃j,j<k/\l[i+j]?=some x:=by
 obtain⟨j,a,rfl⟩:=wM h;rw[yS]at a;refine⟨j,⋯,?_⟩;rw[←tZ,List.getElem_take];exact xQ ⋯
theorem Sy(v:Cmp prog w A s κ kd){st:SortSt}{a:Array Keyed}{ia:Nat}{p:Keyed}{Q:Option Nat->SortSt->Prop}(f:kindOf st=kd)(z:Srt κ a.toList)(n:∀x∈a.toList,Gd κ x)(g:Gd κ p)(C:ia<a.size)
  (h:∀k,ia+k<=a.size->(∀x∈(a.toList.drop ia).take k,le' κ x p)->(∀y∈a.toList.drop (ia+k),lq κ p y=true)->Q (some k) st):wpS (model prog w) A E s (jK false p a ia (a.size-ia) 0) Q st:=by
 refine cK v (B:=λi=>!lq κ p (a.getD (ia+i) p)) f g ⋯ (λi hi=>?_) (λi j F b c=>?_) λk D l o=>h k ⋯ (λx u=>?_) λy m=>?_
 ·obtain⟨q,e⟩:=mW (a:=a) (i:=ia+i) ⋯;refine⟨q,e,n q (yF (nE.mp e)),?_⟩;rw[show a.getD (ia+i) p=q by simp[Array.getD_eq_getD_getElem?,e]];rfl
 ·obtain⟨q,e⟩:=mW (a:=a) (i:=ia+i) ⋯;obtain⟨r,d⟩:=mW (a:=a) (i:=ia+j) ⋯;rw[show a.getD (ia+j) p=r by simp[Array.getD_eq_getD_getElem?,d]]at c;rw[show a.getD (ia+i) p=q by simp[Array.getD_eq_getD_getElem?,e]];have l1:le' κ r p:=by unfold le';simpa using c
  have:=lI (gJ z (show ia+i<=ia+j by omega) (nE.mp e) (nE.mp d)) l1;unfold le' at this;rw[this];rfl
 ·obtain⟨j,b,e⟩:=eQ u;have:=l j b;rw[show a.getD (ia+j) p=x by simp[Array.getD_eq_getD_getElem?,nE.mpr e]]at this;unfold le';simpa using this
 ·obtain⟨j,b,e⟩:=Ci m;have t:=(oF.mp e).1;rw[zO]at t;have:=o (j-ia) ⋯ ⋯;rw[show ia+(j-ia)=j by omega,show a.getD j p=y by simp[Array.getD_eq_getD_getElem?,nE.mpr e]]at this;simpa using this
theorem Ax(u:Cmp prog w A s κ kd){st:SortSt}{b:Array Keyed}{ib a:Nat}{q:Keyed}{n:Nat}{Q:Option Nat->SortSt->Prop}(g:kindOf st=kd)(o:Srt κ b.toList)(f:∀x∈b.toList,Gd κ x)(v:Gd κ q)(z:ib+n<=b.size)(hh:a<n)
  (h:∀k,k<=n->(∀i x,i<k->b[ib+i]?=some x->lq κ x q=true)->(∀i x,k<=i->i<n->b[ib+i]?=some x->le' κ q x)->Q (some k) st):wpS (model prog w) A E s (jK true q b ib n a) Q st:=by
 refine cK u (B:=λi=>lq κ (b.getD (ib+i) q) q) g v hh (λi hi=>?_) (λi j C D c=>?_) λk t l m=>h k t (λi x hi e=>?_) λi x hi y e=>?_
 ·obtain⟨p,e⟩:=mW (a:=b) (i:=ib+i) ⋯;refine⟨p,e,f p (yF (nE.mp e)),?_⟩;rw[show b.getD (ib+i) q=p by simp[Array.getD_eq_getD_getElem?,e]];rfl
 ·obtain⟨p,e⟩:=mW (a:=b) (i:=ib+i) ⋯;obtain⟨r,d⟩:=mW (a:=b) (i:=ib+j) ⋯;rw[show b.getD (ib+j) q=r by simp[Array.getD_eq_getD_getElem?,d]]at c;rw[show b.getD (ib+i) q=p by simp[Array.getD_eq_getD_getElem?,e]];exact KeyOrd.klt_of_kle_of_klt (O:=κ.toKeyOrd) (gJ o (show ib+i<=ib+j by omega) (nE.mp e) (nE.mp d)) c
 ·have:=l i hi;rw[show b.getD (ib+i) q=x by simp[Array.getD_eq_getD_getElem?,e]]at this;exact this
 ·have:=m i hi y;rw[show b.getD (ib+i) q=x by simp[Array.getD_eq_getD_getElem?,e]]at this;exact this
end
def Cg:Array Keyed->Array Keyed->StateT SortSt Sem (Array Keyed):=sortPriv%PySem.Builtin.mergeLo
def cL:Nat->StateT SortSt Sem Unit:=sortPriv%PySem.Builtin.setMinGallop
theorem Sx(a b:Array Keyed):Cg a b=(do
 rule "list.sort.merge-lo"
 let d:=a.size+b.size
 let done (out:Array Keyed) (ia ib:Nat):=out++a.extract ia a.size++b.extract ib b.size
 let c (out:Array Keyed) (ia ib:Nat):=out++b.extract ib b.size++a.extract ia a.size
 let mut out:Array Keyed:=#[←elem' b 0]
 let mut ia:=0
 let mut ib:=1
 if ib == b.size then return done out ia ib
 if ia+1 == a.size then return c out ia ib
 let mut minGallop:=gallopOf (←get)
 for _ in[0:d] do
  let mut acount:=0
  let mut bcount:=0
  for _ in[0:d] do
   let some bWins ←lt' (←elem' b ib) (←elem' a ia)|return done out ia ib
   if bWins then
    out:=out.push (←elem' b ib);ib:=ib+1;bcount:=bcount+1;acount:=0
    if ib == b.size then return done out ia ib
    if bcount≥minGallop then break
   else
    out:=out.push (←elem' a ia);ia:=ia+1;acount:=acount+1;bcount:=0
    if ia+1 == a.size then return c out ia ib
    if acount≥minGallop then break
  rule "list.sort.gallop"
  minGallop:=minGallop+1
  for _ in[0:d] do
   if minGallop > 1 then minGallop:=minGallop-1
   cL minGallop
   let some k ←jK false (←elem' b ib) a ia (a.size-ia) 0|return done out ia ib
   acount:=k
   if k > 0 then
    out:=out++a.extract ia (ia+k);ia:=ia+k
    if ia+1 == a.size then return c out ia ib
    if ia == a.size then return done out ia ib
   out:=out.push (←elem' b ib);ib:=ib+1
   if ib == b.size then return done out ia ib
   let some k ←jK true (←elem' a ia) b ib (b.size-ib) 0|return done out ia ib
   bcount:=k
   if k > 0 then
    out:=out++b.extract ib (ib+k);ib:=ib+k
    if ib == b.size then return done out ia ib
   out:=out.push (←elem' a ia);ia:=ia+1
   if ia+1 == a.size then return c out ia ib
   if acount<7 && bcount<7 then break
  minGallop:=minGallop+1
  cL minGallop
 unsupported "internal:list.sort.merge-bound"):=rfl
theorem Aw(g:Nat):cL g=modify λs=>SortSt.mk' (kindOf s) (arrOf s) (pendingOf s) g (failedOf s):=rfl
section
variable {prog:Program} {w:World} {A:Around} {E:VP} {s:Shared} {κ:PyProof.Rows.KeyKind} {kd:SortKind}
theorem eV{a b out:Array Keyed}{ia ib:Nat}(G:MG κ a b)(h:MI κ a.toList b.toList out.toList ia ib)(c:b.size<=ib):Res κ a.toList b.toList (out++a.extract ia a.size++b.extract ib b.size).toList:=by
 rw[yO,yO,eO,eO,sT (as:=b.toList) (by rw[zO];exact c),wX];exact h.all G.sa (by rw[zO];exact c)
theorem Sw{a b out:Array Keyed}{ia ib:Nat}(G:MG κ a b)(h:MI κ a.toList b.toList out.toList ia ib)(c:a.size<=ia):Res κ a.toList b.toList (out++a.extract ia a.size++b.extract ib b.size).toList:=by
 rw[yO,yO,eO,eO,sT (as:=a.toList) (by rw[zO];exact c),wX];exact(h.symm.all G.sb (by rw[zO];exact c)).symm
theorem fP{a b out:Array Keyed}{ia ib:Nat}(G:MG κ a b)(h:MI κ a.toList b.toList out.toList ia ib)(c:ia+1=a.size):Res κ a.toList b.toList (out++b.extract ib b.size++a.extract ia a.size).toList:=by
 rw[yO,yO,eO,eO];obtain⟨p,e⟩:=mW (a:=a) (i:=ia) ⋯;exact h.last G.sb (nE.mp e) (by rw[zO];exact c) (G.top p (by rw[show a.size-1=ia by omega];exact e))
theorem Av{a b out:Array Keyed}{ia ib:Nat}{p:Keyed}(G:MG κ a b)(h:MI κ a.toList b.toList out.toList ia ib)(e:b[ib]?=some p)(c:∀y∈a.toList.drop ia,le' κ p y):MI κ a.toList b.toList (out.push p).toList ia (ib+1):=by
 rw[uM];exact(h.symm.push G.sb (nE.mp e) c).symm
theorem cM{a b out:Array Keyed}{ia ib:Nat}{p:Keyed}(G:MG κ a b)(h:MI κ a.toList b.toList out.toList ia ib)(e:a[ia]?=some p)(c:∀y∈b.toList.drop ib,le' κ p y):MI κ a.toList b.toList (out.push p).toList (ia+1) ib:=by
 rw[uM];exact h.push G.sa (nE.mp e) c
theorem Sv{a b out:Array Keyed}{ia ib k:Nat}{p:Keyed}(G:MG κ a b)(h:MI κ a.toList b.toList out.toList ia ib)(e:b[ib]?=some p)(f:∀x∈(a.toList.drop ia).take k,le' κ x p):MI κ a.toList b.toList (out++a.extract ia (ia+k)).toList (ia+k) ib:=by
 rw[yO,Cj];exact h.ext G.sa λx d y c=>lI (f x d) (eN G.sb (nE.mp e) (iY p) y c)
theorem Iu{a b out:Array Keyed}{ia ib k:Nat}{p:Keyed}(G:MG κ a b)(h:MI κ a.toList b.toList out.toList ia ib)(e:a[ia]?=some p)(f:∀x∈(b.toList.drop ib).take k,le' κ x p):MI κ a.toList b.toList (out++b.extract ib (ib+k)).toList ia (ib+k):=by
 rw[yO,Cj];exact(h.symm.ext G.sb λx d y c=>lI (f x d) (eN G.sa (nE.mp e) (iY p) y c)).symm
theorem Cf{a out:Array Keyed}{i:Nat}:out++a.extract i (i+0)=out:=by simp;omega
theorem nI{b:Type}{c:Prop}[Decidable c]{a e:StateT SortSt Sem b}{Q:b->SortSt->Prop}{st:SortSt}(f:c->wpS (model prog w) A E s a Q st)(d:¬ c->wpS (model prog w) A E s e Q st):wpS (model prog w) A E s (if c then a else e) Q st:=by
 by_cases h:c
 ·rw[zG h];exact f h
 ·rw[zF h];exact d h
theorem Ir{a:Type}{c:Nat->Prop}[∀m,Decidable (c m)]{b F:Nat->StateT SortSt Sem a}{Q:a->SortSt->Prop}{st:SortSt}(h:∀m,wpS (model prog w) A E s (F m) Q st)(e:∀m,F (m-1)=b m)(m:Nat):wpS (model prog w) A E s (if c m then b m else F m) Q st:=nI (λ_=>by rw[←e];exact h _) λ_=>h m
theorem Su(P:Cmp prog w A s κ kd){st:SortSt}{a b:Array Keyed}{Q:Array Keyed->SortSt->Prop}(R:kindOf st=kd)(G:MG κ a b)
  (h:∀r m,Sm st m->Res κ a.toList b.toList r.toList->Q r m):wpS (model prog w) A E s (Cg a b) Q st:=by
 have c2:=G.na;have b8:=G.nb;have Z:∀i p,a[i]?=some p->Gd κ p:=λi p e=>G.ga p (yF (nE.mp e));have a3:∀i p,b[i]?=some p->Gd κ p:=λi p e=>G.gb p (yF (nE.mp e));rw[Sx];refine zH (rS (wP ⟨rfl,?_⟩));refine zH (kH ⋯ λa8 a4=>?_);dsimp only;obtain⟨b3,a7⟩:=mW (a:=a) (i:=0) ⋯;have X:MI κ a.toList b.toList (#[a8]:Array Keyed).toList 0 1:=by
  have:=Av (out:=#[]) (ia:=0) (ib:=0) G ⟨by simp,List.Pairwise.nil,λx I=>by simp at I,λx I=>by simp at I⟩ a4 (eN G.sa (nE.mp a7) (G.fst a8 b3 a4 a7));simpa using this
 by_cases S:(1 == b.size)=true
 ·rw[zG S];exact zJ (h _ _ (Sm.refl _) (eV G X (by have:=yQ S;omega)))
 rw[zF S];have b9:1≠b.size:=λe=>S (pU.mpr e)
 by_cases O:(0+1 == a.size)=true
 ·rw[zG O];exact zJ (h _ _ (Sm.refl _) (fP G X (by have:=yQ O;omega)))
 rw[zF O];have c1:0+1≠a.size:=λe=>O (pU.mpr e);refine zH (uS ?_);refine zH (wK (xM (I:=λx c m=>Sm st m/\E4 λ(out:Array Keyed)(ia ib t:Nat)=>A5 (c=(none,out,ia,ib,t)) (MI κ a.toList b.toList out.toList ia ib) (ia+1<a.size) (ib<b.size) (x+1<=ia+ib))
  (Q:=λc m=>Sm st m/\∃r J,c=(some r,J)/\Res κ a.toList b.toList r.toList) ?_ ?_ ⟨Sm.refl _,_,_,_,_,rfl,X,⋯,⋯,⋯⟩) ?_)
 ·rintro x c V _ I ⟨sm,out,ia,ib,t,rfl,g,lia,d,v⟩;dsimp only;refine zH (wK (xM (I:=λy c m=>Sm st m/\E5 λ(out:Array Keyed)(ia ib n o:Nat)=>A6 (c=(none,out,ia,ib,n,o)) (MI κ a.toList b.toList out.toList ia ib) (ia+1<a.size) (ib<b.size) (x+1<=ia+ib) (1<=y->x+2<=ia+ib))
   (Q:=λc m=>Sm st m/\((∃r J,c=(some r,J)/\Res κ a.toList b.toList r.toList)\/E5 λ(out:Array Keyed)(ia ib n o:Nat)=>A5 (c=(none,out,ia,ib,n,o)) (MI κ a.toList b.toList out.toList ia ib) (ia+1<a.size) (ib<b.size) (x+2<=ia+ib))) ?_ ?_ ⟨sm,out,ia,ib,0,0,rfl,g,lia,d,v,⋯⟩) ?_)
  ·rintro y c a6 _ C ⟨sm,out,ia,ib,n,o,rfl,g,lia,d,v,_⟩;dsimp only;refine zH (kH d λp e=>?_);refine zH (kH (show ia<a.size by omega) λq f=>?_);refine zH (cJ P (by rw[sm.k];exact R) (a3 _ _ e) (Z _ _ f) ?_);dsimp only;cases hl:lq κ p q with
   |true =>
    rw[zG rfl];have K:=Av G g e (eN G.sa (nE.mp f) (lV hl));refine zH (lU e ?_)
    by_cases D:(ib+1 == b.size)=true
    ·rw[zG D];exact zJ ⟨sm,.inl ⟨_,_,rfl,eV G K (by have:=yQ D;omega)⟩⟩
    rw[zF D];have b2:ib+1≠b.size:=λe=>D (pU.mpr e);split
    ·exact zJ ⟨sm,.inr ⟨_,_,_,_,_,rfl,K,lia,⋯,⋯⟩⟩
    ·exact zJ ⟨sm,_,_,_,_,_,rfl,K,lia,⋯,⋯,⋯⟩
   |false =>
    rw[zF (by simp)];have K:=cM G g f (eN G.sb (nE.mp e) hl);refine zH (lU f ?_)
    by_cases D:(ia+1+1 == a.size)=true
    ·rw[zG D];exact zJ ⟨sm,.inl ⟨_,_,rfl,fP G K (by have:=yQ D;omega)⟩⟩
    rw[zF D];have b2:ia+1+1≠a.size:=λe=>D (pU.mpr e);split
    ·exact zJ ⟨sm,.inr ⟨_,_,_,_,_,rfl,K,⋯,d,⋯⟩⟩
    ·exact zJ ⟨sm,_,_,_,_,_,rfl,K,⋯,d,⋯,⋯⟩
  ·rintro c a6 ⟨sm,out,ia,ib,n,o,rfl,g,lia,d,v,b4⟩;exact⟨sm,.inr ⟨_,_,_,_,_,rfl,g,lia,d,b4 ⋯⟩⟩
  ·rintro c a6 ⟨sm,⟨r,J,rfl,N⟩|⟨out,ia,ib,n,o,rfl,g,lia,d,v⟩⟩
   ·exact zJ ⟨sm,_,_,rfl,N⟩
   dsimp only;refine zH (rS (wP ⟨rfl,?_⟩));refine zH (wK (xM (I:=λy c m=>Sm st m/\E6 λ(out:Array Keyed)(ia ib t n o:Nat)=>A5 (c=(none,out,ia,ib,t,n,o)) (MI κ a.toList b.toList out.toList ia ib) (ia+1<a.size) (ib<b.size) (x+2<=ia+ib))
    (Q:=λc m=>Sm st m/\((∃r J,c=(some r,J)/\Res κ a.toList b.toList r.toList)\/E6 λ(out:Array Keyed)(ia ib t n o:Nat)=>A5 (c=(none,out,ia,ib,t,n,o)) (MI κ a.toList b.toList out.toList ia ib) (ia+1<a.size) (ib<b.size) (x+2<=ia+ib))) ?_ ?_ ⟨sm,_,_,_,_,_,_,rfl,g,lia,d,v⟩) ?_)
   ·rintro y c a5 _ C ⟨sm,out,ia,ib,t,n,o,rfl,g,lia,d,v⟩;dsimp only
    revert t
    refine Ir (λt=>?_) λ_=>rfl;rw[Aw];refine zH (wQ ?_);refine zH (kH (arr:=b) d λp e=>?_);refine zH (Sy P (show kindOf _=kd from sm.k.trans R) G.sa G.ga (a3 _ _ e) (show ia<a.size by omega) λk c0 b0 U=>?_);have mk:=Sv G g e b0;dsimp only;refine nI (λa9=>?_) λa9=>?_
    ·refine nI (λz=>?_) λz=>?_
     ·exact zJ ⟨sm.set _,.inl ⟨_,_,rfl,fP G mk (yQ z)⟩⟩
     have b7:ia+k+1≠a.size:=λe=>z (pU.mpr e);refine nI (λy=>?_) λy=>?_
     ·exact zJ ⟨sm.set _,.inl ⟨_,_,rfl,Sw G mk (by have:=yQ y;omega)⟩⟩
     have c3:ia+k≠a.size:=λe=>y (pU.mpr e);have L:=Av G mk e λy C=>lV (U y C);refine zH (lU e ?_);refine nI (λz=>?_) λz=>?_
     ·exact zJ ⟨sm.set _,.inl ⟨_,_,rfl,eV G L (by have:=yQ z;omega)⟩⟩
     have b6:ib+1≠b.size:=λe=>z (pU.mpr e);refine zH (kH (arr:=a) (i:=(ia+k)) ⋯ λq f=>?_);refine zH (Ax P (show kindOf _=kd from sm.k.trans R) G.sb G.gb (Z _ _ f) (show ib+1+(b.size-(ib+1))<=b.size by omega) ⋯ λk2 b1 W T=>?_);have u:=Iu (k:=k2) G L f λx I=>by
      obtain⟨j,M,F⟩:=eQ I;exact lV (W j x M (nE.mpr F))
     have nx:∀y∈b.toList.drop (ib+1+k2),le' κ q y:=λy C=>by
      obtain⟨j,M,F⟩:=Ci C;have a0:=(oF.mp F).1;rw[zO]at a0;exact T (j-(ib+1)) y ⋯ ⋯ (by rw[show ib+1+(j-(ib+1))=j by omega];exact nE.mpr F)
     dsimp only;refine nI (λa2=>?_) λa2=>?_
     ·refine nI (λz=>?_) λz=>?_
      ·exact zJ ⟨sm.set _,.inl ⟨_,_,rfl,eV G u (by have:=yQ z;omega)⟩⟩
      have b5:ib+1+k2≠b.size:=λe=>z (pU.mpr e);have l:=cM G u f nx;refine zH (lU f ?_);refine nI (λz=>?_) λz=>?_
      ·exact zJ ⟨sm.set _,.inl ⟨_,_,rfl,fP G l (yQ z)⟩⟩
      have a1:(ia+k)+1+1≠a.size:=λe=>z (pU.mpr e);refine nI (λ_=>?_) λ_=>?_
      ·exact zJ ⟨sm.set _,.inr ⟨_,_,_,_,_,_,rfl,l,⋯,⋯,⋯⟩⟩
      ·exact zJ ⟨sm.set _,_,_,_,_,_,_,rfl,l,⋯,⋯,⋯⟩
     ·have Y:k2=0:=⋯
      subst Y;rw[Cf]at u;simp only[Nat.add_zero]at u nx;have l:=cM G u f nx;refine zH (lU f ?_);refine nI (λz=>?_) λz=>?_
      ·exact zJ ⟨sm.set _,.inl ⟨_,_,rfl,fP G l (yQ z)⟩⟩
      have a1:(ia+k)+1+1≠a.size:=λe=>z (pU.mpr e);refine nI (λ_=>?_) λ_=>?_
      ·exact zJ ⟨sm.set _,.inr ⟨_,_,_,_,_,_,rfl,l,⋯,⋯,⋯⟩⟩
      ·exact zJ ⟨sm.set _,_,_,_,_,_,_,rfl,l,⋯,⋯,⋯⟩
    ·have k0:k=0:=⋯
     subst k0;rw[Cf]at mk;simp only[Nat.add_zero]at mk U;have L:=Av G mk e λy C=>lV (U y C);refine zH (lU e ?_);refine nI (λz=>?_) λz=>?_
     ·exact zJ ⟨sm.set _,.inl ⟨_,_,rfl,eV G L (by have:=yQ z;omega)⟩⟩
     have b6:ib+1≠b.size:=λe=>z (pU.mpr e);refine zH (kH (arr:=a) (i:=ia) ⋯ λq f=>?_);refine zH (Ax P (show kindOf _=kd from sm.k.trans R) G.sb G.gb (Z _ _ f) (show ib+1+(b.size-(ib+1))<=b.size by omega) ⋯ λk2 b1 W T=>?_);have u:=Iu (k:=k2) G L f λx I=>by
      obtain⟨j,M,F⟩:=eQ I;exact lV (W j x M (nE.mpr F))
     have nx:∀y∈b.toList.drop (ib+1+k2),le' κ q y:=λy C=>by
      obtain⟨j,M,F⟩:=Ci C;have a0:=(oF.mp F).1;rw[zO]at a0;exact T (j-(ib+1)) y ⋯ ⋯ (by rw[show ib+1+(j-(ib+1))=j by omega];exact nE.mpr F)
     dsimp only;refine nI (λa2=>?_) λa2=>?_
     ·refine nI (λz=>?_) λz=>?_
      ·exact zJ ⟨sm.set _,.inl ⟨_,_,rfl,eV G u (by have:=yQ z;omega)⟩⟩
      have b5:ib+1+k2≠b.size:=λe=>z (pU.mpr e);have l:=cM G u f nx;refine zH (lU f ?_);refine nI (λz=>?_) λz=>?_
      ·exact zJ ⟨sm.set _,.inl ⟨_,_,rfl,fP G l (yQ z)⟩⟩
      have a1:ia+1+1≠a.size:=λe=>z (pU.mpr e);refine nI (λ_=>?_) λ_=>?_
      ·exact zJ ⟨sm.set _,.inr ⟨_,_,_,_,_,_,rfl,l,⋯,⋯,⋯⟩⟩
      ·exact zJ ⟨sm.set _,_,_,_,_,_,_,rfl,l,⋯,⋯,⋯⟩
     ·have Y:k2=0:=⋯
      subst Y;rw[Cf]at u;simp only[Nat.add_zero]at u nx;have l:=cM G u f nx;refine zH (lU f ?_);refine nI (λz=>?_) λz=>?_
      ·exact zJ ⟨sm.set _,.inl ⟨_,_,rfl,fP G l (yQ z)⟩⟩
      have a1:ia+1+1≠a.size:=λe=>z (pU.mpr e);refine nI (λ_=>?_) λ_=>?_
      ·exact zJ ⟨sm.set _,.inr ⟨_,_,_,_,_,_,rfl,l,⋯,⋯,⋯⟩⟩
      ·exact zJ ⟨sm.set _,_,_,_,_,_,_,rfl,l,⋯,⋯,⋯⟩
   ·rintro c a5 ⟨sm,out,ia,ib,t,n,o,rfl,g,lia,d,v⟩;exact⟨sm,.inr ⟨_,_,_,_,_,_,rfl,g,lia,d,v⟩⟩
   ·rintro c a5 ⟨sm,⟨r,J,rfl,N⟩|⟨out,ia,ib,t,n,o,rfl,g,lia,d,v⟩⟩
    ·exact zJ ⟨sm,_,_,rfl,N⟩
    dsimp only;rw[Aw];refine zH (wQ (zJ ⟨sm.set _,_,_,_,_,rfl,g,lia,d,⋯⟩))
 ·rintro c V ⟨sm,out,ia,ib,t,rfl,g,lia,d,v⟩;omega
 ·rintro c V ⟨sm,r,J,rfl,N⟩;exact zJ (h r V sm N)
end
def Ce:Array Keyed->Array Keyed->StateT SortSt Sem (Array Keyed):=sortPriv%PySem.Builtin.mergeHi
theorem Ss(a b:Array Keyed):Ce a b=(do
 rule "list.sort.merge-hi"
 let d:=a.size+b.size
 let done (out:Array Keyed) (na nb:Nat):=a.extract 0 na++b.extract 0 nb++out.reverse
 let c (out:Array Keyed) (na nb:Nat):=b.extract 0 nb++a.extract 0 na++out.reverse
 let mut na:=a.size-1
 let mut nb:=b.size
 let mut out:Array Keyed:=#[←elem' a na]
 if na == 0 then return done out na nb
 if nb == 1 then return c out na nb
 let mut minGallop:=gallopOf (←get)
 for _ in[0:d] do
  let mut acount:=0
  let mut bcount:=0
  for _ in[0:d] do
   let some aWins ←lt' (←elem' b (nb-1)) (←elem' a (na-1))|return done out na nb
   if aWins then
    na:=na-1;out:=out.push (←elem' a na);acount:=acount+1;bcount:=0
    if na == 0 then return done out na nb
    if acount≥minGallop then break
   else
    nb:=nb-1;out:=out.push (←elem' b nb);bcount:=bcount+1;acount:=0
    if nb == 1 then return c out na nb
    if bcount≥minGallop then break
  rule "list.sort.gallop"
  minGallop:=minGallop+1
  for _ in[0:d] do
   if minGallop > 1 then minGallop:=minGallop-1
   cL minGallop
   let some at_ ←jK false (←elem' b (nb-1)) a 0 na (na-1)|return done out na nb
   let k:=na-at_
   acount:=k
   if k > 0 then
    out:=out++(a.extract at_ na).reverse;na:=at_
    if na == 0 then return done out na nb
   nb:=nb-1;out:=out.push (←elem' b nb)
   if nb == 1 then return c out na nb
   let some at_ ←jK true (←elem' a (na-1)) b 0 nb (nb-1)|return done out na nb
   let k:=nb-at_
   bcount:=k
   if k > 0 then
    out:=out++(b.extract at_ nb).reverse;nb:=at_
    if nb == 1 then return c out na nb
    if nb == 0 then return done out na nb
   na:=na-1;out:=out.push (←elem' a na)
   if na == 0 then return done out na nb
   if acount<7 && bcount<7 then break
  minGallop:=minGallop+1
  cL minGallop
 unsupported "internal:list.sort.merge-bound"):=rfl
def revK(κ:PyProof.Rows.KeyKind):PyProof.Rows.KeyKind where
 α:=κ.α
 blt:=λa b=>κ.blt b a
 irrefl:=κ.irrefl
 trans:=λa b c h1 h2=>κ.trans c b a h2 h1
 negTrans:=λa b c h=>(κ.negTrans c b a h).symm
 total:=λa b h1 h2=>κ.total a b h2 h1
 keyOf:=κ.keyOf
 dflt:=κ.dflt
section
variable {prog:Program} {w:World} {A:Around} {E:VP} {s:Shared} {κ:PyProof.Rows.KeyKind} {kd:SortKind}
theorem Iq{x y:Keyed}:le' (revK κ) x y↔le' κ y x:=Iff.rfl
theorem fQ{l:List Keyed}(h:Srt κ l):Srt (revK κ) l.reverse:=List.pairwise_reverse.mpr h
theorem Sr{l:List Keyed}(h:Srt (revK κ) l):Srt κ l.reverse:=List.pairwise_reverse.mpr h
def MH(κ:PyProof.Rows.KeyKind)(a b out:Array Keyed)(na nb:Nat):Prop:=MI (revK κ) a.toList.reverse b.toList.reverse out.toList (a.size-na) (b.size-nb)
theorem Cd{a:Array Keyed}{n:Nat}{p:Keyed}(h:n<a.size)(e:a[n]?=some p):a.toList.reverse[a.size-(n+1)]?=some p:=by
 rw[rB (by rw[zO];omega),zO,show a.size-1-(a.size-(n+1))=n by omega];exact nE.mp e
theorem eW{a:Array Keyed}{n:Nat}(h:n<=a.size):a.toList.reverse.drop (a.size-n)=(a.toList.take n).reverse:=by
 rw[List.drop_reverse,zO,show a.size-(a.size-n)=n by omega]
theorem Au{a:Array Keyed}{n:Nat}{y:Keyed}(h:n<=a.size)(b:y∈a.toList.reverse.drop (a.size-n)):∃i,i<n/\a[i]?=some y:=by
 rw[eW h]at b;obtain⟨i,hi,e⟩:=wM (oH.mp b);rw[yS]at hi;refine⟨i,⋯,?_⟩;rw[nE,←e,List.getElem_take];exact xQ _
theorem Cc{a b r:Array Keyed}{l:List Keyed}(e:r.toList.reverse=l)(h:Res (revK κ) a.toList.reverse b.toList.reverse l):Res κ a.toList b.toList r.toList:=by
 subst e;refine⟨?_,?_⟩
 ·refine(qI r.toList).symm.trans (h.1.trans ?_);exact((qI _).append (qI _))
 ·have:=Sr h.2
  rwa[List.reverse_reverse]at this
theorem eX{a:Array Keyed}{n:Nat}:(a.extract 0 n).toList=a.toList.take n:=by
 have:=Cj a 0 n;rw[wO,List.drop_zero]at this;exact this
theorem fR{a b out:Array Keyed}{c:Nat}(G:MG κ a b)(h:MH κ a b out 0 c)(d:c<=b.size):Res κ a.toList b.toList (a.extract 0 0++b.extract 0 c++out.reverse).toList:=by
 refine Cc (l:=out.toList++b.toList.reverse.drop (b.size-c)) ?_ ((MI.symm h).all (fQ G.sb) (by simp)).symm;rw[yO,yO,eX,eX,eW d,uX];simp
theorem Ip{a b out:Array Keyed}{c:Nat}(G:MG κ a b)(h:MH κ a b out c 0)(d:c<=a.size):Res κ a.toList b.toList (a.extract 0 c++b.extract 0 0++out.reverse).toList:=by
 refine Cc (l:=out.toList++a.toList.reverse.drop (a.size-c)) ?_ (MI.all h (fQ G.sa) (by simp));rw[yO,yO,eX,eX,eW d,uX];simp
theorem eY{a b out:Array Keyed}{c:Nat}(G:MG κ a b)(h:MH κ a b out c 1)(g:c<=a.size):Res κ a.toList b.toList (b.extract 0 1++a.extract 0 c++out.reverse).toList:=by
 have d:=G.nb;obtain⟨p,e⟩:=mW (a:=b) (i:=0) ⋯;obtain⟨q,f⟩:=mW (a:=a) (i:=0) (by have:=G.na;omega);refine Cc (l:=out.toList++a.toList.reverse.drop (a.size-c)++b.toList.reverse.drop (b.size-1)) ?_ (Res.symm ((MI.symm h).last (fQ G.sa) (Cd ⋯ e) (by rw[List.length_reverse,zO];omega) λy i=>?_))
 ·rw[yO,yO,eX,eX,eW g,eW d,uX];simp
 ·exact eN G.sa (nE.mp f) (G.fst p q e f) y (by simpa using oH.mp i)
theorem eZ{a b out:Array Keyed}{c d:Nat}{p:Keyed}(G:MG κ a b)(h:MH κ a b out (c+1) d)(j:c<a.size)(f:d<=b.size)(e:a[c]?=some p)(k:∀i y,i<d->b[i]?=some y->le' κ y p):MH κ a b (out.push p) c d:=by
 unfold MH at h ⊢;rw[uM,show a.size-c=a.size-(c+1)+1 by omega];exact MI.push h (fQ G.sa) (Cd j e) λy g=>by
  obtain⟨i,hi,l⟩:=Au f g;exact k i y hi l
theorem Cb{a b out:Array Keyed}{d c:Nat}{p:Keyed}(G:MG κ a b)(h:MH κ a b out d (c+1))(j:c<b.size)(f:d<=a.size)(e:b[c]?=some p)(k:∀i y,i<d->a[i]?=some y->le' κ y p):MH κ a b (out.push p) d c:=by
 unfold MH at h ⊢;rw[uM,show b.size-c=b.size-(c+1)+1 by omega];exact(MI.push (MI.symm h) (fQ G.sb) (Cd j e) λy g=>by
  obtain⟨i,hi,l⟩:=Au f g;exact k i y hi l).symm
theorem Io{a:Array Keyed}{n m:Nat}(h:n<=a.size)(b:m<=n):(a.extract m n).reverse.toList=(a.toList.reverse.drop (a.size-n)).take (n-m):=by
 rw[eW h,uX,List.take_reverse,yS,zO,show min n a.size-(n-m)=m by omega];simp only[Array.toList_extract,List.extract_eq_take_drop];rw[List.drop_take]
theorem So{a b out:Array Keyed}{c d m:Nat}{p:Keyed}(G:MG κ a b)(h:MH κ a b out c d)(k:c<=a.size)(q:m<=c)(g:d<=b.size)(u:0<d)(e:b[d-1]?=some p)(o:∀i x,m<=i->i<c->a[i]?=some x->le' κ p x):MH κ a b (out++(a.extract m c).reverse) m d:=by
 unfold MH at h ⊢;rw[yO,Io k q,show a.size-m=a.size-c+(c-m) by omega];refine MI.ext h (fQ G.sa) λx r y l=>?_;obtain⟨i,hi,n⟩:=Au g l;obtain⟨j,t,f⟩:=eQ r;rw[rB (by rw[zO];omega),zO]at f;have l1:le' κ y p:=gJ G.sb (show i<=d-1 by omega) (nE.mp n) (nE.mp e);exact Iq.mpr (lI l1 (o _ x ⋯ ⋯ (nE.mpr f)))
theorem Im{a b out:Array Keyed}{d c m:Nat}{p:Keyed}(G:MG κ a b)(h:MH κ a b out d c)(k:c<=b.size)(q:m<=c)(g:d<=a.size)(u:0<d)(e:a[d-1]?=some p)(o:∀i x,m<=i->i<c->b[i]?=some x->le' κ p x):MH κ a b (out++(b.extract m c).reverse) d m:=by
 unfold MH at h ⊢;rw[yO,Io k q,show b.size-m=b.size-c+(c-m) by omega];refine(MI.ext (MI.symm h) (fQ G.sb) λx r y l=>?_).symm;obtain⟨i,hi,n⟩:=Au g l;obtain⟨j,t,f⟩:=eQ r;rw[rB (by rw[zO];omega),zO]at f;have l1:le' κ y p:=gJ G.sa (show i<=d-1 by omega) (nE.mp n) (nE.mp e);exact Iq.mpr (lI l1 (o _ x ⋯ ⋯ (nE.mpr f)))
theorem Sn(u:Cmp prog w A s κ kd){st:SortSt}{b:Array Keyed}{ib a:Nat}{q:Keyed}{n:Nat}{Q:Option Nat->SortSt->Prop}(g:kindOf st=kd)(o:Srt κ b.toList)(f:∀x∈b.toList,Gd κ x)(v:Gd κ q)(z:ib+n<=b.size)(hh:a<n)
  (h:∀k,k<=n->(∀i x,i<k->b[ib+i]?=some x->le' κ x q)->(∀i x,k<=i->i<n->b[ib+i]?=some x->lq κ q x=true)->Q (some k) st):wpS (model prog w) A E s (jK false q b ib n a) Q st:=by
 refine cK u (B:=λi=>!lq κ q (b.getD (ib+i) q)) g v hh (λi hi=>?_) (λi j C D c=>?_) λk t l m=>h k t (λi x hi e=>?_) λi x hi y e=>?_
 ·obtain⟨p,e⟩:=mW (a:=b) (i:=ib+i) ⋯;refine⟨p,e,f p (yF (nE.mp e)),?_⟩;rw[show b.getD (ib+i) q=p by simp[Array.getD_eq_getD_getElem?,e]];rfl
 ·obtain⟨p,e⟩:=mW (a:=b) (i:=ib+i) ⋯;obtain⟨r,d⟩:=mW (a:=b) (i:=ib+j) ⋯;rw[show b.getD (ib+j) q=r by simp[Array.getD_eq_getD_getElem?,d]]at c;rw[show b.getD (ib+i) q=p by simp[Array.getD_eq_getD_getElem?,e]];have l1:le' κ r q:=by unfold le';simpa using c
  have:=lI (gJ o (show ib+i<=ib+j by omega) (nE.mp e) (nE.mp d)) l1;unfold le' at this;rw[this];rfl
 ·have:=l i hi;rw[show b.getD (ib+i) q=x by simp[Array.getD_eq_getD_getElem?,e]]at this;unfold le';simpa using this
 ·have:=m i hi y;rw[show b.getD (ib+i) q=x by simp[Array.getD_eq_getD_getElem?,e]]at this;simpa using this
theorem Ca{a out:Array Keyed}{n:Nat}:out++(a.extract n n).reverse=out:=by simp;omega
theorem Sl(Y:Cmp prog w A s κ kd){st:SortSt}{a b:Array Keyed}{Q:Array Keyed->SortSt->Prop}(Z:kindOf st=kd)(G:MG κ a b)
  (h:∀r C,Sm st C->Res κ a.toList b.toList r.toList->Q r C):wpS (model prog w) A E s (Ce a b) Q st:=by
 have c5:=G.na;have c4:=G.nb;have a3:∀i p,a[i]?=some p->Gd κ p:=λi p e=>G.ga p (yF (nE.mp e));have a5:∀i p,b[i]?=some p->Gd κ p:=λi p e=>G.gb p (yF (nE.mp e));rw[Ss];refine zH (rS (wP ⟨rfl,?_⟩));refine zH (kH ⋯ λb1 a7=>?_);dsimp only;have T:MH κ a b #[b1] (a.size-1) b.size:=by
  have b2:MH κ a b #[] (a.size-1+1) b.size:=by
   unfold MH;rw[show a.size-(a.size-1+1)=0 by omega,uQ];exact⟨by simp,List.Pairwise.nil,λx X=>by simp at X,λx X=>by simp at X⟩
  exact eZ G b2 ⋯ (zE _) a7 λi y _ l=>G.top b1 a7 y (yF (nE.mp l))
 refine nI (λz=>?_) λz=>?_
 ·have j:=yQ z;rw[j]at T ⊢;exact zJ (h _ _ (Sm.refl _) (fR G T (zE _)))
 have b7:a.size-1≠0:=λe=>z (pU.mpr e);refine nI (λy=>?_) λy=>?_
 ·have b5:=yQ y;refine zJ (h _ _ (Sm.refl _) ?_);rw[b5]at T ⊢;exact eY G T ⋯
 have c6:b.size≠1:=λe=>y (pU.mpr e);refine zH (uS ?_);refine zH (wK (xM (I:=λx c C=>Sm st C/\E4 λ(g d:Nat)(out:Array Keyed)(J:Nat)=>A7 (c=(none,g,d,out,J)) (MH κ a b out g d) (0<g) (g<a.size) (1<d) (d<=b.size) (x+g+d<a.size+b.size))
  (Q:=λc C=>Sm st C/\∃r L,c=(some r,L)/\Res κ a.toList b.toList r.toList) ?_ ?_ ⟨Sm.refl _,_,_,_,_,rfl,T,⋯,⋯,⋯,⋯,⋯⟩) ?_)
 ·rintro x c a1 _ X ⟨sm,g,d,out,J,rfl,o,l1,l2,I,v,K⟩;dsimp only;refine zH (wK (xM (I:=λy c C=>Sm st C/\E5 λ(g d:Nat)(out:Array Keyed)(D F:Nat)=>A8 (c=(none,g,d,out,D,F)) (MH κ a b out g d) (0<g) (g<a.size) (1<d) (d<=b.size) (x+g+d<a.size+b.size) (1<=y->x+1+g+d<a.size+b.size))
   (Q:=λc C=>Sm st C/\((∃r L,c=(some r,L)/\Res κ a.toList b.toList r.toList)\/E5 λ(g d:Nat)(out:Array Keyed)(D F:Nat)=>A7 (c=(none,g,d,out,D,F)) (MH κ a b out g d) (0<g) (g<a.size) (1<d) (d<=b.size) (x+1+g+d<a.size+b.size))) ?_ ?_ ⟨sm,g,d,out,0,0,rfl,o,l1,l2,I,v,K,⋯⟩) ?_)
  ·rintro y c b0 _ b3 ⟨sm,g,d,out,D,F,rfl,o,l1,l2,I,v,K,_⟩;obtain⟨n,rfl⟩:∃n,g=n+1:=⟨g-1,⋯⟩;obtain⟨m,rfl⟩:∃m,d=m+1:=⟨d-1,⋯⟩;dsimp only;refine zH (kH (arr:=b) (i:=m+1-1) ⋯ λp e=>?_);refine zH (kH (arr:=a) (i:=n+1-1) ⋯ λq f=>?_);refine zH (cJ Y (by rw[sm.k];exact Z) (a5 _ _ e) (a3 _ _ f) ?_);dsimp only;cases hl:lq κ p q with
   |true =>
    rw[zG rfl];have N:=eZ G o (show n<a.size by omega) ⋯ f λi y hi l=>lI (gJ G.sb (show i<=m by omega) (nE.mp l) (nE.mp e)) (lV hl);refine zH (lU f ?_);refine nI (λz=>?_) λz=>?_
    ·have j:n=0:=yQ z;subst j;exact zJ ⟨sm,.inl ⟨_,_,rfl,fR G N ⋯⟩⟩
    have b6:n≠0:=λe=>z (pU.mpr e);refine nI (λ_=>?_) λ_=>?_
    ·exact zJ ⟨sm,.inr ⟨n,m+1,_,_,_,rfl,N,⋯,⋯,⋯,⋯,⋯⟩⟩
    ·exact zJ ⟨sm,n,m+1,_,_,_,rfl,N,⋯,⋯,⋯,⋯,⋯,⋯⟩
   |false =>
    rw[zF (by simp)];have N:=Cb G o (show m<b.size by omega) ⋯ e λi y hi l=>lI (gJ G.sa (show i<=n by omega) (nE.mp l) (nE.mp f)) hl;refine zH (lU e ?_);refine nI (λz=>?_) λz=>?_
    ·have j:m=1:=yQ z;subst j;exact zJ ⟨sm,.inl ⟨_,_,rfl,eY G N ⋯⟩⟩
    have b6:m≠1:=λe=>z (pU.mpr e);refine nI (λ_=>?_) λ_=>?_
    ·exact zJ ⟨sm,.inr ⟨n+1,m,_,_,_,rfl,N,⋯,⋯,⋯,⋯,⋯⟩⟩
    ·exact zJ ⟨sm,n+1,m,_,_,_,rfl,N,⋯,⋯,⋯,⋯,⋯,⋯⟩
  ·rintro c b0 ⟨sm,g,d,out,D,F,rfl,o,l1,l2,I,v,K,b8⟩;exact⟨sm,.inr ⟨_,_,_,_,_,rfl,o,l1,l2,I,v,b8 ⋯⟩⟩
  ·rintro c b0 ⟨sm,⟨r,L,rfl,W⟩|⟨g,d,out,D,F,rfl,o,l1,l2,I,v,K⟩⟩
   ·exact zJ ⟨sm,_,_,rfl,W⟩
   dsimp only;refine zH (rS (wP ⟨rfl,?_⟩));refine zH (wK (xM (I:=λy c C=>Sm st C/\E6 λ(g d:Nat)(out:Array Keyed)(J D F:Nat)=>A7 (c=(none,g,d,out,J,D,F)) (MH κ a b out g d) (0<g) (g<a.size) (1<d) (d<=b.size) (x+1+g+d<a.size+b.size))
    (Q:=λc C=>Sm st C/\((∃r L,c=(some r,L)/\Res κ a.toList b.toList r.toList)\/E6 λ(g d:Nat)(out:Array Keyed)(J D F:Nat)=>A7 (c=(none,g,d,out,J,D,F)) (MH κ a b out g d) (0<g) (g<a.size) (1<d) (d<=b.size) (x+1+g+d<a.size+b.size))) ?_ ?_ ⟨sm,_,_,_,_,_,_,rfl,o,l1,l2,I,v,K⟩) ?_)
   ·rintro y c a9 _ b3 ⟨sm,g,d,out,J,D,F,rfl,o,l1,l2,I,v,K⟩;dsimp only
    revert J
    refine Ir (λJ=>?_) λ_=>rfl;rw[Aw];refine zH (wQ ?_);refine zH (kH (arr:=b) (i:=d-1) ⋯ λp e=>?_);refine zH (Sn Y (show kindOf _=kd from sm.k.trans Z) G.sa G.ga (a5 _ _ e) (show 0+g<=a.size by omega) ⋯ λk c0 a8 b4=>?_);have mk:=So (m:=k) G o ⋯ c0 v ⋯ e λi x hi O P=>lV (b4 i x hi O (by rw[wO];exact P));dsimp only;refine nI (λa6=>?_) λa6=>?_
    ·refine nI (λz=>?_) λz=>?_
     ·have j:k=0:=yQ z;subst j;exact zJ ⟨sm.set _,.inl ⟨_,_,rfl,fR G mk v⟩⟩
     have b7:k≠0:=λe=>z (pU.mpr e)
     -- the other's last comes out
     obtain⟨m,rfl⟩:∃m,d=m+1:=⟨d-1,⋯⟩;have S:=Cb G mk (show m<b.size by omega) ⋯ e λi y hi l=>a8 i y hi (by rw[wO];exact l);refine zH (lU (show b[m+1-1]?=some p from e) ?_);refine nI (λz=>?_) λz=>?_
     ·have j:m=1:=yQ z;subst j;exact zJ ⟨sm.set _,.inl ⟨_,_,rfl,eY G S ⋯⟩⟩
     have c1:m≠1:=λe=>z (pU.mpr e);have c2:0<m:=⋯
     refine zH (kH (arr:=a) (i:=k-1) ⋯ λq f=>?_);refine zH (Ax Y (show kindOf _=kd from sm.k.trans Z) G.sb G.gb (a3 _ _ f) (show 0+(m+1-1)<=b.size by omega) ⋯ λk2 M R a0=>?_);replace M:k2<=m:=M;have u:=Im (m:=k2) G S ⋯ M ⋯ ⋯ f λi x hi O P=>a0 i x hi O (by rw[wO];exact P);obtain⟨n,U⟩:∃n,k=n+1:=⟨k-1,⋯⟩;dsimp only;refine nI (λV=>?_) λV=>?_
     ·refine nI (λz=>?_) λz=>?_
      ·have j:k2=1:=yQ z;subst j;exact zJ ⟨sm.set _,.inl ⟨_,_,rfl,eY G u ⋯⟩⟩
      have b9:k2≠1:=λe=>z (pU.mpr e);refine nI (λz=>?_) λz=>?_
      ·have j:k2=0:=yQ z;subst j;exact zJ ⟨sm.set _,.inl ⟨_,_,rfl,Ip G u ⋯⟩⟩
      have c3:k2≠0:=λe=>z (pU.mpr e);rw[U]at u f ⊢;have t:=eZ G u (show n<a.size by omega) ⋯ f λi y hi l=>lV (R i y hi (by rw[wO];exact l));refine zH (lU (show a[n+1-1]?=some q from f) ?_);refine nI (λz=>?_) λz=>?_
      ·have j:n=0:=yQ z;subst j;exact zJ ⟨sm.set _,.inl ⟨_,_,rfl,fR G t ⋯⟩⟩
      have a4:n≠0:=λe=>z (pU.mpr e);refine nI (λ_=>?_) λ_=>?_
      ·exact zJ ⟨sm.set _,.inr ⟨n,_,_,_,_,_,rfl,t,⋯,⋯,⋯,⋯,⋯⟩⟩
      ·exact zJ ⟨sm.set _,n,_,_,_,_,_,rfl,t,⋯,⋯,⋯,⋯,⋯⟩
     ·have a2:k2=m:=by
       have:¬ m-k2 > 0:=V;omega
      subst a2;rw[Ca]at u;rw[U]at u f ⊢;have t:=eZ G u (show n<a.size by omega) ⋯ f λi y hi l=>lV (R i y hi (by rw[wO];exact l));refine zH (lU (show a[n+1-1]?=some q from f) ?_);refine nI (λz=>?_) λz=>?_
      ·have j:n=0:=yQ z;subst j;exact zJ ⟨sm.set _,.inl ⟨_,_,rfl,fR G t ⋯⟩⟩
      have a4:n≠0:=λe=>z (pU.mpr e);refine nI (λ_=>?_) λ_=>?_
      ·exact zJ ⟨sm.set _,.inr ⟨n,_,_,_,_,_,rfl,t,⋯,⋯,⋯,⋯,⋯⟩⟩
      ·exact zJ ⟨sm.set _,n,_,_,_,_,_,rfl,t,⋯,⋯,⋯,⋯,⋯⟩
    ·have k0:k=g:=by
      have:¬ g-k > 0:=a6;omega
     subst k0;rw[Ca]at mk
     -- the other's last comes out
     obtain⟨m,rfl⟩:∃m,d=m+1:=⟨d-1,⋯⟩;have S:=Cb G mk (show m<b.size by omega) ⋯ e λi y hi l=>a8 i y hi (by rw[wO];exact l);refine zH (lU (show b[m+1-1]?=some p from e) ?_);refine nI (λz=>?_) λz=>?_
     ·have j:m=1:=yQ z;subst j;exact zJ ⟨sm.set _,.inl ⟨_,_,rfl,eY G S ⋯⟩⟩
     have c1:m≠1:=λe=>z (pU.mpr e);have c2:0<m:=⋯
     refine zH (kH (arr:=a) (i:=k-1) ⋯ λq f=>?_);refine zH (Ax Y (show kindOf _=kd from sm.k.trans Z) G.sb G.gb (a3 _ _ f) (show 0+(m+1-1)<=b.size by omega) ⋯ λk2 M R a0=>?_);replace M:k2<=m:=M;have u:=Im (m:=k2) G S ⋯ M ⋯ ⋯ f λi x hi O P=>a0 i x hi O (by rw[wO];exact P);obtain⟨n,U⟩:∃n,k=n+1:=⟨k-1,⋯⟩;dsimp only;refine nI (λV=>?_) λV=>?_
     ·refine nI (λz=>?_) λz=>?_
      ·have j:k2=1:=yQ z;subst j;exact zJ ⟨sm.set _,.inl ⟨_,_,rfl,eY G u ⋯⟩⟩
      have b9:k2≠1:=λe=>z (pU.mpr e);refine nI (λz=>?_) λz=>?_
      ·have j:k2=0:=yQ z;subst j;exact zJ ⟨sm.set _,.inl ⟨_,_,rfl,Ip G u ⋯⟩⟩
      have c3:k2≠0:=λe=>z (pU.mpr e);rw[U]at u f ⊢;have t:=eZ G u (show n<a.size by omega) ⋯ f λi y hi l=>lV (R i y hi (by rw[wO];exact l));refine zH (lU (show a[n+1-1]?=some q from f) ?_);refine nI (λz=>?_) λz=>?_
      ·have j:n=0:=yQ z;subst j;exact zJ ⟨sm.set _,.inl ⟨_,_,rfl,fR G t ⋯⟩⟩
      have a4:n≠0:=λe=>z (pU.mpr e);refine nI (λ_=>?_) λ_=>?_
      ·exact zJ ⟨sm.set _,.inr ⟨n,_,_,_,_,_,rfl,t,⋯,⋯,⋯,⋯,⋯⟩⟩
      ·exact zJ ⟨sm.set _,n,_,_,_,_,_,rfl,t,⋯,⋯,⋯,⋯,⋯⟩
     ·have a2:k2=m:=by
       have:¬ m-k2 > 0:=V;omega
      subst a2;rw[Ca]at u;rw[U]at u f ⊢;have t:=eZ G u (show n<a.size by omega) ⋯ f λi y hi l=>lV (R i y hi (by rw[wO];exact l));refine zH (lU (show a[n+1-1]?=some q from f) ?_);refine nI (λz=>?_) λz=>?_
      ·have j:n=0:=yQ z;subst j;exact zJ ⟨sm.set _,.inl ⟨_,_,rfl,fR G t ⋯⟩⟩
      have a4:n≠0:=λe=>z (pU.mpr e);refine nI (λ_=>?_) λ_=>?_
      ·exact zJ ⟨sm.set _,.inr ⟨n,_,_,_,_,_,rfl,t,⋯,⋯,⋯,⋯,⋯⟩⟩
      ·exact zJ ⟨sm.set _,n,_,_,_,_,_,rfl,t,⋯,⋯,⋯,⋯,⋯⟩
   ·rintro c a9 ⟨sm,g,d,out,J,D,F,rfl,o,l1,l2,I,v,K⟩;exact⟨sm,.inr ⟨_,_,_,_,_,_,rfl,o,l1,l2,I,v,K⟩⟩
   ·rintro c a9 ⟨sm,⟨r,L,rfl,W⟩|⟨g,d,out,J,D,F,rfl,o,l1,l2,I,v,K⟩⟩
    ·exact zJ ⟨sm,_,_,rfl,W⟩
    dsimp only;rw[Aw];refine zH (wQ (zJ ⟨sm.set _,_,_,_,_,rfl,o,l1,l2,I,v,K⟩))
 ·rintro c a1 ⟨sm,g,d,out,J,rfl,o,l1,l2,I,v,K⟩;omega
 ·rintro c a1 ⟨sm,r,L,rfl,W⟩;exact zJ (h r a1 sm W)
end
theorem Sk(i:Nat):mergeAt' i=(do
 let s ←get
 let (some (sa,na,power),some (sb,nb,_)):=((pendingOf s)[i]?,(pendingOf s)[i+1]?)|unsupported "internal:list.sort.pending"
 set (SortSt.mk' (kindOf s) (arrOf s) (((pendingOf s).setIfInBounds i (sa,na+nb,power)).eraseIdxIfInBounds (i+1)) (gallopOf s) (failedOf s))
 let some k ←jK false (←elem' (arrOf s) sb) (arrOf s) sa na 0|return false
 let (sa,na):=(sa+k,na-k)
 if na == 0 then return true
 let some nb ←jK true (←elem' (arrOf s) (sa+na-1)) (arrOf s) sb nb (nb-1)|return false
 if nb == 0 then return true
 let x:=(arrOf s).extract sa sb
 let y:=(arrOf s).extract sb (sb+nb)
 let b ←if na<=nb then Cg x y else Ce x y
 modify λs=>setArr s (b.toList.zipIdx.foldl (λa(p,j)=>a.setIfInBounds (sa+j) p) (arrOf s))
 return (failedOf (←get)).isNone):=rfl
section
variable {prog:Program} {w:World} {A:Around} {E:VP} {s:Shared} {κ:PyProof.Rows.KeyKind} {kd:SortKind}
def seg(l:List Keyed)(i j:Nat):List Keyed:=(l.drop i).take (j-i)
theorem Sj{st a:SortSt}{Q:PUnit->SortSt->Prop}(h:Q ⟨⟩ a):wpS (model prog w) A E s (set a:StateT SortSt Sem PUnit) Q st:=by
 unfold wpS;rw[StateT.run_set];exact zB ⟨rfl,h⟩
theorem Dz{l:List Keyed}{i j k:Nat}(b:i<=j)(a:j<=k):seg l i k=seg l i j++seg l j k:=by
 unfold seg;rw[show k-i=(j-i)+(k-j) by omega,qC,qX,show i+(j-i)=j by omega]
theorem Il{l:List Keyed}{i j:Nat}(h:i<=j):l.take i++seg l i j++l.drop j=l:=by
 unfold seg;have:l.take j=l.take i++(l.drop i).take (j-i):=by
  conv=>lhs;rw[show j=i+(j-i) by omega]
  exact qC
 rw[←this,xS]
theorem cO{l:List Keyed}{i j t:Nat}:(seg l i j)[t]?=if t<j-i then l[i+t]? else none:=by
 unfold seg;rw[List.getElem?_take];split
 ·rw[tZ]
 ·rfl
theorem iK{l:List Keyed}{i j:Nat}{x:Keyed}(h:x∈seg l i j):∃t,t<j-i/\l[i+t]?=some x:=eQ h
theorem Dy{l:List Keyed}{i j:Nat}(h:j<=l.length):(seg l i j).length=j-i:=by
 unfold seg;rw[yS,uV];omega
theorem At{l:List Keyed}{i j:Nat}(e:Srt κ (seg l i j)){a u:Nat}{x y:Keyed}(b:a<=u)(d:u<j-i)(f:l[i+a]?=some x)(c:l[i+u]?=some y):le' κ x y:=
 gJ e b (by rw[cO,zG ⋯];exact f) (by rw[cO,zG d];exact c)
theorem iL(a:Array Keyed)(i j:Nat):(a.extract i j).toList=seg a.toList i j:=by
 unfold seg;simp only[Array.toList_extract,List.extract_eq_take_drop]
theorem Ik:∀(m:List Keyed)(b c:Nat)(a:Array Keyed),c+b+m.length<=a.size->((m.zipIdx b).foldl (λa(x:Keyed×Nat)=>a.setIfInBounds (c+x.2) x.1) a).toList=a.toList.take (c+b)++m++a.toList.drop (c+b+m.length)
 |[],b,c,a,_=>by simp
 | p:: m,b,c,a,h=>by
  rw[zW]at h;have hl:c+b<a.toList.length:=by rw[zO];omega
  rw[vY,wL,Ik m (b+1) c _ (by rw[Array.size_setIfInBounds];omega),Array.toList_setIfInBounds,zW];show List.take (c+(b+1)) (a.toList.set (c+b) p)++m++List.drop (c+(b+1)+m.length) (a.toList.set (c+b) p)=_;have e1:List.take (c+(b+1)) (a.toList.set (c+b) p)=a.toList.take (c+b)++[p]:=by
   rw[show c+(b+1)=c+b+1 by omega,wY,List.take_set_of_le (zE _),sU hl];rfl
  have d:List.drop (c+(b+1)+m.length) (a.toList.set (c+b) p)=a.toList.drop (c+b+(m.length+1)):=by
   rw[List.drop_set_of_lt ⋯,show c+(b+1)+m.length=c+b+(m.length+1) by omega]
  rw[e1,d];simp
theorem Si(u:Cmp prog w A s κ kd){st:SortSt}{b:Array Keyed}{ib a:Nat}{q:Keyed}{n:Nat}{Q:Option Nat->SortSt->Prop}(g:kindOf st=kd)(D:∀i j x y,i<=j->j<n->b[ib+i]?=some x->b[ib+j]?=some y->le' κ x y)(f:∀x∈b.toList,Gd κ x)(v:Gd κ q)(F:ib+n<=b.size)(hh:a<n)
  (h:∀k,k<=n->(∀i x,i<k->b[ib+i]?=some x->le' κ x q)->(∀i x,k<=i->i<n->b[ib+i]?=some x->lq κ q x=true)->Q (some k) st):wpS (model prog w) A E s (jK false q b ib n a) Q st:=by
 refine cK u (B:=λi=>!lq κ q (b.getD (ib+i) q)) g v hh (λi hi=>?_) (λi j z C c=>?_) λk t l o=>h k t (λi x hi e=>?_) λi x hi m e=>?_
 ·obtain⟨p,e⟩:=mW (a:=b) (i:=ib+i) ⋯;refine⟨p,e,f p (yF (nE.mp e)),?_⟩;rw[show b.getD (ib+i) q=p by simp[Array.getD_eq_getD_getElem?,e]];rfl
 ·obtain⟨p,e⟩:=mW (a:=b) (i:=ib+i) ⋯;obtain⟨r,d⟩:=mW (a:=b) (i:=ib+j) ⋯;rw[show b.getD (ib+j) q=r by simp[Array.getD_eq_getD_getElem?,d]]at c;rw[show b.getD (ib+i) q=p by simp[Array.getD_eq_getD_getElem?,e]];have l1:le' κ r q:=by unfold le';simpa using c
  have:=lI (D i j p r z C e d) l1;unfold le' at this;rw[this];rfl
 ·have:=l i hi;rw[show b.getD (ib+i) q=x by simp[Array.getD_eq_getD_getElem?,e]]at this;unfold le';simpa using this
 ·have:=o i hi m;rw[show b.getD (ib+i) q=x by simp[Array.getD_eq_getD_getElem?,e]]at this;simpa using this
theorem Sh(u:Cmp prog w A s κ kd){st:SortSt}{b:Array Keyed}{ib a:Nat}{q:Keyed}{n:Nat}{Q:Option Nat->SortSt->Prop}(g:kindOf st=kd)(D:∀i j x y,i<=j->j<n->b[ib+i]?=some x->b[ib+j]?=some y->le' κ x y)(f:∀x∈b.toList,Gd κ x)(v:Gd κ q)(F:ib+n<=b.size)(hh:a<n)
  (h:∀k,k<=n->(∀i x,i<k->b[ib+i]?=some x->lq κ x q=true)->(∀i x,k<=i->i<n->b[ib+i]?=some x->le' κ q x)->Q (some k) st):wpS (model prog w) A E s (jK true q b ib n a) Q st:=by
 refine cK u (B:=λi=>lq κ (b.getD (ib+i) q) q) g v hh (λi hi=>?_) (λi j z C c=>?_) λk t l o=>h k t (λi x hi e=>?_) λi x hi m e=>?_
 ·obtain⟨p,e⟩:=mW (a:=b) (i:=ib+i) ⋯;refine⟨p,e,f p (yF (nE.mp e)),?_⟩;rw[show b.getD (ib+i) q=p by simp[Array.getD_eq_getD_getElem?,e]];rfl
 ·obtain⟨p,e⟩:=mW (a:=b) (i:=ib+i) ⋯;obtain⟨r,d⟩:=mW (a:=b) (i:=ib+j) ⋯;rw[show b.getD (ib+j) q=r by simp[Array.getD_eq_getD_getElem?,d]]at c;rw[show b.getD (ib+i) q=p by simp[Array.getD_eq_getD_getElem?,e]];exact KeyOrd.klt_of_kle_of_klt (O:=κ.toKeyOrd) (D i j p r z C e d) c
 ·have:=l i hi;rw[show b.getD (ib+i) q=x by simp[Array.getD_eq_getD_getElem?,e]]at this;exact this
 ·have:=o i hi m;rw[show b.getD (ib+i) q=x by simp[Array.getD_eq_getD_getElem?,e]]at this;exact this
theorem Sg(K:Cmp prog w A s κ kd){st:SortSt}{i b c L f c5:Nat}{Q:Bool->SortSt->Prop}(b8:kindOf st=kd)(S:∀x∈(arrOf st).toList,Gd κ x)(c4:failedOf st=none)(e1:(pendingOf st)[i]?=some (b,c,L))(a5:(pendingOf st)[i+1]?=some (b+c,f,c5))
  (d8:1<=c)(c9:1<=f)(d0:b+c+f<=(arrOf st).size)(I:Srt κ (seg (arrOf st).toList b (b+c)))(J:Srt κ (seg (arrOf st).toList (b+c) (b+c+f)))
  (h:∀n X,kindOf n=kd->failedOf n=none->pendingOf n=((pendingOf st).setIfInBounds i (b,c+f,L)).eraseIdxIfInBounds (i+1)->(arrOf n).toList=(arrOf st).toList.take b++X++(arrOf st).toList.drop (b+c+f)->X.Perm (seg (arrOf st).toList b (b+c+f))->Srt κ X->Q true n):
  wpS (model prog w) A E s (mergeAt' i) Q st:=by
 rw[Sk];refine zH (uS ?_);rw[e1,a5];dsimp only;refine zH (Sj ?_);generalize hst:SortSt.mk' (kindOf st) (arrOf st) (((pendingOf st).setIfInBounds i (b,c+f,L)).eraseIdxIfInBounds (i+1)) (gallopOf st) (failedOf st)=C;have k1:kindOf C=kd:=by rw[←hst];exact b8
 have a0:arrOf C=arrOf st:=by rw[←hst]
 have W:pendingOf C=((pendingOf st).setIfInBounds i (b,c+f,L)).eraseIdxIfInBounds (i+1):=by rw[←hst]
 have a2:failedOf C=none:=by rw[←hst];exact c4
 clear hst e1 a5;generalize harr:arrOf st=arr at*
 generalize pendingOf st=d7 at*;have c8:arr.toList.length=arr.size:=zO;have N:∀d x,arr[d]?=some x->Gd κ x:=λd x e=>S x (yF (nE.mp e))
 -- already in order
 have stay:Srt κ (seg arr.toList b (b+c+f))->Q true C:=λb7=>h C _ k1 a2 W (by rw[a0,Il ⋯]) (qV _) b7;have T:seg arr.toList b (b+c+f)=seg arr.toList b (b+c)++seg arr.toList (b+c) (b+c+f):=Dz ⋯ ⋯;refine zH (kH (arr:=arr) (i:=b+c) ⋯ λp ep=>?_);refine zH (Si K k1 (λd u x y P c2 o F=>At I P ⋯ (nE.mp o) (nE.mp F)) S (N _ _ ep) ⋯ ⋯ λk d5 a1 b1=>?_);dsimp only;have R:∀y∈seg arr.toList (b+c) (b+c+f),le' κ p y:=λy m=>by
  obtain⟨d,v,l⟩:=iK m;exact At J (yR d) v (nE.mp ep) l
 refine nI (λz=>?_) λz=>?_
 ·have d4:c-k=0:=yQ z;refine zJ (stay ?_);rw[T];refine oE.mpr ⟨I,J,λx g y m=>?_⟩;obtain⟨d,v,l⟩:=iK g;exact lI (a1 d x ⋯ (nE.mpr l)) (R y m)
 have d3:c-k≠0:=λe=>z (pU.mpr e);refine zH (kH (arr:=arr) (i:=b+k+(c-k)-1) ⋯ λq O=>?_);rw[show b+k+(c-k)-1=b+(c-1) by omega]at O;refine zH (Sh K k1 (λd u x y P c2 o F=>At J P ⋯ (nE.mp o) (nE.mp F)) S (N _ _ O) ⋯ ⋯ λk2 d2 b9 Y=>?_);dsimp only;have a3:∀x∈seg arr.toList b (b+c),le' κ x q:=λx g=>by
  obtain⟨d,v,l⟩:=iK g;exact At I (show d<=c-1 by omega) ⋯ l (nE.mp O)
 refine nI (λy=>?_) λy=>?_
 ·have d1:k2=0:=yQ y;refine zJ (stay ?_);rw[T];refine oE.mpr ⟨I,J,λx g y m=>?_⟩;obtain⟨d,v,l⟩:=iK m;exact lI (a3 x g) (Y d y ⋯ ⋯ (nE.mpr l))
 have d6:k2≠0:=λe=>y (pU.mpr e)
 -- the parts
 have V:seg arr.toList b (b+c)=seg arr.toList b (b+k)++seg arr.toList (b+k) (b+c):=Dz ⋯ ⋯;have M:seg arr.toList (b+c) (b+c+f)=seg arr.toList (b+c) (b+c+k2)++seg arr.toList (b+c+k2) (b+c+f):=Dz ⋯ ⋯;have Z:=I;have a4:=J;rw[V]at Z;rw[M]at a4;obtain⟨b3,b6,b4⟩:=oE.mp Z;obtain⟨c3,c0,c1⟩:=oE.mp a4;have a8:∀x∈seg arr.toList b (b+k),le' κ x p:=λx g=>by
  obtain⟨d,v,l⟩:=iK g;exact a1 d x ⋯ (nE.mpr l)
 have b2:∀x∈seg arr.toList (b+k) (b+c),le' κ p x:=λx g=>by
  obtain⟨d,v,l⟩:=iK g;exact lV (b1 (k+d) x ⋯ ⋯ (by rw[show b+(k+d)=b+k+d by omega];exact nE.mpr l))
 have c6:∀y∈seg arr.toList (b+c) (b+c+k2),le' κ y q:=λy m=>by
  obtain⟨d,v,l⟩:=iK m;exact lV (b9 d y ⋯ (nE.mpr l))
 have c7:∀y∈seg arr.toList (b+c+k2) (b+c+f),le' κ q y:=λy m=>by
  obtain⟨d,v,l⟩:=iK m;exact Y (k2+d) y ⋯ ⋯ (by rw[show b+c+(k2+d)=b+c+k2+d by omega];exact nE.mpr l)
 have G:MG κ (arr.extract (b+k) (b+c)) (arr.extract (b+c) (b+c+k2)):=by
  refine⟨by rw[iL];exact b6,by rw[iL];exact c3,λx g=>?_,λx g=>?_,by rw[rZ];omega,by rw[rZ];omega,λx o y m=>?_,λx y o F=>?_⟩
  ·rw[iL]at g;obtain⟨d,_,l⟩:=iK g;exact N _ x (nE.mpr l)
  ·rw[iL]at g;obtain⟨d,_,l⟩:=iK g;exact N _ x (nE.mpr l)
  ·rw[iL]at m;rw[nE,iL,cO,rZ]at o;split at o
   ·rw[show b+k+(min (b+c) arr.size-(b+k)-1)=b+(c-1) by omega,nE.mp O]at o;cases o;exact c6 y m
   ·cases o
  ·rw[nE,iL,cO,zG ⋯,Nat.add_zero,nE.mp ep]at o;cases o;rw[nE,iL]at F;exact b2 y (yF F)
 have a6:∀(r:Array Keyed)(n:SortSt),Sm C n->Res κ (arr.extract (b+k) (b+c)).toList (arr.extract (b+c) (b+c+k2)).toList r.toList->wpS (model prog w) A E s (do
   modify λs=>setArr s (r.toList.zipIdx.foldl (λa(p,j)=>a.setIfInBounds (b+k+j) p) (arrOf s))
   return (failedOf (←get)).isNone) Q n:=λr n sm t=>by
  rw[iL,iL]at t;refine zH (wQ (zH (uS (zJ ?_))));have a7:failedOf n=none:=sm.f.trans a2;show Q (failedOf n).isNone _;rw[a7];have a9:r.toList.length=(c-k)+k2:=by
   rw[t.1.length_eq,zS,Dy ⋯,Dy ⋯];omega
  refine h _ (seg arr.toList b (b+k)++r.toList++seg arr.toList (b+c+k2) (b+c+f)) (sm.k.trans k1) a7 (sm.p.trans W) ?_ ?_ ?_
  ·show(List.foldl _ (arrOf n) _).toList=_;rw[sm.a,a0,Ik r.toList 0 (b+k) arr ⋯,a9];have b5:arr.toList.take (b+k+0)=arr.toList.take b++seg arr.toList b (b+k):=by
    unfold seg;rw[Nat.add_zero,qC,show b+k-b=k by omega]
   have b0:arr.toList.drop (b+k+0+(c-k+k2))=seg arr.toList (b+c+k2) (b+c+f)++arr.toList.drop (b+c+f):=by
    unfold seg;rw[show b+k+0+(c-k+k2)=b+c+k2 by omega]
    conv=>lhs;rw[←xS (b+c+f-(b+c+k2)) (arr.toList.drop (b+c+k2))]
    rw[qX,show b+c+k2+(b+c+f-(b+c+k2))=b+c+f by omega]
   rw[b5,b0];simp only[List.append_assoc]
  ·rw[T,V,M];have:=(t.1.append_left (seg arr.toList b (b+k))).append_right (seg arr.toList (b+c+k2) (b+c+f));simp only[List.append_assoc]at this ⊢;exact this
  ·have mem:∀x∈r.toList,x∈seg arr.toList (b+k) (b+c)\/x∈seg arr.toList (b+c) (b+c+k2):=λx g=>oA.mp (t.1.mem_iff.mp g);refine oE.mpr ⟨oE.mpr ⟨b3,t.2,λx g y m=>?_⟩,c0,λx g y m=>?_⟩
   ·rcases mem y m with D|D
    ·exact b4 x g y D
    ·exact lI (a8 x g) (R y (by rw[M];exact xN _ D))
   ·rcases oA.mp g with D|D
    ·exact lI (a8 x D) (R y (by rw[M];exact yK _ m))
    ·rcases mem x D with U|U
     ·exact lI (a3 x (by rw[V];exact yK _ U)) (c7 y m)
     ·exact c1 x U y m
 refine nI (λ_=>?_) λ_=>?_
 ·exact zH (Su K k1 G λr n sm t=>a6 r n sm t)
 ·exact zH (Sl K k1 G λr n sm t=>a6 r n sm t)
theorem cP(e:Cmp prog w A s κ kd){st:SortSt}{i j:Nat}{Q:Option Bool->SortSt->Prop}(d:kindOf st=kd)(a:∀x∈(arrOf st).toList,Gd κ x)(hi:i<(arrOf st).size)(f:j<(arrOf st).size)
  (h:∀x y,(arrOf st)[i]?=some x->(arrOf st)[j]?=some y->Q (some (lq κ x y)) st):wpS (model prog w) A E s (ltAt' i j) Q st:=by
 rw[ltAt'_eq];refine zH (uS ?_);refine zH (kH hi λx c=>?_);refine zH (kH f λy b=>?_);exact cJ e d (a x (yF (nE.mp c))) (a y (yF (nE.mp b))) (h x y c b)
structure Ch(lo hi:Nat)(st st':SortSt):Prop where
 k:kindOf st'=kindOf st
 p:pendingOf st'=pendingOf st
 f:failedOf st'=failedOf st
 z:(arrOf st').size=(arrOf st).size
 m:(arrOf st').Perm (arrOf st)
 o:∀i,i<lo\/hi<=i->(arrOf st')[i]?=(arrOf st)[i]?
theorem Ch.refl(lo hi:Nat)(st:SortSt):Ch lo hi st st:=⟨rfl,rfl,rfl,rfl,Array.Perm.refl _,λ_ _=>rfl⟩
theorem Ch.trans{lo hi:Nat}{a b c:SortSt}(e:Ch lo hi a b)(d:Ch lo hi b c):Ch lo hi a c:=⟨d.k.trans e.k,d.p.trans e.p,d.f.trans e.f,d.z.trans e.z,d.m.trans e.m,λi hi=>(d.o i hi).trans (e.o i hi)⟩
theorem Ch.wide{lo hi hi':Nat}{a b:SortSt}(h:Ch lo hi a b)(hh:hi<=hi'):Ch lo hi' a b:=⟨h.k,h.p,h.f,h.z,h.m,λi hi=>h.o i ⋯⟩
theorem Ch.good{lo hi:Nat}{a b:SortSt}(h:Ch lo hi a b)(c:∀x∈(arrOf a).toList,Gd κ x):∀x∈(arrOf b).toList,Gd κ x:=λx d=>c x ((h.m.toList.mem_iff).mp d)
def Up(κ:PyProof.Rows.KeyKind)(a:Array Keyed)(lo hi:Nat):Prop:=∀i j x y,lo<=i->i<=j->j<hi->a[i]?=some x->a[j]?=some y->le' κ x y
def Dn(κ:PyProof.Rows.KeyKind)(a:Array Keyed)(lo hi:Nat):Prop:=∀i j x y,lo<=i->i<=j->j<hi->a[i]?=some x->a[j]?=some y->le' κ y x
theorem Up.one{a:Array Keyed}{lo:Nat}:Up κ a lo (lo+1):=λi j x y e f d c b=>by
 have:i=j:=⋯
 subst this;rw[c]at b;cases b;exact iY _
theorem Up.more{a:Array Keyed}{lo hi hi':Nat}(h:Up κ a lo hi)(hl:lo<hi)(o:hi<a.size)(k:∀x y,a[hi-1]?=some x->a[hi]?=some y->le' κ x y)(f:hi'=hi+1:=by omega):Up κ a lo hi':=λi j x y e l n c b=>by
 subst f;rcases uT j hi with q|q
 ·exact h i j x y e l q c b
 ·have g:j=hi:=⋯
  subst g;rcases uT i j with m|m
  ·obtain⟨u,d⟩:=mW (a:=a) (i:=j-1) ⋯;exact lI (h i (j-1) x u e ⋯ ⋯ c d) (k u y d b)
  ·have:i=j:=⋯
   subst this;rw[c]at b;cases b;exact iY _
theorem Up.same{a b:Array Keyed}{lo hi:Nat}(h:Up κ a lo hi)(e:∀i,lo<=i->i<hi->b[i]?=a[i]?):Up κ b lo hi:=λi j x y d g c k f=>h i j x y d g c (by rw[←e i d ⋯];exact k) (by rw[←e j ⋯ c];exact f)
theorem Dn.more{a:Array Keyed}{lo hi hi':Nat}(h:Dn κ a lo hi)(hl:lo<hi)(o:hi<a.size)(k:∀x y,a[hi-1]?=some x->a[hi]?=some y->le' κ y x)(f:hi'=hi+1:=by omega):Dn κ a lo hi':=λi j x y e l n c b=>by
 subst f;rcases uT j hi with q|q
 ·exact h i j x y e l q c b
 ·have g:j=hi:=⋯
  subst g;rcases uT i j with m|m
  ·obtain⟨u,d⟩:=mW (a:=a) (i:=j-1) ⋯;exact lI (k u y d b) (h i (j-1) x u e ⋯ ⋯ c d)
  ·have:i=j:=⋯
   subst this;rw[c]at b;cases b;exact iY _
abbrev mir(a:Array Keyed)(i j:Nat):Array Keyed:=mirror a i j ((j-i)/2)
theorem gK{a:Array Keyed}{i j k:Nat}(b:j<=a.size):(mir a i j)[k]?=if i<=k/\k<j then a[i+j-1-k]? else a[k]?:=getElem?_mirror_all b k
theorem Dn.turned{a:Array Keyed}{lo hi c b:Nat}(h:Dn κ a lo hi)(u:Up κ a c b)(hl:lo<=c)(o:b<=hi)(n:hi<=a.size):Dn κ (mir a c b) lo hi:=λi j x y k m g e d=>by
 rw[gK ⋯]at e d
 by_cases l:c<=i/\i<b
 ·rw[zG l]at e
  by_cases f:c<=j/\j<b
  ·rw[zG f]at d;exact u _ _ y x ⋯ (show c+b-1-j<=c+b-1-i by omega) ⋯ d e
  ·rw[zF f]at d;exact h _ _ x y ⋯ (show c+b-1-i<=j by omega) g e d
 ·rw[zF l]at e
  by_cases f:c<=j/\j<b
  ·rw[zG f]at d;exact h _ _ x y k (show i<=c+b-1-j by omega) ⋯ e d
  ·rw[zF f]at d;exact h _ _ x y k m g e d
theorem Dn.up{a:Array Keyed}{lo hi:Nat}(h:Dn κ a lo hi)(c:hi<=a.size):Up κ (mir a lo hi) lo hi:=λi j x y f g e d b=>by
 rw[gK c,zG ⟨f,⋯⟩]at d;rw[gK c,zG ⟨⋯,e⟩]at b;exact h _ _ y x ⋯ (show lo+hi-1-j<=lo+hi-1-i by omega) ⋯ b d
theorem As{st:SortSt}{i j:Nat}{Q:Unit->SortSt->Prop}(b:j<=(arrOf st).size)(h:∀a,Ch i j st a->arrOf a=mir (arrOf st) i j->Q () a):wpS (model prog w) A E s (reverseSlice' i j) Q st:=by
 rw[reverseSlice'_eq];refine wQ (h _ ⟨rfl,rfl,rfl,mirror_size _ _ _ _,mirror_perm _ _ _ _,λk c=>?_⟩ rfl);exact(gK b).trans (zF ⋯)
theorem Ij(m:Cmp prog w A s κ kd){st:SortSt}{lo a b:Nat}{f:Nat->Option (Option Nat)×Nat->StateT SortSt Sem (ForInStep (Option (Option Nat)×Nat))}{Q:Option (Option Nat)×Nat->SortSt->Prop}(o:kindOf st=kd)(r:∀x∈(arrOf st).toList,Gd κ x)(K:lo+b<=(arrOf st).size)(J:1<=a)(D:a<=b)(z:Up κ (arrOf st) lo (lo+a))
  (F:∀x c,f x c=(do
   let G ←ltAt' (lo+c.2) (lo+c.2-1)
   match G with
    |some C=>if C=true then pure (ForInStep.done (none,c.2)) else pure (ForInStep.yield (none,c.2+1))
    |_=>pure (ForInStep.done (some none,c.2))))
  (h:∀n,a<=n->n<=b->Up κ (arrOf st) lo (lo+n)->(n=b\/∀x y,(arrOf st)[lo+n]?=some x->(arrOf st)[lo+n-1]?=some y->lq κ x y=true)->Q (none,n) st):
  wpS (model prog w) A E s (forIn [a:b] ((none,a):Option (Option Nat)×Nat) f) Q st:=by
 refine wK (xM (I:=λx c e=>e=st/\c=(none,x)/\a<=x/\x<=b/\Up κ (arrOf st) lo (lo+x))
  (Q:=λc e=>e=st/\∃n,c=(none,n)/\a<=n/\n<=b/\Up κ (arrOf st) lo (lo+n)/\(n=b\/∀x y,(arrOf st)[lo+n]?=some x->(arrOf st)[lo+n-1]?=some y->lq κ x y=true)) ?_ ?_ ⟨rfl,rfl,zE _,D,z⟩) ?_
 ·rintro x c e L I ⟨rfl,rfl,g,i,d⟩;rw[F];dsimp only;refine zH (cP m o r ⋯ ⋯ λp q ep l=>?_);dsimp only;cases hl:lq κ p q with
  |true =>
   rw[zG rfl];refine zJ ⟨rfl,x,rfl,g,i,d,.inr λu v k j=>?_⟩;rw[ep]at k;rw[l]at j;cases k;cases j;exact hl
  |false =>
   rw[zF (by simp)];refine zJ ⟨rfl,rfl,⋯,⋯,?_⟩;refine Up.more d ⋯ ⋯ λu v k j=>?_;rw[l]at k;rw[ep]at j;cases k;cases j;exact hl
 ·rintro c e ⟨rfl,rfl,g,i,d⟩;exact⟨rfl,_,rfl,g,i,d,.inl ⋯⟩
 ·rintro c e ⟨rfl,n,rfl,g,i,d,t⟩;exact h n g i d t
theorem Ii{b:Type}{c:Prop}[Decidable c]{P T:StateT SortSt Sem b}{R:SortSt->Prop}{st:SortSt}{Q:b->SortSt->Prop}(e:c->(∀a,R a->wpS (model prog w) A E s P Q a)->wpS (model prog w) A E s T Q st)(d:¬ c->R st)(go:∀a,R a->wpS (model prog w) A E s P Q a):wpS (model prog w) A E s (if c then T else P) Q st:=
 nI (λx=>e x go) λx=>go st (d x)
theorem Sf(t:Cmp prog w A s κ kd){st:SortSt}{lo o:Nat}{Q:Option Nat->SortSt->Prop}(L:kindOf st=kd)(M:∀x∈(arrOf st).toList,Gd κ x)(a4:lo+o<=(arrOf st).size)(b4:1<=o)
  (h:∀n b,1<=n->n<=o->Ch lo (lo+n) st b->Up κ (arrOf b) lo (lo+n)->Q (some n) b):wpS (model prog w) A E s (countRun' lo o) Q st:=by
 rw[countRun'_eq];refine zH (Ij t L M a4 (zE _) b4 Up.one (λx c=>rfl) λn a0 a2 up nx=>?_);dsimp only;refine nI (λz=>?_) λz=>?_
 ·exact zJ (h n st a0 a2 (Ch.refl _ _ _) up)
 have R:n≠o:=λe=>z (pU.mpr e);have T:=nx.resolve_left R;refine Ii (R:=λF=>Ch lo (lo+n) st F/\Dn κ (arrOf F) lo (lo+n+1)) (λy go=>?_) (λy=>?_) λF a3=>?_
 ·refine zH (cP t L M ⋯ ⋯ λp q ep r=>?_);dsimp only;cases hl:lq κ p q with
  |true =>
   rw[zG rfl];exact zJ (h n st a0 a2 (Ch.refl _ _ _) up)
  | false =>
   rw[zF (by simp)];refine zH (As ⋯ λF G W=>?_);refine go F ⟨G,Dn.more (hi:=lo+n) ?_ ⋯ (by rw[G.z];omega) λu v g f=>?_⟩
   ·-- all alike
    rw[W];intro i j x y b1 b2 X K C;rw[gK ⋯,zG ⟨b1,⋯⟩]at K;rw[gK ⋯,zG ⟨⋯,X⟩]at C;exact up _ _ y x ⋯ (show lo+(lo+n)-1-j<=lo+(lo+n)-1-i by omega) ⋯ C K
   ·rw[G.o _ (.inr (zE _))]at f;rw[W,gK ⋯,zG ⋯,show lo+(lo+n)-1-(lo+n-1)=lo by omega,ep]at g;cases g;exact lI (lV (T v q f r)) hl
 ·have:n=1:=⋯
  subst this;refine⟨Ch.refl _ _ _,Dn.more (hi:=lo+1) (λi j x y b1 b2 X K C=>?_) ⋯ ⋯ λu v g f=>lV (T v u f g)⟩;have:i=j:=⋯
  subst this;rw[K]at C;cases C;exact iY _
 ·obtain⟨G,k⟩:=a3;refine zH (rS (wP ⟨rfl,?_⟩));refine zH (wK (xM (I:=λx c b=>∃d,c=(none,x,d)/\n+1<=x/\x<=o/\d+1<=x/\Ch lo (lo+x) st b/\Dn κ (arrOf b) lo (lo+x)/\Up κ (arrOf b) (lo+x-(d+1)) (lo+x))
   (Q:=λc b=>∃x d,c=(none,x,d)/\n+1<=x/\x<=o/\d+1<=x/\Ch lo (lo+x) st b/\Dn κ (arrOf b) lo (lo+x)/\Up κ (arrOf b) (lo+x-(d+1)) (lo+x)) ?_ ?_ ⟨0,rfl,zE _,⋯,⋯,G.wide ⋯,k,by rw[show lo+(n+1)=lo+n+1 by omega];exact Up.one⟩) ?_)
  ·rintro x c b c0 b5 ⟨d,rfl,J,D,N,ch,k,up⟩;have Y:kindOf b=kd:=ch.k.trans L;have a1:=ch.good M;have R:=ch.z;dsimp only;refine zH (cP t Y a1 ⋯ ⋯ λp q ep r=>?_);dsimp only;cases hl:lq κ p q with
   |true =>
    rw[zG rfl];refine nI (λO=>?_) λO=>?_
    ·refine zH (As ⋯ λl a I=>zJ ?_);have P:Ch lo (lo+x) b l:=⟨a.k,a.p,a.f,a.z,a.m,λi hi=>a.o i ⋯⟩;refine⟨0,rfl,⋯,⋯,⋯,(ch.trans P).wide ⋯,?_,by rw[show lo+(x+1)-(0+1)=lo+x by omega];exact Up.one⟩;refine Dn.more (hi:=lo+x) (by rw[I];exact Dn.turned k up ⋯ (zE _) ⋯) ⋯ (by rw[a.z];omega) λu v g f=>?_;rw[a.o _ (.inr (zE _)),ep]at f;cases f;rw[I,gK ⋯,zG ⋯]at g;have l1:le' κ q u:=k _ _ u q ⋯ (show lo+x-(d+1)+(lo+x)-1-(lo+x-1)<=lo+x-1 by omega) ⋯ g r;exact lI (lV hl) l1
    ·refine zJ ⟨0,rfl,⋯,⋯,⋯,ch.wide ⋯,?_,by rw[show lo+(x+1)-(0+1)=lo+x by omega];exact Up.one⟩;refine Dn.more k ⋯ ⋯ λu v g f=>?_;rw[r]at g;rw[ep]at f;cases g;cases f;exact lV hl
   | false =>
    rw[zF (by simp)];refine zH (cP t Y a1 ⋯ ⋯ λb8 b6 V U=>?_);rw[r]at V;rw[ep]at U;cases V;cases U;dsimp only;cases hl2:lq κ q p with
    |true =>
     rw[zG rfl];exact zJ ⟨x,d,rfl,J,D,N,ch,k,up⟩
    | false =>
     rw[zF (by simp)];refine zJ ⟨d+1,rfl,⋯,⋯,⋯,ch.wide ⋯,?_,?_⟩
     ·refine Dn.more k ⋯ ⋯ λu v g f=>?_;rw[r]at g;rw[ep]at f;cases g;cases f;exact hl2
     ·have:=Up.more (hi':=lo+(x+1)) up ⋯ ⋯ λu v g f=>by
       rw[r]at g;rw[ep]at f;cases g;cases f;exact hl
      rw[show lo+(x+1)-(d+1+1)=lo+x-(d+1) by omega];exact this
  ·rintro c b ⟨d,rfl,J,D,N,ch,k,up⟩;exact⟨_,d,rfl,J,D,N,ch,k,up⟩
  ·rintro c b ⟨x,d,rfl,J,D,N,ch,k,up⟩;dsimp only;refine Ii (R:=λl=>Ch lo (lo+x) st l/\Dn κ (arrOf l) lo (lo+x)) (λO b3=>?_) (λO=>⟨ch,k⟩) λl b0=>?_
   ·have R:=ch.z;refine zH (As ⋯ λl a I=>?_);have P:Ch lo (lo+x) b l:=⟨a.k,a.p,a.f,a.z,a.m,λi hi=>a.o i ⋯⟩;exact b3 l ⟨ch.trans P,by rw[I];exact Dn.turned k up ⋯ (zE _) ⋯⟩
   ·obtain⟨a,a6⟩:=b0;have c1:=a.z;refine zH (As ⋯ λa7 Z a8=>?_);have S:=a.trans Z;have b9:=Z.z;refine zH (Ij t (S.k.trans L) (S.good M) ⋯ ⋯ D (by rw[a8];exact Dn.up a6 ⋯) (λ_ _=>rfl) λm b7 a5 a9 _=>?_);dsimp only;exact zJ (h m a7 ⋯ a5 (S.wide ⋯) a9)
theorem Se{x y z:Keyed}(b:lq κ x y=true)(a:le' κ y z):lq κ x z=true:=KeyOrd.klt_of_klt_of_kle (O:=κ.toKeyOrd) b a
theorem Up.put{a:Array Keyed}{lo k l:Nat}{p:Keyed}(e:Up κ a lo (lo+k))(o:lo+k<a.size)(ep:a[lo+k]?=some p)(hl:l<=k)(m:∀i u,lo<=i->i<lo+l->a[i]?=some u->le' κ u p)(n:∀i u,lo+l<=i->i<lo+k->a[i]?=some u->lq κ p u=true):
  Up κ (bubble a (lo+k) (lo+k-(lo+l))) lo (lo+(k+1)):=λi j x y d q r c b=>by
 rw[getElem?_bubble o _ ⋯,show lo+k-(lo+k-(lo+l))=lo+l by omega]at c b
 by_cases f:i=lo+l
 ·rw[zG f,ep]at c;cases c
  by_cases b1:j=lo+l
  ·rw[zG b1,ep]at b;cases b;exact iY _
  ·rw[zF b1,zG ⋯]at b;exact lV (n _ _ ⋯ ⋯ b)
 ·rw[zF f]at c
  by_cases g:lo+l<i/\i<=lo+k
  ·rw[zG g]at c;rw[zF ⋯,zG ⋯]at b;exact e _ _ _ _ ⋯ (show i-1<=j-1 by omega) ⋯ c b
  ·rw[zF g]at c
   by_cases b1:j=lo+l
   ·rw[zG b1,ep]at b;cases b;exact m _ _ d ⋯ c
   ·rw[zF b1]at b
    by_cases b2:lo+l<j/\j<=lo+k
    ·rw[zG b2]at b;exact e _ _ _ _ d (show i<=j-1 by omega) ⋯ c b
    ·rw[zF b2]at b;exact e _ _ _ _ d q ⋯ c b
theorem Sd(F:Cmp prog w A s κ kd){st:SortSt}{lo n ok:Nat}{Q:Bool->SortSt->Prop}(G:kindOf st=kd)(I:∀x∈(arrOf st).toList,Gd κ x)(V:lo+n<=(arrOf st).size)(P:1<=ok)(D:ok<=n)(L:Up κ (arrOf st) lo (lo+ok))
  (h:∀a,Ch lo (lo+n) st a->Up κ (arrOf a) lo (lo+n)->Q true a):wpS (model prog w) A E s (binarySort' lo n ok) Q st:=by
 rw[binarySort'_eq];refine zH (wK (xM (I:=λk c a=>c=(none,())/\ok<=k/\k<=n/\Ch lo (lo+n) st a/\Up κ (arrOf a) lo (lo+k))
  (Q:=λc a=>c=(none,())/\Ch lo (lo+n) st a/\Up κ (arrOf a) lo (lo+n)) ?step ?fin ?init) ?post)
 case post =>
  rintro c a ⟨rfl,d,b⟩;exact zJ (h a d b)
 case init=>rw[show max ok 1=ok by omega];exact⟨rfl,zE _,D,Ch.refl _ _ _,L⟩
 case fin =>
  rintro c a ⟨M,C,N,d,b⟩;rw[show max (max ok 1) n=n by omega]at b;exact⟨M,d,b⟩
 case step =>
  rintro k c a Y W ⟨rfl,C,N,d,b⟩;have Z:=d.z;have O:kindOf a=kd:=d.k.trans G;have S:=d.good I;obtain⟨p,ep⟩:=mW (a:=arrOf a) (i:=lo+k) ⋯;refine zH (wK (xM (I:=λx c f=>f=a/\∃l r,c=(none,l,r)/\l<=r/\r<=k/\r-l<=k-x /\
    (∀i u,lo<=i->i<lo+l->(arrOf a)[i]?=some u->le' κ u p)/\(∀i u,lo+r<=i->i<lo+k->(arrOf a)[i]?=some u->lq κ p u=true))
   (Q:=λc f=>f=a/\∃l r,c=(none,l,r)/\l<=k /\
    (∀i u,lo<=i->i<lo+l->(arrOf a)[i]?=some u->le' κ u p)/\(∀i u,lo+l<=i->i<lo+k->(arrOf a)[i]?=some u->lq κ p u=true)) ?istep ?ifin ?iinit) ?ipost)
  case iinit=>exact⟨rfl,0,k,rfl,⋯,⋯,⋯,λi u _ hi=>⋯,λi u P U=>⋯⟩
  case ifin =>
   rintro c f ⟨rfl,l,r,rfl,J,j,K,g,e⟩;have:l=r:=⋯
   subst this;exact⟨rfl,l,l,rfl,j,g,e⟩
  case istep =>
   rintro x c f _ X ⟨rfl,l,r,rfl,J,j,K,g,e⟩;dsimp only;refine nI (λz=>?_) λz=>?_
   ·have:l=r:=⋯
    subst this;exact zJ ⟨rfl,l,l,rfl,j,g,e⟩
   ·refine zH (cP F O S ⋯ ⋯ λT q v y=>?_);rw[ep]at v;cases v;dsimp only;cases hless:lq κ p q with
    |true =>
     rw[zG rfl];refine zJ ⟨rfl,l,(l+r)/2,rfl,⋯,⋯,⋯,g,λi u m t o=>?_⟩;exact Se hless (b _ _ _ _ ⋯ m t y o)
    |false =>
     rw[zF (by simp)];refine zJ ⟨rfl,(l+r)/2+1,r,rfl,⋯,⋯,⋯,λi u m t o=>?_,e⟩;exact lI (b _ _ _ _ m (show i<=lo+(l+r)/2 by omega) ⋯ o y) hless
  case ipost =>
   rintro c f ⟨rfl,l,r,rfl,R,g,e⟩;show wpS _ _ _ _ (do moveDown' (lo+k) (lo+l);pure (ForInStep.yield (none,()))) _ _;rw[moveDown'_eq];refine zH (wQ (zJ ⟨rfl,⋯,⋯,d.trans ⟨rfl,rfl,rfl,bubble_size _ _ _,bubble_perm _ _ _,λi hi=>?_⟩,b.put ⋯ ep R g e⟩));exact(getElem?_bubble ⋯ _ ⋯ i).trans (by rw[zF ⋯,zF ⋯])
def Run(κ:PyProof.Rows.KeyKind)(a:Array Keyed):Nat->List (Nat×Nat×Nat)->Nat->Prop
 |s,[],e=>s=e
 |s,x:: xs,e=>x.1=s/\1<=x.2.1/\Up κ a s (s+x.2.1)/\Run κ a (s+x.2.1) xs e
theorem Run.le{a:Array Keyed}:∀{xs:List (Nat×Nat×Nat)}{s e:Nat},Run κ a s xs e->s+xs.length<=e
 |[],s,e,h=>by have:s=e:=h;simp[this]
 |x:: xs,s,e,h=>by have:=Run.le h.2.2.2;have:=h.2.1;simp only[List.length_cons];omega
theorem Run.app{a:Array Keyed}:∀{xs ys:List (Nat×Nat×Nat)}{s e:Nat},Run κ a s (xs++ys) e ↔ ∃m,Run κ a s xs m/\Run κ a m ys e
 |[],ys,s,e=>⟨λh=>⟨s,rfl,h⟩,λ⟨m,b,c⟩=>by cases(show s=m from b);exact c⟩
 |x:: xs,ys,s,e=>⟨λ⟨b,c,d,f⟩=>let ⟨m,i,j⟩:=Run.app.mp f;⟨m,⟨b,c,d,i⟩,j⟩,λ⟨m,⟨b,c,d,f⟩,g⟩=>⟨b,c,d,Run.app.mpr ⟨m,f,g⟩⟩⟩
theorem Run.same{a b:Array Keyed}:∀{xs:List (Nat×Nat×Nat)}{s e:Nat},(∀i,s<=i->i<e->b[i]?=a[i]?)->Run κ a s xs e->Run κ b s xs e
 |[],_,_,_,h=>h
 |x:: xs,s,e,q,h=>by
  have:=Run.le h.2.2.2;exact⟨h.1,h.2.1,h.2.2.1.same λi d c=>q i d ⋯,Run.same (λi d c=>q i ⋯ c) h.2.2.2⟩
theorem Dx{a:Array Keyed}{i j:Nat}(h:Up κ a i j):Srt κ (seg a.toList i j):=by
 rw[Srt,pR];intro c u d e f;have e1:=xQ d;have b:=xQ e;rw[cO]at e1 b;split at e1
 ·split at b
  ·exact h _ _ _ _ ⋯ (show i+c<=i+u by omega) ⋯ (nE.mpr e1) (nE.mpr b)
  ·cases b
 ·cases e1
theorem Sc{a:Array Keyed}{l X r:List Keyed}{i j:Nat}(e:a.toList=l++X++r)(hl:l.length=i)(o:X.length=j-i)(h:Srt κ X):Up κ a i j:=λp q x y m n k d b=>by
 have d:=nE.mp d;have b:=nE.mp b;rw[e,yN,yG ⋯,yT ⋯]at d b;rcases uT p q with c|c
 ·have g:p-l.length<X.length:=⋯
  have f:q-l.length<X.length:=⋯
  rw[xQ g]at d;rw[xQ f]at b;cases d;cases b;exact(pR.mp h) _ _ g f ⋯
 ·have:p=q:=⋯
  subst this;rw[d]at b;cases b;exact iY _
structure Wt(κ:PyProof.Rows.KeyKind)(kd:SortKind)(a₀:Array Keyed)(hi:Nat)(st:SortSt):Prop where
 k:kindOf st=kd
 f:failedOf st=none
 m:(arrOf st).Perm a₀
 r:Run κ (arrOf st) 0 (pendingOf st).toList hi
theorem Wt.z{a₀:Array Keyed}{hi:Nat}{st:SortSt}(h:Wt κ kd a₀ hi st):(arrOf st).size=a₀.size:=h.m.size_eq
theorem Wt.good{a₀:Array Keyed}{hi:Nat}{st:SortSt}(h:Wt κ kd a₀ hi st)(a:∀x∈a₀.toList,Gd κ x):∀x∈(arrOf st).toList,Gd κ x:=λx b=>a x ((h.m.toList.mem_iff).mp b)
theorem Sb{p:Array (Nat×Nat×Nat)}{xs ys:List (Nat×Nat×Nat)}{e f g:Nat×Nat×Nat}(h:p.toList=xs++e:: f:: ys):((p.setIfInBounds xs.length g).eraseIdxIfInBounds (xs.length+1)).toList=xs++g:: ys:=by
 have a:xs.length+1<(p.setIfInBounds xs.length g).size:=by
  rw[Array.size_setIfInBounds,←zO,h];simp
 rw[Array.eraseIdxIfInBounds,pQ a,Array.toList_eraseIdx,Array.toList_setIfInBounds,h,List.set_append_right _ _ (zE _),uQ];rw[vQ ⋯];simp
theorem Dw(y:Cmp prog w A s κ kd){a₀:Array Keyed}(D:∀x∈a₀.toList,Gd κ x){st:SortSt}{i hi:Nat}{xs ys:List (Nat×Nat×Nat)}{e f:Nat×Nat×Nat}{Q:Bool->SortSt->Prop}(c:Wt κ kd a₀ hi st)(hh:hi<=a₀.size)(g:(pendingOf st).toList=xs++e:: f:: ys)(v:i=xs.length)
  (h:∀a,Wt κ kd a₀ hi a->(pendingOf a).toList=xs++(e.1,e.2.1+f.2.1,e.2.2):: ys->(∀j,hi<=j->(arrOf a)[j]?=(arrOf st)[j]?)->Q true a):wpS (model prog w) A E s (mergeAt' i) Q st:=by
 subst v;have hr:=c.r;rw[g]at hr;obtain⟨m,l,k,t,G,I,F,u,o⟩:=Run.app.mp hr;have l1:=l.le;have l2:=o.le;have L:=c.z;have e1:(pendingOf st)[xs.length]?=some (m,e.2.1,e.2.2):=by
  rw[←yU,g,yG (zE _),uQ,←k];rfl
 have J:(pendingOf st)[xs.length+1]?=some (m+e.2.1,f.2.1,f.2.2):=by
  rw[←yU,g,yG ⋯,Nat.add_sub_cancel_left,←I];rfl
 refine Sg y c.k (c.good D) c.f e1 J t F ⋯ (Dx G) (Dx u) λa X z K r d p C=>?_;have M:X.length=e.2.1+f.2.1:=by rw[p.length_eq,Dy (by rw[zO];omega)];omega
 have lt:((arrOf st).toList.take m).length=m:=by rw[yS,zO];omega
 have ps:(pendingOf a).toList=xs++(e.1,e.2.1+f.2.1,e.2.2):: ys:=by
  rw[r,←k];exact Sb g
 have up:Up κ (arrOf a) m (m+e.2.1+f.2.1):=Sc d lt ⋯ C;have lo:∀j,j<m->(arrOf a)[j]?=(arrOf st)[j]?:=λj b=>by
  rw[←yU,←yU,d,yN,yT ⋯,tW b]
 have n:∀j,m+e.2.1+f.2.1<=j->(arrOf a)[j]?=(arrOf st)[j]?:=λj b=>by
  rw[←yU,←yU,d,yG (by rw[zS];omega),tZ];congr 1;rw[zS];omega
 refine h a ⟨z,K,?_,?_⟩ ps λj b=>n j ⋯
 ·refine Array.Perm.trans (Array.perm_iff_toList_perm.mpr ?_) c.m;have q:=(p.append_left ((arrOf st).toList.take m)).append_right ((arrOf st).toList.drop (m+e.2.1+f.2.1));rw[Il ⋯]at q;rw[d];exact q
 ·rw[ps];refine Run.app.mpr ⟨m,l.same λj _ b=>lo j b,k,(show 1<=e.2.1+f.2.1 by omega),?_,?_⟩
  ·show Up κ _ m (m+(e.2.1+f.2.1));rw[←sW];exact up
  ·show Run κ _ (m+(e.2.1+f.2.1)) _ _;rw[←sW];exact o.same λj b _=>n j b
theorem Run.modify{a:Array Keyed}{f:Nat×Nat×Nat->Nat×Nat×Nat}(b:∀e,(f e).1=e.1/\(f e).2.1=e.2.1):∀{xs:List (Nat×Nat×Nat)}{i s e:Nat},Run κ a s xs e->Run κ a s (xs.modify i f) e
 |[],i,s,e,h=>by cases i <;> exact h
 |x:: xs,0,s,e,h=>by
  show(f x).1=s/\1<=(f x).2.1/\Up κ a s (s+(f x).2.1)/\Run κ a (s+(f x).2.1) xs e;rw[(b x).1,(b x).2];exact h
 |x:: xs,i+1,s,e,h=>⟨h.1,h.2.1,h.2.2.1,Run.modify b h.2.2.2⟩
theorem Sa{b:Prop}[Decidable b]{z:Nat}(h:¬ z<=1):(if b then z-2-1 else z-2)+1<z:=by split <;> omega
theorem Dv{p:Array (Nat×Nat×Nat)}{i:Nat}(h:i+1<p.size):∃xs e f ys,p.toList=xs++e:: f:: ys/\xs.length=i:=by
 have h':i+1<p.toList.length:=by rw[zO];exact h
 refine⟨p.toList.take i,p.toList[i],p.toList[i+1],p.toList.drop (i+2),?_,by rw[yS];omega⟩;rw[←tQ,←tQ,xS]
theorem Wt.push{a₀:Array Keyed}{lo n:Nat}{st:SortSt}(h:Wt κ kd a₀ lo st)(b:1<=n)(a:Up κ (arrOf st) lo (lo+n)):Wt κ kd a₀ (lo+n) (setPending st ((pendingOf st).push (lo,n,0))):=
 ⟨h.k,h.f,h.m,by
  show Run κ (arrOf st) 0 ((pendingOf st).push (lo,n,0)).toList (lo+n);rw[uM];exact Run.app.mpr ⟨lo,h.r,rfl,b,a,rfl⟩⟩
theorem Tz(v:Cmp prog w A s κ kd){a₀:Array Keyed}(C:∀x∈a₀.toList,Gd κ x){st:SortSt}{Q:Unit->SortSt->Prop}(a1:kindOf st=kd)(a4:failedOf st=none)(a5:pendingOf st=#[])(V:arrOf st=a₀)
  (h:∀a,kindOf a=kd->failedOf a=none->(arrOf a).Perm a₀->Up κ (arrOf a) 0 a₀.size->Q () a):wpS (model prog w) A E s sortRuns' Q st:=by
 rw[sortRuns'_eq];refine zH (uS ?_);rw[V];dsimp only;have Y:Wt κ kd a₀ 0 st:=⟨a1,a4,by rw[V],by rw[a5];rfl⟩;refine zH (wK (xM (I:=λx c a=>∃lo,c=(none,lo)/\x<=lo/\lo<=a₀.size/\Wt κ kd a₀ lo a)
  (Q:=λc a=>c=(none,a₀.size)/\Wt κ kd a₀ a₀.size a) ?step ?fin ⟨0,rfl,zE _,yR _,Y⟩) ?post)
 case fin =>
  rintro c a ⟨lo,rfl,a8,N,g⟩;have:lo=a₀.size:=⋯
  subst this;exact⟨rfl,g⟩
 case step =>
  rintro x c a b3 b1 ⟨lo,rfl,a8,N,g⟩;dsimp only;refine nI (λz=>?_) λz=>?_
  ·have:lo=a₀.size:=⋯
   subst this;exact zJ ⟨rfl,g⟩
  have b2:=g.z;refine zH (Sf v g.k (g.good C) ⋯ ⋯ λn T S b5 k R=>?_);dsimp only;have W:∀l,kindOf l=kindOf a->pendingOf l=pendingOf a->failedOf l=failedOf a->(arrOf l).Perm (arrOf a)->(∀i,i<lo->(arrOf l)[i]?=(arrOf a)[i]?)->Wt κ kd a₀ lo l:=λl e1 a6 Z a2 a9=>⟨e1.trans g.k,Z.trans g.f,a2.trans g.m,by rw[a6];exact g.r.same λi _ hi=>a9 i hi⟩;refine nI (λy=>?_) λy=>?_
  ·refine zH (rS (wP ⟨rfl,?_⟩));have b4:=k.z;refine zH (Sd v (k.k.trans g.k) (k.good (g.good C)) ⋯ S ⋯ R λl I t=>?_);rw[zF (by simp)];obtain⟨G,K,p,t⟩:Wt κ kd a₀ lo l/\1<=min (a₀.size-lo) (minRun' a₀.size a₀.size 0)/\lo+min (a₀.size-lo) (minRun' a₀.size a₀.size 0)<=a₀.size/\Up κ (arrOf l) lo (lo+min (a₀.size-lo) (minRun' a₀.size a₀.size 0)):=⟨W l (I.k.trans k.k) (I.p.trans k.p) (I.f.trans k.f) (I.m.trans k.m) λi hi=>(I.o i (.inl hi)).trans (k.o i (.inl hi)),⋯,⋯,t⟩
   revert K p t
   generalize min (a₀.size-lo) (minRun' a₀.size a₀.size 0)=n;intro K p t;refine zH (uS ?_);cases hb:(pendingOf l).back? with
   |none =>
    dsimp only;exact zH (wQ (zJ ⟨lo+n,rfl,⋯,p,G.push K t⟩))
   | some J =>
    obtain⟨u,k1,X⟩:=J;dsimp only;generalize power' a₀.size (2*u+k1) (2*u+k1+k1+n) a₀.size=D;refine zH (wK (xM (I:=λx c a=>c=(none,())/\Wt κ kd a₀ lo a/\Up κ (arrOf a) lo (lo+n))
     (Q:=λc a=>c=(none,())/\Wt κ kd a₀ lo a/\Up κ (arrOf a) lo (lo+n)) ?istep1 (λc a hh=>hh) ⟨rfl,G,t⟩) ?ipost1)
    case istep1 =>
     rintro x c b _ _ ⟨rfl,d,m⟩;refine zH (uS ?_)
     by_cases F:(pendingOf b).size > 1
     ·rw[zG F];obtain⟨xs,e,f,ys,ep,r⟩:=Dv (p:=pendingOf b) (i:=(pendingOf b).size-2) ⋯;have M:(pendingOf b)[(pendingOf b).size-2]?=some e:=by
       rw[←yU,ep,yG ⋯,r,uQ];rfl
      rw[M];dsimp only;refine nI (λ_=>zJ ⟨rfl,d,m⟩) λ_=>?_;refine zH (Dw v C d N ep r.symm λU o O P=>?_);rw[zF (by simp)];exact zJ ⟨rfl,o,m.same λi hi _=>P i hi⟩
     ·rw[zF F];exact zJ ⟨rfl,d,m⟩
    case ipost1 =>
     rintro c b ⟨rfl,d,m⟩;dsimp only;refine zH (wQ ?_);have o:Wt κ kd a₀ lo (setPending b ((pendingOf b).modify ((pendingOf b).size-1) λx=>(x.1,x.2.1,D))):=⟨d.k,d.f,d.m,by
      show Run κ (arrOf b) 0 ((pendingOf b).modify _ _).toList lo;rw[Array.toList_modify];exact Run.modify (f:=λx=>(x.1,x.2.1,D)) (λe=>⟨rfl,rfl⟩) d.r⟩
     exact zH (wQ (zJ ⟨lo+n,rfl,⋯,p,o.push K m⟩))
  ·have G:=W T k.k k.p k.f k.m λi hi=>k.o i (.inl hi);have p:lo+n<=a₀.size:=⋯
   refine zH (uS ?_);cases hb:(pendingOf T).back? with
   |none =>
    dsimp only;exact zH (wQ (zJ ⟨lo+n,rfl,⋯,p,G.push S R⟩))
   | some J =>
    obtain⟨u,k1,X⟩:=J;dsimp only;generalize power' a₀.size (2*u+k1) (2*u+k1+k1+n) a₀.size=D;refine zH (wK (xM (I:=λx c a=>c=(none,())/\Wt κ kd a₀ lo a/\Up κ (arrOf a) lo (lo+n))
     (Q:=λc a=>c=(none,())/\Wt κ kd a₀ lo a/\Up κ (arrOf a) lo (lo+n)) ?istep (λc a hh=>hh) ⟨rfl,G,R⟩) ?ipost)
    case istep =>
     rintro x c b _ _ ⟨rfl,d,m⟩;refine zH (uS ?_)
     by_cases F:(pendingOf b).size > 1
     ·rw[zG F];obtain⟨xs,e,f,ys,ep,r⟩:=Dv (p:=pendingOf b) (i:=(pendingOf b).size-2) ⋯;have M:(pendingOf b)[(pendingOf b).size-2]?=some e:=by
       rw[←yU,ep,yG ⋯,r,uQ];rfl
      rw[M];dsimp only;refine nI (λ_=>zJ ⟨rfl,d,m⟩) λ_=>?_;refine zH (Dw v C d N ep r.symm λU o O P=>?_);rw[zF (by simp)];exact zJ ⟨rfl,o,m.same λi hi _=>P i hi⟩
     ·rw[zF F];exact zJ ⟨rfl,d,m⟩
    case ipost =>
     rintro c b ⟨rfl,d,m⟩;dsimp only;refine zH (wQ ?_);have o:Wt κ kd a₀ lo (setPending b ((pendingOf b).modify ((pendingOf b).size-1) λx=>(x.1,x.2.1,D))):=⟨d.k,d.f,d.m,by
      show Run κ (arrOf b) 0 ((pendingOf b).modify _ _).toList lo;rw[Array.toList_modify];exact Run.modify (f:=λx=>(x.1,x.2.1,D)) (λe=>⟨rfl,rfl⟩) d.r⟩
     exact zH (wQ (zJ ⟨lo+n,rfl,⋯,p,o.push S m⟩))
 case post =>
  rintro c a ⟨rfl,g⟩;dsimp only;have b0:=g.r.le;rw[zO]at b0;refine zH (wK (xM (I:=λx c a=>c=(none,())/\Wt κ kd a₀ a₀.size a/\((pendingOf a).size<=1\/(pendingOf a).size+x<=a₀.size))
   (Q:=λc a=>c=(none,())/\Wt κ kd a₀ a₀.size a/\(pendingOf a).size<=1) ?fstep ?ffin ⟨rfl,g,.inr ⋯⟩) ?fpost)
  case ffin =>
   rintro c b ⟨rfl,d,L⟩;exact⟨rfl,d,⋯⟩
  case fstep =>
   rintro x c b _ _ ⟨rfl,d,L⟩;refine zH (uS ?_);refine nI (λq=>zJ ⟨rfl,d,q⟩) λq=>?_;generalize hi:(if Option.any (λx=>decide (x<(pendingOf b)[(pendingOf b).size-2+1]?.elim 0 λx=>x.2.1)) (if(pendingOf b).size-2 > 0 then Option.map (λx=>x.2.1) (pendingOf b)[(pendingOf b).size-2-1]? else none)=true then(pendingOf b).size-2-1 else(pendingOf b).size-2)=i;have hi':i+1<(pendingOf b).size:=by
    rw[←hi];exact Sa q
   obtain⟨xs,e,f,ys,ep,r⟩:=Dv hi';refine zH (Dw v C d (zE _) ep r.symm λU o O _=>?_);rw[zF (by simp)];refine zJ ⟨rfl,o,.inr ?_⟩;have a3:=wF List.length ep;have a0:=wF List.length O;simp only[Array.length_toList,List.length_append,List.length_cons]at a3 a0;omega
  case fpost =>
   rintro c b ⟨rfl,d,L⟩;refine zJ (h b d.k d.f d.m ?_);have hr:=d.r;rw[←zO]at L
   match hl:(pendingOf b).toList,hr,L with
   |[],hr,_ =>
    have:0=a₀.size:=hr;rw[←this];exactλi j x y _ _ a7=>absurd a7 (tN _)
   |[J],hr,_ =>
    have:0+J.2.1=a₀.size:=hr.2.2.2;rw[←this];exact hr.2.2.1
end
def gL(prog:Program)(w:World)(n:Nat):Prop:=∀{A:Around}{E:VP}{s:Shared}{κ:PyProof.Rows.KeyKind}{kd:SortKind}{a₀:Array Keyed}{st:SortSt}{Q:Unit->SortSt->Prop},a₀.size=n->2<=n->Cmp prog w A s κ kd->(∀x∈a₀.toList,Gd κ x)->kindOf st=kd->failedOf st=none->pendingOf st=#[]->arrOf st=a₀ ->
 (∀st',kindOf st'=kd->failedOf st'=none->(arrOf st').Perm a₀->Up κ (arrOf st') 0 a₀.size->Q () st')->wpS (model prog w) A E s sortRuns' Q st
section
variable {prog:Program} {w:World}
theorem Ty(n:Nat):gL prog w n:=λ_ _ f a b d e c h=>Tz f a b d e c h
end
mutual
def fl:PyData->LI'
 |.int i=>[i]
 |.tuple xs=>flA xs
 |_=>[]
def flA:List PyData->LI'
 |[]=>[]
 |d:: ds=>fl d++flA ds
end
mutual
def sm:PyData->PyData->Bool
 |.int _,.int _=>true
 |.tuple xs,.tuple ys=>smA xs ys
 |_,_=>false
def smA:List PyData->List PyData->Bool
 |[],[]=>true
 |x:: xs,y:: ys=>sm x y && smA xs ys
 |_,_=>false
end
mutual
theorem Ar:∀(x y:PyData),sm x y=true->(fl x).length=(fl y).length
 |.int _,y,h=>by cases y <;> simp[sm]at h <;> simp[fl]
 |.tuple xs,y,h=>by cases y <;> simp[sm]at h <;> simp[fl];exact Ih _ _ h
 |.none,y,h=>by simp[sm]at h
 |.bool _,y,h=>by simp[sm]at h
 |.str _,y,h=>by simp[sm]at h
 |.list _,y,h=>by simp[sm]at h
 |.dict _,y,h=>by simp[sm]at h
theorem Ih:∀(xs ys:List PyData),smA xs ys=true->(flA xs).length=(flA ys).length
 |[],ys,h=>by cases ys <;> simp[smA]at h <;> rfl
 |x:: xs,ys,h=>by
  cases ys <;> simp[smA]at h;simp only[flA,List.length_append];rw[Ar _ _ h.1,Ih _ _ h.2]
end
mutual
theorem cQ:∀(x y:PyData),sm x y=true->fl x=fl y->x=y
 |.int _,y,h,e=>by cases y <;> simp[sm]at h;simp[fl]at e;rw[e]
 |.tuple xs,y,h,e=>by cases y <;> simp[sm]at h;simp only[fl]at e;rw[Ig _ _ h e]
 |.none,y,h,e=>by simp[sm]at h
 |.bool _,y,h,e=>by simp[sm]at h
 |.str _,y,h,e=>by simp[sm]at h
 |.list _,y,h,e=>by simp[sm]at h
 |.dict _,y,h,e=>by simp[sm]at h
theorem Ig:∀(xs ys:List PyData),smA xs ys=true->flA xs=flA ys->xs=ys
 |[],ys,h,e=>by cases ys <;> simp[smA]at h;rfl
 |x:: xs,ys,h,e=>by
  cases ys <;> simp[smA]at h;simp only[flA]at e;obtain⟨e1,a⟩:=List.append_inj e (Ar _ _ h.1);rw[cQ _ _ h.1 e1,Ig _ _ h.2 a]
end
def lx(a b:LI'):Bool:=decide (a<b)
theorem Du:∀(a l1 l2:LI'),lx (a++l1) (a++l2)=lx l1 l2
 |[],_,_=>rfl
 |x:: a,l1,l2=>by
  rw[←Du a l1 l2]
  refine pN.mpr ?_
  simp[List.cons_lt_cons_iff]
theorem Ds:∀(a b l1 l2:LI'),a.length=b.length->a≠b->lx (a++l1) (b++l2)=lx a b
 |[],[],_,_,_,h=>absurd rfl h
 |[],_:: _,_,_,h,_=>by simp at h
 |_:: _,[],_,_,h,_=>by simp at h
 |x:: a,y:: b,l1,l2,h,c=>by
  refine pN.mpr ?_
  simp only[List.cons_append,List.cons_lt_cons_iff]
  by_cases e:x=y
  ·subst e;have:=pN.mp (Ds a b l1 l2 (by simpa using h) (by simpa using c));rw[this]
  ·simp[e]
section
variable {prog:Program} {w:World} {E:VP}
theorem eqT{n:Nat}(i:n<=4){A:Around}{s:Shared}{v u:Value}{x y:PyData}{as bs:LA}{Q:Bool->Shared->Prop}(g:tT n x=true)(d:tT n y=true)(f:Reads s.heap v x as)(c:Reads s.heap u y bs)(j:A.units+8<cLine)(h:Q (decide (x=y)) s):wpAny (model prog w) A (eqBool v u) Q E s:=by
 have b:=gI n _ g;have a:=gI n _ d;have l1:=iG n _ b;have l2:=iG n _ a;refine PySem.SeqAt.eqBoolOverData _ _ _ _ _ _ _ _ _ _ _ _ f c l1.1 l2.1 ⋯ ?_;rw[←SeqAt.same_eq_eqv _ _ (aN n _ _ b a)];have e:=aO n _ _ b a
 by_cases z:x=y
 ·rw[zL z]at h;rw[e.mpr z];exact h
 ·rw[zN z]at h;have:same x y=false:=by
   cases q:same x y with
   |false=>rfl
   |true=>exact absurd (e.mp q) z
  rw[this];exact h
theorem ltT:∀(n:Nat),n<=4->∀{A:Around}{s:Shared}{v u:Value}{x y:PyData}{as bs:LA}{Q:VP},tT n x=true->tT n y=true->sm x y=true->Reads s.heap v x as->Reads s.heap u y bs->A.units+8+n<cLine->Q (.bool (lx (fl x) (fl y))) s->wpAny (model prog w) A (richCompare .Lt v u) Q E s:=by
 intro n
 induction n with
 |zero =>
  intro a5 A s v u x y as bs Q D z F f d a4 h;cases f <;> simp[tT]at D;cases d <;> simp[tT]at z;refine wpAny_lt_int ?_;simpa [fl,lx,wS]using h
 | succ n Y =>
  intro a5 A s v u x y as bs Q D z F f d a4 h;cases f <;> simp only[tT,Bool.false_eq_true]at D
  case int =>
   cases d <;> simp only[sm,Bool.false_eq_true]at F;refine wpAny_lt_int ?_;simpa [fl,lx,wS]using h
  case tuple a o vs m xs hg hc hd hr =>
   cases d <;> simp only[sm,Bool.false_eq_true]at F;rename_i b X us b2 ys M U a6 S;simp only[tT]at z;have P:s.TypeIs (.ref a) "tuple" := ⟨o,hg,hc⟩;have O:s.TypeIs (.ref b) "tuple" := ⟨X,M,U⟩;refine wpAny_richCompare_same_room (op:=.Lt) P O PySem.F.slot_tuple_lt (xX PySem.F.slot_tuple_lt P PySem.F.entry_tuple_lt ?_ (PySem.F.args_tuple_lt_2 _ _)) ⋯;show wpAny _ _ (isInstance (.ref b) (.type "tuple") >>= _) _ _ s;refine zA (vW O isSubtype_tuple_tuple ?_);simp only[Bool.not_true,Bool.false_eq_true,if_false];refine zA (rW hg hd ?_);refine zA (rW M a6 ?_);refine zA ?_;refine wpAny_forIn_list _
    (λrest r s'=>r.1=none/\s'=s/\∃g j t k K L,rest=List.zip t k/\ReadsAll s.heap t g K/\ReadsAll s.heap k j L/\g.all (tT n)=true/\j.all (tT n)=true/\smA g j=true/\lx (flA g) (flA j)=lx (flA xs) (flA ys)/\(t.length+us.size=k.length+vs.size))
    _ ?_ ?_ _ _ ⟨rfl,rfl,xs,ys,vs.toList,us.toList,_,_,rfl,hr,S,D,z,F,rfl,by simp;omega⟩
   ·rintro⟨p,q⟩ rest r s' ⟨I,rfl,g,j,t,k,K,L,l,G,C,ta,tb,c,i,J⟩;cases G with
    |nil=>simp at l
    | @cons a9 a0 d' Z b0 b7 f a8 =>
     cases C with
     |nil=>simp[smA]at c
     |@cons b3 a3 N V b1 b4 d a2 =>
      simp only[List.zip_cons_cons,List.cons.injEq,Prod.mk.injEq]at l;obtain⟨⟨rfl,rfl⟩,rfl⟩:=l;rw[xJ,zR]at ta tb;simp only[smA,Bool.and_eq_true]at c;refine zA (eqT (n:=n) ⋯ ta.1 tb.1 f d (by show A.units+1+8<cLine;omega) ?_)
      by_cases e:d'=N
      ·subst e;rw[zL rfl];simp only[Bool.not_true,Bool.false_eq_true,if_false];refine zB ⟨rfl,rfl,Z,V,a0,a3,_,_,rfl,a8,a2,ta.2,tb.2,c.2,?_,by simp at J;omega⟩;rw[←i];simp only[flA];rw[Du]
      ·rw[zN e];simp only[Bool.not_false,if_true];have a1:fl d'≠fl N:=λq=>e (cQ _ _ c.1 q);simp only[flA]at i;rw[Ds _ _ _ _ (Ar _ _ c.1) a1]at i;refine zA (wP ?_);refine zA (Y ⋯ ta.1 tb.1 c.1 f d (by show A.units+1+8+n<cLine;omega) ?_);rw[i];exact zA (zB (zB (zB ⟨_,rfl,(λe=>nomatch e),h⟩)))
   ·rintro⟨f,d⟩ s' ⟨I,rfl,g,j,t,k,K,L,l,G,C,ta,tb,c,i,J⟩;simp only at I;subst I;cases G with
    |cons b6 b5 =>
     cases C with
     |nil=>simp[smA]at c
     |cons R W=>simp at l
    | nil =>
     cases C with
     |cons R W=>simp[smA]at c
     |nil =>
      have a7:vs.size=us.size:=by simp at J;omega
      have T:lx (flA xs) (flA ys)=false:=by rw[←i];simp[flA,lx]
      refine zB ⟨_,rfl,(λe=>nomatch e),?_⟩;show Q (.bool (decide (vs.size<us.size))) s';have h':Q (.bool (lx (flA xs) (flA ys))) s':=h;rw[T]at h';rw[a7,zN (xA _)];exact h'
end
mutual
theorem Ie:∀(d x y:PyData),sm d x=true->sm d y=true->sm x y=true
 |.int _,x,y,a,b=>by cases x <;> simp[sm]at a;cases y <;> simp[sm]at b;simp[sm]
 |.tuple xs,x,y,a,b=>by cases x <;> simp[sm]at a;cases y <;> simp[sm]at b;simp only[sm];exact Ic _ _ _ a b
 |.none,x,y,a,b=>by simp[sm]at a
 |.bool _,x,y,a,b=>by simp[sm]at a
 |.str _,x,y,a,b=>by simp[sm]at a
 |.list _,x,y,a,b=>by simp[sm]at a
 |.dict _,x,y,a,b=>by simp[sm]at a
theorem Ic:∀(d x y:List PyData),smA d x=true->smA d y=true->smA x y=true
 |[],x,y,b,a=>by cases x <;> simp[smA]at b;cases y <;> simp[smA]at a;simp[smA]
 |d:: ds,x,y,b,a=>by
  cases x <;> simp[smA]at b;cases y <;> simp[smA]at a;simp only[smA,Bool.and_eq_true];exact⟨Ie _ _ _ b.1 a.1,Ic _ _ _ b.2 a.2⟩
end
theorem Aq(a:LI'):lx a a=false:=zN (List.lt_irrefl a)
theorem Ib(a b c:LI')(e:lx a b=true)(d:lx b c=true):lx a c=true:=zL (List.lt_trans (yM e) (yM d))
theorem Dr(a b:LI')(c:lx a b=false)(d:lx b a=false):a=b:=List.le_antisymm (oI.mp (tS d)) (oI.mp (tS c))
theorem Tx(a b c:LI')(h:lx a c=true):lx a b=true\/lx b c=true:=by
 cases h1:lx a b with
 |true=>exact .inl rfl
 | false =>
  refine .inr ?_;cases h2:lx b c with
  |true=>rfl
  |false =>
   have e1:b<=a:=oI.mp (tS h1);have d:c<=b:=oI.mp (tS h2);exact absurd (yM h) (oI.mpr (List.le_trans d e1))
open Classical in
def keyT(h:Heap)(d0:PyData)(v:Value):Option (LI'):=if q:∃d,tT 4 d=true/\sm d0 d=true/\∃as,Reads h v d as then some (fl q.choose) else none
theorem Ia{h:Heap}{d0 d:PyData}{v:Value}{as:LA}(b:tT 4 d=true)(z:sm d0 d=true)(r:Reads h v d as):keyT h d0 v=some (fl d):=by
 have q:∃d,tT 4 d=true/\sm d0 d=true/\∃as,Reads h v d as:=⟨d,b,z,as,r⟩;unfold keyT;rw[pQ q];obtain⟨t',e,c,a⟩:=q.choose_spec;rw[tV _ _ _ _ _ (iG 4 _ (gI 4 _ t')).1 a r]
theorem Ap{h:Heap}{d0:PyData}{v:Value}{a:LI'}(e:keyT h d0 v=some a):∃d as,tT 4 d=true/\sm d0 d=true/\Reads h v d as/\a=fl d:=by
 unfold keyT at e
 by_cases q:∃d,tT 4 d=true/\sm d0 d=true/\∃as,Reads h v d as
 ·rw[pQ q]at e;obtain⟨t',f,c,b⟩:=q.choose_spec;exact⟨_,c,t',f,b,by cases e;rfl⟩
 ·rw[dif_neg q]at e;cases e
def iZ(h:Heap)(d0:PyData):PyProof.Rows.KeyKind where
 α:=LI'
 blt:=lx
 irrefl:=Aq
 trans:=Ib
 negTrans:=Tx
 total:=Dr
 keyOf:=keyT h d0
 dflt:=[]
section
variable {prog:Program} {w:World} {A:Around} {s:Shared}
theorem katT(t:A.units+16<cLine){Q:Bool->Shared->Prop}:∀(c a:List PyData)(f g:LW)(l m:LA)(i:Nat),ReadsAll s.heap f c l->ReadsAll s.heap g a m->c.all (tT 3)=true->a.all (tT 3)=true->smA c a=true->Q (lx (flA c) (flA a)) s->PySem.W.KatLex prog w A false false Q (f.zip g) i s
 | [],a,f,g,l,m,i,j,k,_,_,b,h=>by
  cases j;cases a with
  |cons _ _=>simp[smA]at b
  |nil =>
   cases k;refine PySem.W.kat_nil ?_;simpa [flA,lx]using h
 | d :: c,a,f,g,l,m,i,j,k,ta,tb,b,h=>by
  cases a with
  |nil=>simp[smA]at b
  | cons e a =>
   cases j with
   | cons o p =>
    cases k with
    |cons n r =>
     rw[xJ,zR]at ta tb;simp only[smA,Bool.and_eq_true]at b;rw[rY];refine PySem.W.kat_cons (eqT (n:=3) ⋯ ta.1 tb.1 o n ⋯ ?_);simp only[flA]at h
     by_cases z:d=e
     ·subst z;rw[zL rfl];rw[Du]at h;exact PySem.W.kat_yes (katT t c a _ _ _ _ (i+1) p r ta.2 tb.2 b.2 h)
     ·rw[zN z];rw[Ds _ _ _ _ (Ar _ _ b.1) λq=>z (cQ _ _ b.1 q)]at h;refine PySem.W.kat_no ?_;show wpAny (model prog w) A (oneLt' false _ _) Q _ s;exact PySem.W.kat_one _ _ (ltT 3 ⋯ ta.1 tb.1 b.1 o n ⋯ h)
theorem cmpT(v:A.units+16<cLine){d0:PyData}(f:∃l,d0=.tuple l):Cmp prog w A s (iZ s.heap d0) (tuples' false):=by
 intro E x y a b Q D u h;obtain⟨l,rfl⟩:=f;obtain⟨d,as,q,k,n,rfl⟩:=Ap D;obtain⟨e,bs,j,i,c,rfl⟩:=Ap u;have z:=Ie _ _ _ k i;cases n <;> simp only[sm,Bool.false_eq_true]at k
 case tuple a o vs m xs hg hc f hr =>
  cases c <;> simp only[sm,Bool.false_eq_true]at i;rename_i b J us I ys F G t p;simp only[tT]at q j;simp only[sm]at z;have hl:vs.size=us.size:=by
   have e1:∀{h:Heap}{vs:LW}{xs:List PyData}{as:LA},ReadsAll h vs xs as->vs.length=xs.length:=by
    intro h vs xs as r
    induction xs generalizing vs as with
    |nil=>cases r;rfl
    |cons x xs g=>cases r with|cons n c=>simp[g c]
   have C:∀{xs ys:List PyData},smA xs ys=true->xs.length=ys.length:=by
    intro xs
    induction xs with
    |nil=>intro ys h;cases ys <;> simp[smA]at h;rfl
    |cons x xs g=>intro ys h;cases ys <;> simp[smA]at h;simp[g h.2]
   have:=e1 hr;have:=e1 p;have:=C z;simp only[Array.length_toList]at*
   omega
  refine PySem.W.kat_lt hg f F t ?_;rw[zN ⋯];exact katT v xs ys _ _ _ _ 0 hr p q j z h
end
theorem Dq{h h':Heap}(e:∀b o,h.get? b=some o->o.cls=.type "tuple" -> h'.get? b=some o):∀(n:Nat){v:Value}{d:PyData}{as:LA},tT n d=true->Reads h v d as->Reads h' v d as:=by
 intro n
 induction n with
 |zero =>
  intro v d as c r;cases r <;> simp[tT]at c;exact .int _ _
 | succ n i =>
  have all:∀(xs:List PyData)(vs:LW)(as:LA),xs.all (tT n)=true->ReadsAll h vs xs as->ReadsAll h' vs xs as:=by
   intro xs
   induction xs with
   |nil=>intro vs as _ r;cases r;exact .nil
   | cons d ds g =>
    intro vs as c r;cases r with
    |cons j f =>
     rw[xJ,zR]at c;exact .cons (i c.1 j) (g _ _ c.2 f)
  intro v d as c r;cases r <;> simp only[tT,Bool.false_eq_true]at c
  case int=>exact .int _ _
  case tuple a o vs k xs hg hc hdd hr=>exact .tuple (e _ _ hg hc) hc hdd (all _ _ _ c hr)
theorem Paired.perm{g i:Type}{F:g->i->Prop}{ys f:List i}(p:ys.Perm f):∀{xs:List g},Paired F xs ys->∃e,e.Perm xs/\Paired F e f:=by
 induction p with
 |nil=>intro xs h;exact⟨xs,qV _,h⟩
 | cons x p q =>
  intro xs h;cases h with
  |@cons a b l1 l2 d c =>
   obtain⟨e,j,h'⟩:=q c;exact⟨a:: e,j.cons _,.cons d h'⟩
 | swap x y l =>
  intro xs h;cases h with
  |@cons a b l1 l2 d c =>
   cases c with
   |@cons n C m G u t=>exact⟨n:: a:: m,List.Perm.swap ..,.cons u (.cons d t)⟩
 |trans z I r w =>
  intro xs h;obtain⟨D,o,d⟩:=r h;obtain⟨k,v,c⟩:=w d;exact⟨k,v.trans o,c⟩
theorem Paired.mem{b c:Type}{F:b->c->Prop}{xs:List b}{ys:List c}(h:Paired F xs ys):∀x∈xs,∃y∈ys,F x y:=by
 induction h with
 |nil=>intro x a;cases a
 |cons d i g =>
  intro x a;rcases xE.mp a with e|a
  ·subst e;exact⟨_,.head _,d⟩
  ·obtain⟨y,f,q⟩:=g x a;exact⟨y,.tail _ f,q⟩
theorem ord_of{κ:PyProof.Rows.KeyKind}{a:Type}{F:a->Value->Prop}{k:a->κ.α}(c:∀p v,F p v->κ.keyOf v=some (k p)):∀(L:List Keyed)(ps:List a),(∀e∈L,e.1=e.2)->L.Pairwise (le' κ)->Paired F ps (L.map (·.2))->ps.Pairwise λp q=>κ.blt (k q) (k p)=false
 |[],ps,_,_,h=>by cases h;exact .nil
 | e:: L,ps,d,f,h=>by
  cases h with
  |@cons p b l1 l2 n i =>
   rw[pW]at f;refine .cons (λq m=>?_) (ord_of c L l1 (λx r=>d x (.tail _ r)) f.2 i);obtain⟨v,t,o⟩:=Paired.mem i q m;obtain⟨y,g,rfl⟩:=pS.mp t;have l:=f.1 y g;have k1:ky κ e=k p:=by unfold ky;rw[d e (.head _),c _ _ n];rfl
   have k2:ky κ y=k q:=by unfold ky;rw[d y (.tail _ g),c _ _ o];rfl
   have j:κ.blt (ky κ y) (ky κ e)=false:=l;rw[k1,k2]at j;exact j
structure TV(K:Frag)(H:Hp)(d0:PyData)(p:V×PyData)(v:Value):Prop where
 r:RelV p.1 v
 t:tT 4 p.2=true
 z:sm d0 p.2=true
 d:Dt K H p.1 p.2
theorem TV.vals{K:Frag}{H:Hp}{d0:PyData}{ps:List (V×PyData)}{vs:LW}(h:Paired (TV K H d0) ps vs):Vals (ps.map (·.1)) vs:=by
 induction h with
 |nil=>exact .nil
 |cons b _ a=>exact .cons b.r a
theorem Dp{K:Frag}{H:Hp}{d0:PyData}:∀{ps:List (V×PyData)}{vs:LW},Vals (ps.map (·.1)) vs->(∀p∈ps,tT 4 p.2=true/\sm d0 p.2=true/\Dt K H p.1 p.2)->Paired (TV K H d0) ps vs
 |[],vs,h,_=>by cases h;exact .nil
 |p:: ps,vs,h,q=>by
  cases h with
  |cons c a=>exact .cons ⟨c,(q p (.head _)).1,(q p (.head _)).2.1,(q p (.head _)).2.2⟩ (Dp a λx b=>q x (.tail _ b))
theorem Do:∀{vs:LW}{e:Keyed},e∈vs.zip vs->e.1=e.2
 |[],e,h=>by cases h
 |v:: vs,e,h=>by
  rw[rY]at h;rcases xE.mp h with h|h
  ·rw[h]
  ·exact Do h
theorem nX{b a:Type}{F:b->a->Prop}{xs:List b}{ys:List a}(h:Paired F xs ys):xs.length=ys.length:=by
 induction h with
 |nil=>rfl
 |cons _ _ c=>simp[c]
theorem Ao{b c:Type}{F:b->c->Prop}{xs:List b}{ys:List c}(h:Paired F xs ys):∀y∈ys,∃x∈xs,F x y:=by
 induction h with
 |nil=>intro x a;cases a
 |cons d i g =>
  intro x a;rcases xE.mp a with e|a
  ·subst e;exact⟨_,.head _,d⟩
  ·obtain⟨y,f,q⟩:=g x a;exact⟨y,.tail _ f,q⟩
theorem Tw{l:List Keyed}{n:Nat}(h:l.length=n):seg l 0 n=l:=by
 unfold seg;rw[List.drop_zero,Nat.sub_zero,xY ⋯]
section
variable {X:Cx} {pins:PN} {σ:St} {H:Hp} {s:Shared} {a:Addr} {A:Around} {E:VP} {vs:LW} {ps:List (V×PyData)} {n0:Nat} {R:VP} {d0:PyData} {l0 l1:List PyData}
theorem Tv{kd:SortKind}(a3:gL X.prog X.w vs.length)(b5:A.units+16<cLine)(I:Inv X pins σ H s)(b4:FpOk X pins H a)(l:s.heap.get? a=some (seqObj "list" vs.toArray n0))(G:vs.length<=sizeLine)(a4:∀{s':Shared}{Q:SortKind->Shared->Prop},Inv X pins σ H s'->2<=vs.length->Q kd s'->wpAny (model X.prog X.w) A (keyKind' vs.toArray) Q E s')(g:∀{s':Shared},Cmp X.prog X.w A s' (iZ s'.heap d0) kd)(M:Paired (TV X.K H d0) ps vs)
  (h:∀(ps':List (V×PyData)) H' s',Inv X pins σ H' s'->Same H H'->H' a=some (.lst (ps'.map (·.1)))->ps'.Perm ps->ps'.Pairwise (λp q=>lx (fl q.2) (fl p.2)=false)->R .none s'):
  wpAny (model X.prog X.w) A (Builtin.«list.sort» ⟨[.ref a],[]⟩) (λD s'=>∃v,D=.done (.ret v)/\R v s') E s:=by
 obtain⟨N,K,b7,Y,U,P⟩:=b4;rw[list_sort_plain];have b6:a<s.heap.objs.size:=zP l;refine zA (listItems_at l rfl ?_);refine zA (listUpdate_at l rfl ?_ (by rw[zZ];exact G) (yR _));obtain⟨e1,S⟩:∃e1,(s.heap.update a (Obj.mapSeq λ_=>(#[]:Array Value))).get? a=some (seqObj "list" #[] e1):=⟨_,get?_update_seq l (λ_=>#[])⟩;have a0:=vC s.heap a (Obj.mapSeq λ_=>(#[]:Array Value));have Z:Inv X pins σ H {s with heap:=s.heap.update a (Obj.mapSeq λ_=>(#[]:Array Value)),toks:=s.toks}:=I.turned (λb o k q=>(a0.2 b k).trans q) N K Y U P;refine zA (seqEpoch_at S rfl ?_);refine zA (wpAny_newTuple ?_ G);refine zA (wpAny_newList ?_ (yR _));refine xW ?_;have y:(((s.heap.update a (Obj.mapSeq λ_=>(#[]:Array Value))).push (seqObj "tuple" vs.toArray 0)).push (seqObj "list" #[] 0)).get? a=some (seqObj "list" #[] e1):=zC _ (zC _ S);have t:Inv X pins σ H {s with heap:=((s.heap.update a (Obj.mapSeq λ_=>(#[]:Array Value))).push (seqObj "tuple" vs.toArray 0)).push (seqObj "list" #[] 0),toks:=s.toks}:=Z.kept λb o q=>zC _ (zC _ q);show wpAny (model X.prog X.w) A _ _ E {s with heap:=((s.heap.update a (Obj.mapSeq λ_=>(#[]:Array Value))).push (seqObj "tuple" vs.toArray 0)).push (seqObj "list" #[] 0),toks:=s.toks};generalize ((s.heap.update a (Obj.mapSeq λ_=>(#[]:Array Value))).push (seqObj "tuple" vs.toArray 0)).push (seqObj "list" #[] 0)=f at*
 dsimp only;have D:∀d:SortSt,(arrOf d).Perm (pairsOf vs)->Srt (iZ f d0) (arrOf d).toList->R .none {s with heap:=f.update a (Obj.mapSeq λ_=>(arrOf d).map (·.2))}:=by
  intro d C a2;have pl:(arrOf d).toList.Perm (vs.zip vs):=by rw[←pairsOf_toList];exact Array.perm_iff_toList_perm.mp C
  have F:∀e∈(arrOf d).toList,e.1=e.2:=λe F=>Do (pl.mem_iff.mp F);have a5:vs.Perm ((arrOf d).toList.map (·.2)):=by
   have:=(pl.map (·.2)).symm;rw[List.map_snd_zip (zE _)]at this;exact this
  obtain⟨ps',T,W⟩:=Paired.perm a5 M;have a9:∀p v,TV X.K H d0 p v->(iZ f d0).keyOf v=some (fl p.2):=λp v i=>by
   obtain⟨as,r⟩:=i.d.reads t i.r;exact Ia i.t i.z r
  have a6:=ord_of (κ:=iZ f d0) (k:=λp:V×PyData=>fl p.2) a9 _ ps' F a2 W;have b3:((arrOf d).map (·.2)).toList=(arrOf d).toList.map (·.2):=Array.toList_map ..;generalize (arrOf d).map (·.2)=out at*
  have w:=vC f a (Obj.mapSeq λ_=>out);obtain⟨O,a1⟩:∃O,(f.update a (Obj.mapSeq λ_=>out)).get? a=some (seqObj "list" (out) O):=⟨_,get?_update_seq y λ_=>out⟩;generalize f.update a (Obj.mapSeq λ_=>out)=b1 at*
  refine h ps' (upd H a (.lst (ps'.map (·.1)))) _ ?_ ?_ oQ T a6
  ·have n:∀b u,H b=some u->b≠a:=λb u e z=>by rw[z,N]at e;cases e
   refine Inv.step (s:={s with heap:=f,toks:=s.toks}) (h':=b1) (H':=upd H a (.lst (ps'.map (·.1)))) (I:=t) (g':=s.gens) (d':=s.drawn) (t':=s.toks) (ch:=[a]) (λb k=>?_) (λb o _ _ g e _=>(w.2 b (λz=>g (by simp[z]))).trans e) (λb o _ _ g e _=>⟨o.slots,(w.2 b (λz=>g (by simp[z]))).trans e⟩)
    (λb o g e q=>by rw[nC (λz=>g (by simp[z]))];exact q) (λb o g e=>⟨o,(w.2 b (λz=>g (by simp[z]))).trans e⟩) (λb xs e=>by rw[nC (n _ _ e)];exact e) (λb o u e=>by rw[nC (n _ _ e)];exact e)
    (λb ps e=>⟨#[],by rw[nC (n _ _ e),e];simp⟩) (λm L=>?_) (λb u e=>?_) t.bare
   ·have e:b=a:=by simpa using k
    subst e;exact⟨Y,K,U,P⟩
   ·obtain⟨o,es,ep,l,r⟩:=L;exact⟨o,es,ep,(w.2 _ (yA K)).trans l,r⟩
   ·by_cases k:b=a
    ·subst k;rw[oQ]at e;cases e;refine⟨?_,(arrOf d).toList.map (·.2),O,TV.vals W,by rw[a1,←b3]⟩;rw[yE,T.length_eq,nX M];exact G
    ·rw[nC k]at e;refine(t.hok b u e).stay (λc v g q=>(w.2 c ?_).trans q) (λc q=>by rw[nC (n _ _ q)];exact q) λc xs q=>by rw[nC (n _ _ q)];exact q
     rcases g with z|z
     ·rw[z];exact k
     ·exact n c _ z
  ·intro b u q;rw[nC (λz=>by rw[z,N]at q;cases q)];exact q
 have hsz:vs.toArray.size=vs.length:=by simp
 by_cases j:vs.toArray.size<2
 ·rw[zG j,zG j];refine zA (zB ?_);rw[StateT.run_pure];refine zA (zB ?_);dsimp only;refine zA (seqEpoch_at y rfl ?_);refine zA (listUpdate_at y rfl ?_ (yR _) (by rw[Array.size_map];show(pairsOf vs).size<=_;rw[pairsOf_size];omega));simp only[bne_self_eq_false,Bool.false_eq_true,if_false];refine zB ⟨_,rfl,D (SortSt.mk' general' (vs.toArray.zip vs.toArray) #[] 7 none) (Array.Perm.refl _) ?_⟩;show Srt _ (pairsOf vs).toList;rw[pairsOf_toList]
  match vs,hsz,j with
  |[],_,_=>exact .nil
  |[_],_,_=>exact .cons (λ_ h=>nomatch h) .nil
  |_:: _:: _,_,j=>simp at j;omega
 ·rw[zF j,zF j];refine zA (a4 (s':={s with heap:=f,toks:=s.toks}) t ⋯ ?_);refine zA (xG (a3 (κ:=iZ f d0) (kd:=kd) (a₀:=pairsOf vs) (st:=SortSt.mk' kd (vs.toArray.zip vs.toArray) #[] 7 none)
   (Q:=λ_ d=>(arrOf d).Perm (pairsOf vs)/\failedOf d=none/\Up (iZ f d0) (arrOf d) 0 (pairsOf vs).size) (pairsOf_size _) ⋯ (g (s':={s with heap:=f,toks:=s.toks})) (λx J=>?_) rfl rfl rfl rfl λd _ a8 b2 a7=>⟨b2,a8,a7⟩) ?_ λ_ _ e=>e)
  ·rw[pairsOf_toList]at J;have e:=Do J;have L:x.2∈vs:=(rF (a:=x.1) (b:=x.2) J).2;obtain⟨p,_,i⟩:=Ao M x.2 L;obtain⟨as,r⟩:=i.d.reads t i.r;exact⟨fl p.2,by rw[e];exact Ia i.t i.z r⟩
  rintro⟨⟨⟩,d⟩ s' ⟨rfl,C,b0,up⟩;dsimp only;refine zA (seqEpoch_at y rfl ?_);refine zA (listUpdate_at y rfl ?_ (yR _) (by refine yH (rN ((Array.size_map ..).trans (C.size_eq.trans (pairsOf_size _)))) ?_;omega));rw[b0];simp only[bne_self_eq_false,Bool.false_eq_true,if_false];refine zB ⟨_,rfl,D d C ?_⟩;have:=Dx up
  rwa[Tw (by rw[zO];exact C.size_eq)]at this
theorem Tu{ps:List (V×PyData)}{Q:SortKind->Shared->Prop}(n:d0=.tuple (.tuple l1:: l0))(f:Paired (TV X.K H d0) ps vs)(I:Inv X pins σ H s)(J:2<=vs.length)(q:Q (tuples' false) s):wpAny (model X.prog X.w) A (keyKind' vs.toArray) Q E s:=by
 have y:∀{ps:List (V×PyData)}{vs:LW},Paired (TV X.K H d0) ps vs->∃fs,PySem.W.KatTups s.heap vs fs/\fs.length=vs.length/\∀v∈fs,∃b o,v=.ref b/\s.heap.get? b=some o/\o.cls=.type "tuple" := by
  intro ps vs f
  induction f with
  |nil=>exact⟨[],PySem.W.KatTups.nil,rfl,λ_ h=>nomatch h⟩
  | @cons p v ps vs g _ t =>
   obtain⟨fs,k,l,G⟩:=t;obtain⟨as,r⟩:=g.d.reads I g.r;have z:=g.z;rw[n]at z;generalize p.2=dd at*
   cases r <;> simp only[sm,Bool.false_eq_true]at z
   case tuple b o us m xs hg d hd hr =>
    cases xs with
    |nil=>simp[smA]at z
    | cons x xs =>
     simp only[smA,Bool.and_eq_true]at z;cases hr0:us.toList with
     |nil=>rw[hr0]at hr;cases hr
     | cons u K =>
      rw[hr0]at hr;cases hr with
      | cons w L =>
       have F:=z.1;cases w <;> simp only[sm,Bool.false_eq_true]at F
       case tuple b2 o2 us2 m2 xs2 hg2 hc2 hd2 hr2 =>
        refine⟨.ref b2:: fs,PySem.W.KatTups.cons hg d hd ?_ k,by simp[l],λv c=>?_⟩
        ·rw[←yU,hr0];rfl
        ·rcases xE.mp c with e|c
         ·exact⟨b2,o2,e,hg2,hc2⟩
         ·exact G v c
 obtain⟨fs,j,M,D⟩:=y f;refine PySem.W.kat_kind (s:=s) (T:=.type "tuple") j ⋯ (λv c=>?_) rfl ?_
 ·obtain⟨b,o,rfl,C,d⟩:=D v c;exactλA Q E s k q=>uP (T:= "tuple") ⟨o,k _ _ C,d⟩ q
 have i:(Value.type "tuple" != Value.type "tuple")=false:=∅
 rw[i];exact q
end
abbrev Asc(ps:List (V×PyData)):Prop:=ps.Pairwise λp q=>lx (fl q.2) (fl p.2)=false
def Jz(K:Frag)(N:Nat):List V->Hp->VK->Prop:=λxs H Q=>∃(p:Addr)(ps:List (V×PyData))(l0 l1:List PyData),xs=[.ref p]/\ps.length<=N/\SqL K H p (ps.map (·.1))/\(∀q∈ps,tT 4 q.2=true/\sm (.tuple (.tuple l1:: l0)) q.2=true/\Dt K H q.1 q.2) /\
 ∀q(ps':List (V×PyData)) H',Same H H'->H q=none->H' q=some (.lst (ps'.map (·.1)))->ps'.Perm ps->Asc ps'->Q (.ref q) H'
section
variable {X:Cx} {pins:PN} {σ:St} {H:Hp} {s:Shared} {d0:PyData} {l0 l1:List PyData}
theorem Jy{its:LW}(I:Inv X pins σ H s):Inv X pins σ H {s with heap:=(s.heap.push (seqObj "list" #[] 0)).update s.heap.objs.size (Obj.mapSeq (·++its.toArray)),toks:=s.toks}:=
 I.kept (h':=(s.heap.push (seqObj "list" #[] 0)).update s.heap.objs.size (Obj.mapSeq (·++its.toArray))) (t':=s.toks) λb o q=>by
  have a:b<s.heap.objs.size:=zP q;rw[Heap.get?_update_ne _ _ _ _ (zY a),Heap.get?_push_ne _ _ _ (zY a)];exact q
theorem Jx{N:Nat}{kd:SortKind}(x:∀n,n<=N->gL X.prog X.w n)(z:X.A.units+64<cLine){ps:List (V×PyData)}{its:LW}{v:Value}{Q:VK}(g:its.length<=sizeLine)(t:its.length<=N)(i:∀{s':Shared}{Q:SortKind->Shared->Prop}{E:VP},Inv X pins σ H s'->2<=its.length->Q kd s'->wpAny (model X.prog X.w) X.A.in1.in1 (keyKind' its.toArray) Q E s')(w:∀{s':Shared},Cmp X.prog X.w X.A.in1.in1 s' (iZ s'.heap d0) kd)(m:Paired (TV X.K H d0) ps its)
  (r:∀(c:LW->Shared->Prop)(k:VP),(∀s',Inv X pins σ H s'->c its s')->wpAny (model X.prog X.w) X.A.in1 (collect v) c k s)
  (h:∀q(ps':List (V×PyData)) H',Same H H'->H q=none->H' q=some (.lst (ps'.map (·.1)))->ps'.Perm ps->Asc ps'->Q (.ref q) H'):
  wpAny (model X.prog X.w) X.A (call (.builtin "sorted") [v]) (EP X pins σ Q) X.xe s:=by
 refine Calls.call_function_entry kind_sorted plain_sorted entry_sorted (args_sorted1 _) ?_;unfold Builtin.«sorted»;refine zA (m:=checkCount "sorted" 1 1 _) (zB ?_);refine zA (r _ _ λs' I=>?_);refine zA (wpAny_newList ?_ g);have d:(s'.heap.push (seqObj "list" its.toArray 0)).get? s'.heap.objs.size=some (seqObj "list" its.toArray 0):=zT _ rfl;have f:H s'.heap.objs.size=none:=I.hok.fresh (zE _);have u:=I.fpOk (zE _) f;have j:Inv X pins σ H {s' with heap:=s'.heap.push (seqObj "list" its.toArray 0),toks:=s'.toks}:=I.kept λb o q=>zC _ q;refine zA (xW (xX slot_list_sort ⟨_,d,rfl⟩ entry_list_sort ?body (args_list_sort _)));show wpAny (model X.prog X.w) X.A.in1.in1 (Builtin.«list.sort» ⟨[.ref s'.heap.objs.size],[]⟩) _ _ {s' with heap:=s'.heap.push (seqObj "list" its.toArray 0),toks:=s'.toks};refine Tv (x _ t) (A:=X.A.in1.in1) (by show X.A.units+1+1+16<cLine;omega) j u d g (λa l q=>i a l q) w m λps' H' y a sm e p o=>?_;exact zB ⟨_,rfl,.ref s'.heap.objs.size,H',a,rfl,h _ ps' H' sm f e p o⟩
theorem Jw{N:Nat}(k:∀n,n<=N->gL X.prog X.w n)(j:X.A.units+64<cLine){ps:List (V×PyData)}{its:LW}{v:Value}{Q:VK}(g:its.length<=sizeLine)(i:its.length<=N)(c:d0=.tuple (.tuple l1:: l0))(b:Paired (TV X.K H d0) ps its)
  (d:∀(a:LW->Shared->Prop)(e:VP),(∀s',Inv X pins σ H s'->a its s')->wpAny (model X.prog X.w) X.A.in1 (collect v) a e s)
  (h:∀q(ps':List (V×PyData)) H',Same H H'->H q=none->H' q=some (.lst (ps'.map (·.1)))->ps'.Perm ps->Asc ps'->Q (.ref q) H'):
  wpAny (model X.prog X.w) X.A (call (.builtin "sorted") [v]) (EP X pins σ Q) X.xe s:=
 Jx k j g i (λf l q=>Tu c b f l q) (cmpT (by show X.A.units+1+1+16<cLine;omega) ⟨_,c⟩) b d h
theorem Tt{N:Nat}(w:∀n,n<=N->gL X.prog X.w n)(t:X.A.units+64<cLine):lZ X (.builtin "sorted") (Jz X.K N):=by
 intro pins s σ H xs us Q I r h;obtain⟨p,ps,l0,l1,rfl,k,g,m,q⟩:=h;obtain⟨u,rfl,i⟩:=jF r;cases i;obtain⟨its,v,pl,l⟩:=I.list g;obtain⟨o,j,e,c,_,dd⟩:=id pl;have f:s.heap.IsList p its.toArray:=⟨o,e,c,j,dd⟩;have a:=Dp (d0:=.tuple (.tuple l1:: l0)) v m;have b:its.length<=sizeLine:=by rw[←nX a];simpa using l
 refine Jw w t b (by rw[←nX a];exact k) rfl a (λx y d=>collect_list f (d _ ?_) b) q;exact Jy I
end
def RawD(h:Heap)(d:Addr)(es:Array DictEntry)(ep:Nat):Prop:=∃o,h.get? d=some o/\o.ExactDict/\o.data=.dict es ep
theorem RawD.at{h h':Heap}{d:Addr}{es:Array DictEntry}{ep:Nat}(x:RawD h d es ep)(e:∀o,h.get? d=some o->h'.get? d=some o):RawD h' d es ep:=let ⟨o,a,r⟩:=x;⟨o,e _ a,r⟩
section
variable {prog:Program} {w:World} {A:Around} {E:VP} {s:Shared} {d it:Addr} {es:Array DictEntry} {ep i:Nat}
theorem RawD.typeIs(x:RawD s.heap d es ep):s.TypeIs (.ref d) "dict" := let ⟨o,a,b,_⟩:=x;⟨o,a,b.1⟩
theorem Ts{Q:VP}(g:(d == sysModules)=false)(e:RawD s.heap d es ep)
  (f:Q (.ref s.heap.objs.size) {s with heap:=s.heap.push {cls:=.type "dict_keyiterator",data:=.fields #[.ref d,.int 0 0,.int es.size 0,.int ep 0]}}):wpAny (model prog w) A (pyIter (.ref d)) Q E s:=by
 obtain⟨o,b,j,c⟩:=id e;have a:=e.typeIs;refine wpAny_pyIter_slot a PySem.F.slot_dict_iter (xX PySem.F.slot_dict_iter a PySem.F.entry_dict_iter ?_ (PySem.F.args_dict_iter_1 _));unfold Builtin.«dict.__iter__»;refine zA ?_;unfold Builtin.Dict.dictSlotNone;refine zA (wpAny_notOrdered_dict a ?_);show wpAny _ _ (pure (Value.ref d)) _ _ s;refine zB ?_;show wpAny _ _ (Builtin.Dict.showsAll d >>= _) _ _ s;unfold Builtin.Dict.showsAll;rw[zF (by rw[g];exact yJ)];refine zA (zB ?_);refine zA (qF b c ?_);refine zA (qT b c ?_);exact zA (xL (zB ⟨_,rfl,"dict_keyiterator",_,⟨_,zT _ rfl,rfl⟩,PySem.F.slot_dict_keyiterator_next.lookup,f⟩))
theorem Tr{Q:Option Value->Shared->Prop}(a:s.heap.IsKeyIter it d i es.size ep)(l:RawD s.heap d es ep)(hi:i<es.size)
  (j:∀h',h'.IsKeyIter it d (i+1) es.size ep->Heap.SameBut it s.heap h'->Q (some es[i].key) {s with heap:=h'}):wpAny (model prog w) A (pyNext (.ref it)) Q E s:=by
 obtain⟨o,c,m,b⟩:=id a;obtain⟨n,g,p,f⟩:=id l;unfold pyNext;refine zA (vN (wD (name:=Str.ofString "__next__") a.typeIs wJ
  (xX wJ a.typeIs PySem.F.entry_dict_keyiterator_next ?_ (PySem.F.args_dict_keyiterator_next_1 _))))
 refine zA (zB ?_);refine zA ?_;refine zA ?_
 first|refine zA (wZ a.typeIs (zB ?_))|refine zA (vX a.typeIs (zB ?_))
 refine zA (wpAny_fieldsOf c b ?_);have k:Builtin.Dict_items.ownsTuple "dict_keyiterator"=false:=∅
 simp only[k,Bool.false_eq_true,if_false];show wpAny _ _ (if(Value.ref d == Value.none)=true then _ else _) _ _ s;rw[zF (show¬ ((Value.ref d == Value.none)=true) from yJ)];refine zA (zB ?_);refine zA (qF g f ?_);rw[zF (by simp)];refine zA (zB ?_);refine zA (qT g f ?_);rw[zF (by simp)];refine zB ?_;simp only[show¬ ((i:Int)<0) from⋯,if_false,Int.toNat_natCast,Array.getElem?_eq_getElem hi];refine zA ?_
 first|refine zA (wZ a.typeIs (zB ?_))|refine zA (vX a.typeIs (zB ?_))
 refine zA (wpAny_isOneOf_keyiter a.typeIs ?_);show wpAny _ _ (setField (.ref it) 1 (rawInt ((i:Int)+1)) >>= _) _ _ s;refine zA (rT c b (by simp) ?_);have e:(s.heap.update it (Obj.mapFields (·.setIfInBounds 1 (rawInt ((i:Int)+1))))).IsKeyIter it d (i+1) es.size ep:=
  ⟨_,vH _ c (Obj.isFreed_of_fields (sE b _)),(Obj.cls_mapFields ..).trans m,by rw[sE b];simp[rawInt]⟩
 refine zA (xW ?_);refine zA (wpAny_isOneOf_keyiter (s:={s with heap:=s.heap.update it (Obj.mapFields (·.setIfInBounds 1 (rawInt ((i:Int)+1))))}) e.typeIs ?_);show wpAny _ _ (pure es[i].key) _ _ _;exact zB (zB ⟨_,rfl,zB (j _ e (vC ..))⟩)
theorem Tq{Q:Option Value->Shared->Prop}(hh:A.handled=none)(a:s.heap.IsKeyIter it d es.size es.size ep)(k:RawD s.heap d es ep)
  (g:∀h',Heap.ExtBut it s.heap h'->Q none {s with heap:=h'}):wpAny (model prog w) A (pyNext (.ref it)) Q E s:=by
 obtain⟨o,b,n,e⟩:=id a;obtain⟨l,f,m,c⟩:=id k;unfold pyNext;refine zA (vN (wD (name:=Str.ofString "__next__") a.typeIs wJ
  (xX wJ a.typeIs PySem.F.entry_dict_keyiterator_next ?_ (PySem.F.args_dict_keyiterator_next_1 _))))
 refine zA (zB ?_);refine zA ?_;refine zA ?_
 first|refine zA (wZ a.typeIs (zB ?_))|refine zA (vX a.typeIs (zB ?_))
 refine zA (wpAny_fieldsOf b e ?_);have j:Builtin.Dict_items.ownsTuple "dict_keyiterator"=false:=∅
 simp only[j,Bool.false_eq_true,if_false];show wpAny _ _ (if(Value.ref d == Value.none)=true then _ else _) _ _ s;rw[zF (show¬ ((Value.ref d == Value.none)=true) from yJ)];refine zA (zB ?_);refine zA (qF f c ?_);rw[zF (by simp)];refine zA (zB ?_);refine zA (qT f c ?_);rw[zF (by simp)];refine zB ?_;simp only[show¬ ((es.size:Int)<0) from⋯,if_false,Int.toNat_natCast,Array.getElem?_eq_none (Nat.le_refl _)];refine zA ?_
 first|refine zA (wZ a.typeIs (zB ?_))|refine zA (vX a.typeIs (zB ?_))
 show wpAny _ _ (setField (.ref it) 0 .none >>= _) _ _ s;refine zA (rT b e (by simp) ?_);show wpAny _ _ (newExc (.type "StopIteration") [] >>= _) _ _ _;refine zA ?_;simp only[newExc,newTuple];refine zA (xL ?_ (by size_fits));refine zA (m:=firstArgMember _ _) (wpAny_of_eq (a:=Value.none) (by first|rfl|(simp only[firstArgMember];rfl)) ?_);refine xL ?_ (by size_fits);simp only[raiseNew];refine zA (wpAny_handled ?_);rw[show A.in1.handled=none from hh];refine zA (zB (wpAny_throw ?_));refine zA (vW (T:= "StopIteration") (b:=true) ⟨_,zT _ rfl,rfl⟩ qZ ?_);exact zB (g _ (((vC ..).extBut.push _).push _))
theorem To(hh:A.handled=none)(I d:Addr)(k:d≠I)(es:Array DictEntry)(ep:Nat):
  Walks prog w A I [I,d] [I] es.size (λi v=>(es[i]?).map (·.key)=some v) (λi h=>h.IsKeyIter I d i es.size ep/\RawD h d es ep) where
 sub:=λb a=>by simp at a;simp[a]
 frame:=λ_ _ _ st g=>⟨st.1.at λo e=>g I (by simp) o e,st.2.at λo e=>g d (by simp) o e⟩
 item:=λi s Q E hi st c=>by
  refine Tr st.1 st.2 hi λh' j f=>?_;exact c _ h' s.toks (by simp[hi]) ⟨j,st.2.at λo e=>(f.2 d k).trans e⟩ λb o a e=>(f.2 b (λh=>a (by simp[h]))).trans e
 done:=λs Q E st c=>Tq hh st.1 st.2 λh' l=>c h' s.toks λb o a e=>l b o (λh=>a (by simp[h])) e
 self:=λ_ _ _ _ st c=>wpAny_pyIter_keyiter st.1 c
theorem Tn:typeLookup (.type "dict") "__len__"=pure (some (.builtin "dict.__len__")):=PySem.F.slot_dict_len.lookup
theorem Tm{Q:LW->Shared->Prop}(hh:A.handled=none)(K:(d == sysModules)=false)(c:RawD s.heap d es ep)(I:es.size<=sizeLine)
  (h:∀h' tk,(∀b o,s.heap.get? b=some o->h'.get? b=some o)->Q (es.toList.map (·.key)) {s with heap:=h',toks:=tk}):wpAny (model prog w) A (collect (.ref d)) Q E s:=by
 obtain⟨o,G,X,V⟩:=id c;have r:@LT.lt Nat _ d s.heap.objs.size:=zP G;unfold collect;refine zA (wpAny_runValue (tL PySem.F.entry_proto_collect ?_));rw[uZ PySem.F.plain_proto_collect _];show wpAny _ A.in1 (newList [] >>= λl=>again (.builtin "list.__iadd__" ⟨[l,.ref d],[]⟩)) _ _ s;refine zA (xL ?_);refine zB ⟨qB PySem.F.plain_list_iadd _,tL PySem.F.entry_list_iadd ?_⟩;rw[uZ PySem.F.plain_list_iadd _];have O:(s.heap.push {cls:=.type "list",data:=.seq ([]:LW).toArray}).get? s.heap.objs.size=some {cls:=.type "list",data:=.seq ([]:LW).toArray}:=zT _ rfl;have p:RawD (s.heap.push {cls:=.type "list",data:=.seq ([]:LW).toArray}) d es ep:=c.at λo e=>zC _ e;have k1:∀b o,s.heap.get? b=some o->(s.heap.push {cls:=.type "list",data:=.seq ([]:LW).toArray}).get? b=some o:=λb o e=>zC _ e;have t:(s.heap.push {cls:=.type "list",data:=.seq ([]:LW).toArray}).objs.size=s.heap.objs.size+1:=size_push' _ _;show wpAny _ A.in1 (Builtin.List.listExtendWith (.ref s.heap.objs.size) (.ref d) (.ref s.heap.objs.size)) _ _ {s with heap:=s.heap.push {cls:=.type "list",data:=.seq ([]:LW).toArray}};generalize s.heap.push {cls:=.type "list",data:=.seq ([]:LW).toArray}=a at*
 unfold Builtin.List.listExtendWith;refine zA (uP (s:={s with heap:=a}) (T:= "dict") (RawD.typeIs (s:={s with heap:=a}) p) ?_);have e1:Builtin.List.listSameRef (.ref s.heap.objs.size) (.ref d)=false:=by simp only[Builtin.List.listSameRef,beq_eq_false_iff_ne];exact yA (zY r)
 rw[zF (by rw[e1];decide)];refine zA (Ts (s:={s with heap:=a}) K p ?_);have n:RawD (a.push {cls:=.type "dict_keyiterator",data:=.fields #[.ref d,.int 0 0,.int es.size 0,.int ep 0]}) d es ep:=p.at λo e=>zC _ e;have R:(a.push {cls:=.type "dict_keyiterator",data:=.fields #[.ref d,.int 0 0,.int es.size 0,.int ep 0]}).IsKeyIter a.objs.size d 0 es.size ep:=⟨_,zT _ rfl,rfl,rfl⟩;have F:(a.push {cls:=.type "dict_keyiterator",data:=.fields #[.ref d,.int 0 0,.int es.size 0,.int ep 0]}).get? s.heap.objs.size=_:=zC _ O;have k2:∀b o,a.get? b=some o->(a.push {cls:=.type "dict_keyiterator",data:=.fields #[.ref d,.int 0 0,.int es.size 0,.int ep 0]}).get? b=some o:=λb o e=>zC _ e;generalize a.push {cls:=.type "dict_keyiterator",data:=.fields #[.ref d,.int 0 0,.int es.size 0,.int ep 0]}=f at*
 refine zA (xW ?_);unfold Builtin.List.listLengthHint;refine zA (wpAny_specialOf (s:={s with heap:=f}) (RawD.typeIs (s:={s with heap:=f}) n) Tn ?_);generalize hid:("dict.__len__" :String)=u
 (fail_if_success (clear hid u))
 wp_delta
 rw[show splitId u=some ("dict","__len__") from by subst hid;decide +kernel];subst hid;refine zA (vW (b:=true) (RawD.typeIs (s:={s with heap:=f}) n) (by rw[isSubtype_type];kernel_rfl) ?_);refine zA (uP (s:={s with heap:=f}) (T:= "dict") (RawD.typeIs (s:={s with heap:=f}) n) ?_);refine zB ?_;rw[zG ∅];refine zA (wP ?_);refine zA ?_;show wpAny _ A.in1 (updateSeq s.heap.objs.size (·.push .none) >>= λ_=>updateSeq s.heap.objs.size (·.pop)) _ _ _;refine zA (wpAny_updateSeq F rfl ?_);have x:=vH (Obj.mapSeq (·.push Value.none)) F rfl;refine wpAny_updateSeq x rfl ?_;have P:=vH (Obj.mapSeq (·.pop)) x rfl;have N:d≠a.objs.size:=zY (by rw[t];exact qG r);have D:s.heap.objs.size≠a.objs.size:=by rw[t];exact zY (uY _)
 have C:s.heap.objs.size≠d:=yA (zY r);have q:∀b o,b≠s.heap.objs.size->f.get? b=some o->((f.update s.heap.objs.size (Obj.mapSeq (·.push Value.none))).update s.heap.objs.size (Obj.mapSeq (·.pop))).get? b=some o:=
  λb o k e=>(uJ _ _ (yA k)).trans ((uJ _ _ (yA k)).trans e)
 have S:=(To (prog:=prog) (w:=w) (A:=A.in1) hh a.objs.size d N es ep).toS;refine zB ⟨qB PySem.F.plain_extend_loop _,codeAny_extend_loopS S I s.heap.objs.size (λc=>by rcases xE.mp c with z|z;exact D z;exact C (pY.mp z)) _ es.size 0 _ _ _ rfl (yR _)
  ⟨R.at λo e=>q _ _ (yA D) e,n.at λo e=>q _ _ (yA C) e⟩ P (ItemsOf.nil _) λs' m W c M y=>?_⟩
 show wpAny _ A (load s.heap.objs.size >>= _) _ _ s';refine zA (wpAny_load M ?_);have J:m.toList=es.toList.map (·.key):=by
  apply qJ
  intro j;rw[zD,yU,yU];cases hj:m[j]? with
  |some v=>exact(y.2 j v hj).symm
  |none =>
   have:m.size<=j:=Array.getElem?_eq_none_iff.mp hj;rw[Array.getElem?_eq_none (by rw[←y.1];exact this)];rfl
 show wpAny _ _ (pure m.toList) Q E s';rw[J];have U:s'={s with heap:=s'.heap,toks:=s'.toks}:=by
  obtain⟨_,g,T,L,_⟩:=c;cases s';cases g;cases T;cases L;rfl
 rw[U];refine zB (h _ _ λb o e=>c.heap b o ?_ (q b o ?_ (k2 _ _ (k1 _ _ e))))
 ·have k:@LT.lt Nat _ b s.heap.objs.size:=zP e;intro c;rcases xE.mp c with z|z
  ·exact absurd z (zY k)
  ·rw[pY.mp z,t]at k;exact absurd k (Nat.not_lt.mpr (pJ _))
 ·exact zY (zP e)
end
def Tl(K:Frag)(N:Nat):List V->Hp->VK->Prop:=λxs H Q=>∃(a:Addr)(kvs:List (PyData×V))(l0 l1:List PyData),xs=[.ref a]/\kvs.length<=N/\DTr K H a kvs/\(∀kv∈kvs,sm (.tuple (.tuple l1:: l0)) kv.1=true) /\
 ∀q(ps':List (V×PyData)) H',Same H H'->H q=none->H' q=some (.lst (ps'.map (·.1)))->(∀p∈ps',tT 4 p.2=true/\Dt K H p.1 p.2)->(ps'.map (·.2)).Perm (kvs.map (·.1))->Asc ps'->Q (.ref q) H'
section
variable {X:Cx}
theorem Tk{N:Nat}(J:∀n,n<=N->gL X.prog X.w n)(O:X.A.units+64<cLine)(P:X.calm=true):lZ X (.builtin "sorted") (Tl X.K N):=by
 intro a5 s a9 H xs us Q I r h;obtain⟨a,kvs,i,l1,rfl,a6,g,c,q⟩:=h;obtain⟨u,rfl,a1⟩:=jF r;cases a1;obtain⟨xs,e,d,dd⟩:=fN I g;obtain⟨o,es,ep,a0,D,S,m,_⟩:=id dd;have b1:=g.len;have a3:RawD s.heap a es ep:=⟨o,a0,D,S⟩;have L:es.toList.map (·.key)=xs.map λx=>Value.ref x.2.1:=by rw[m,yI];rfl
 have U:∀{kvs:List (PyData×V)}{xs:List (PyData×Addr×Value)},KP X.K H kvs xs->(∀f∈kvs,sm (.tuple (.tuple l1:: i)) f.1=true)->Paired (TV X.K H (.tuple (.tuple l1:: i))) (xs.map λx=>(V.ref x.2.1,x.1)) (xs.map λx=>Value.ref x.2.1)/\(xs.map (·.1))=kvs.map (·.1):=by
  intro kvs xs d
  induction d with
  |nil=>intro _;exact⟨.nil,rfl⟩
  |@cons p q ps a7 b b2 M =>
   intro c;obtain⟨G,Z⟩:=M λf K=>c f (.tail _ K);have z:=c p (.head _);rw[b.1]at z;have l:=b.2.1.1;have k:=b.2.1.2;rw[b.1]at l k;refine⟨.cons ⟨rfl,l,z,k⟩ G,?_⟩;rw[zK,zK,Z,b.1]
 obtain⟨j,t⟩:=U d c;have a8:xs.length=kvs.length:=by have:=wF List.length t;simpa using this
 have le:es.size=xs.length:=by have:=wF List.length m;simpa using this
 refine Jw J O (d0:=.tuple (.tuple l1:: i)) (its:=xs.map λx=>Value.ref x.2.1) (ps:=xs.map λx=>(V.ref x.2.1,x.1)) (by rw[yE];omega) (by rw[yE];omega) rfl j (λb0 a4 Y=>?_) λF ps' H' C T a2 w as=>?_
 ·refine Tm (I.ok.hd P) g.sys a3 ⋯ λh' tk R=>?_;rw[L];exact Y _ (I.kept (t':=tk) R)
 ·refine q F ps' H' C T a2 (λp W=>?_) ?_ as
  ·obtain⟨v,_,y⟩:=Paired.mem j p (w.mem_iff.mp W);exact⟨y.t,y.d⟩
  ·have:=w.map (·.2);rw[yI]at this;rw[←t];exact this
end
open Sem (wp)
theorem Tj:typeLookup (.type "list") (Str.ofString "keys")=pure none:=am_miss_of_fast (by kernel_rfl)
theorem Ti:typeLookup (.type "list") "__getattr__"=pure none:=by rw[typeLookup_type,builtinLookup_eq_fast];kernel_rfl
section
variable {prog:Program} {w:World} {A:Around} {E:VP} {h:Heap} {g:Array GenState} {d:Drawn} {t:Nat} {os:OsState} {a:Addr} {o:Obj}
theorem Th{tk:Tok}{Q:PySem.Fin->Shared->Prop}(hh:A.handled=none)(i:h.get? a=some o)(b:o.cls=.type "list")(j:o.dict=none){xs:Array Value}{n:Nat}(f:o.data=.seq xs n)(c:∀h' tk e,Heap.NewAttrErr h h' e (.ref a) (Str.ofString "keys")->E (.ref e) ⟨h',g,d,tk,os⟩):
  wpAny (model prog w) A (Builtin.«object.__getattribute__» ⟨[.ref a,.str (Str.ofString "keys") tk],[]⟩) Q E ⟨h,g,d,t,os⟩:=by
 have l:(⟨h,g,d,t,os⟩:Shared).TypeIs (.ref a) "list" := ⟨_,i,b⟩;have k:=Tj;unfold Builtin.«object.__getattribute__»
 repeat (any_goals (first|assumption|wp_step))
 rw[f];dsimp only;unfold instanceDict
 repeat (any_goals (first|assumption|wp_step))
 rw[b,j];dsimp only;simp only[Bool.not_false,Bool.true_or,if_true]
 repeat (any_goals (first|assumption|wp_step))
 exact wpAny_raiseAttrError hh c (attrMsg_fits (nofun) (by size_fits))
theorem Tg{Q:Option Value->Shared->Prop}(hh:A.handled=none)(c:h.get? a=some o)(f:o.cls=.type "list")(m:o.dict=none){xs:Array Value}{n:Nat}(k:o.data=.seq xs n)(j:∀h' tk,(∀b i,h.get? b=some i->h'.get? b=some i)->Q none ⟨h',g,d,tk,os⟩):
  wpAny (model prog w) A (getAttr? (.ref a) (Str.ofString "keys")) Q E ⟨h,g,d,t,os⟩:=by
 have l:∀t,(⟨h,g,d,t,os⟩:Shared).TypeIs (.ref a) "list" := λt=>⟨_,c,f⟩;have v:(⟨h,g,d,t+1,os⟩:Shared).TypeIs (.ref a) "list" := ⟨_,c,f⟩;have r:=sub_AttributeError;have y:=PySem.F.slot_list_getattribute.lookup;have p:=PySem.F.slot_list_getattribute.bind (.ref a);have z:=Ti;unfold getAttr? getAttrBy?;refine zA (wpAny_mkText ?_);refine zA (vN ?_);unfold getAttrBy
 repeat (any_goals (first|assumption|((with_reducible show wpAny _ _ (call (Value.builtin "list.__getattribute__") _ _) _ _ _);refine xX PySem.F.slot_list_getattribute (l _) PySem.F.entry_list_ga (Th hh c f m k λh' q e c=>?_) (PySem.F.args_list_getattribute_2 _ _))|wp_step))
 obtain⟨t',u,x⟩:=c.there
 repeat (any_goals (first|assumption|wp_step))
 exact j _ _ c.keeps
end
theorem An:plainId "dict.update.loop"=true:=nofun
theorem Jv:entryFor table "dict.update.loop"=some Builtin.«dict.update.loop»:=entryFor_of_fast (by kernel_rfl)
structure Ent where
 p:Addr
 k:PyData
 b:Addr
 v:Value
def Ent.ok(h:Heap)(t:Ent):Prop:=(∃o n,h.get? t.p=some o/\o.cls=.type "tuple" /\ o.data=.seq #[.ref t.b,t.v] n)/\isT h t.k t.b
theorem Ent.up{h h':Heap}{e:Ent}(x:e.ok h)(a:∀b o,h.get? b=some o->o.cls=.type "tuple" -> h'.get? b=some o):e.ok h':=by
 obtain⟨⟨o,n,g,d,f⟩,c,as,i⟩:=x;exact⟨⟨o,n,a _ _ g d,d,f⟩,c,as,Dq a 4 c i⟩
def putP(xs:List (PyData×Addr×Value))(t:Ent):List (PyData×Addr×Value):=storedH xs t.k t.b t.v
theorem Tf(xs:List (PyData×Addr×Value))(k:PyData)(b:Addr)(v:Value):(storedH xs k b v).length<=xs.length+1:=by
 unfold storedH;split <;> simp
section
variable {prog:Program} {w:World} {A:Around} {R:Result->Shared->Prop} {d it l:Addr} {items:Array Value}
theorem Ju(hh:A.handled=none)(a3:A.units+32<cLine)(p:d≠it)(O:d≠l)(N:l≠it):
  ∀(rest:List Ent)(i:Nat)(xs:List (PyData×Addr×Value))(s:Shared),(∀j,items[i+j]?=rest[j]?.map λa=>Value.ref a.p)->s.heap.IsListIter it l i->s.heap.IsList l items->s.heap.DictOfH (jA prog w) d xs->(∀a∈rest,a.ok s.heap)->xs.length+rest.length<=sizeLine ->
  (∀h' tk,(∀b o,b≠it->b≠d->s.heap.get? b=some o->h'.get? b=some o)->h'.DictOfH (jA prog w) d (rest.foldl putP xs)->R (.ok (.ret .none)) {s with heap:=h',toks:=tk}) ->
  codeAny (model prog w) A (.builtin "dict.update.loop" ⟨[.ref d,.ref it,.int i 0,.none],[]⟩) R s
 | [],i,xs,s,t,m,hl,F,_,_,I=>by
  refine tL Jv ?_;rw[uZ An _];show wpAny _ A.in1 (pyNext (.ref it) >>= _) _ _ s;refine zA (wpAny_pyNext_list_end (i:=i) hh m hl (by simpa using t 0) λh' u=>?_);show wpAny _ _ (Builtin.Dict.addKeywords d [] >>= _) _ _ _;refine zA (zB (zB ?_));obtain⟨o,es,ep,c,v⟩:=F;exact I h' s.toks (λb o a5 _ e=>u b o a5 e) ⟨o,es,ep,u d o p c,by
   obtain⟨f,C,G,J,y⟩:=v;refine⟨f,C,G,λx D=>?_,y⟩;obtain⟨a,as,r⟩:=J x D;refine⟨a,as,Dq (λb o e g=>u b o (λz=>?_) e) 4 a r⟩;obtain⟨a4,e1,a8,_⟩:=m;rw[z,e1]at e;cases e;rw[a8]at g;simp at g⟩
 | a:: rest,i,xs,s,t,m,hl,F,W,M,I=>by
  refine tL Jv ?_;rw[uZ An _];show wpAny _ A.in1 (pyNext (.ref it) >>= _) _ _ s;have U:items[i]?=some (.ref a.p):=by simpa using t 0
  refine zA (wpAny_pyNext_list_item (i:=i) m hl U λc V n=>?_);obtain⟨a4,a0,b3,_⟩:=id m;have T:∀b o,s.heap.get? b=some o->o.cls=.type "tuple" -> c.get? b=some o:=λb o e g=>(n.2 b (λz=>by rw[z,a0]at e;cases e;rw[b3]at g;simp at g)).trans e;have P:c.DictOfH (jA prog w) d xs:=by
   obtain⟨o,es,ep,k,f,C,G,J,y⟩:=F;exact⟨o,es,ep,(n.2 d p).trans k,f,C,G,λx D=>let ⟨a,as,r⟩:=J x D;⟨a,as,Dq T 4 a r⟩,y⟩
  have b6:c.IsList l items:=by
   obtain⟨o,k,f⟩:=hl;exact⟨o,(n.2 l N).trans k,f⟩
  have S:∀t'∈a:: rest,t'.ok c:=λt' K=>Ent.up (W t' K) T;obtain⟨⟨op,c1,L,a9,b0⟩,a7⟩:=S a (.head _);refine zA (xW ?_);have X:xs.length<=sizeLine:=by
   have:=M;simp only[List.length_cons]at this;omega
  refine zA (wpAny_tryCatch ?_);unfold Builtin.Dict.pairItems;refine zA (uP (s:={s with heap:=c}) (T:= "tuple") ⟨op,L,a9⟩ ?_);rw[zG ∅];refine zA (wI (s:={s with heap:=c}) L b0 (zB ?_));show wpAny _ A.in1 (holding [.ref a.b,a.v] (dictSet d (.ref a.b) a.v)) _ _ _;refine xW ?_;refine wpAny_dictSet_heap (knd:=jA prog w) (s:={s with heap:=c}) (hsz:=X) (show A.units+1+8<cLine by omega) a7 P λv b4 q=>?_;obtain⟨c2,c0,b8,b7,Y,b9,_⟩:=id P;have Z:∀b o,c.get? b=some o->o.cls=.type "tuple" -> v.get? b=some o:=λb o e g=>(q.2 b (λz=>by rw[z,b7]at e;cases e;rw[Y.1]at g;simp at g)).trans e;refine zB ⟨qB An _,?_⟩;have a1:(rawInt ((i:Int)+1))=.int ((i+1:Nat):Int) 0:=rfl;rw[a1];refine Ju hh a3 p O N rest (i+1) (storedH xs a.k a.b a.v) _ (λj=>?_) ?_ ?_ b4 (λt' K=>Ent.up (S t' (.tail _ K)) Z) ?_ λa6 b5 k3 a2=>?_
  ·have:=t (j+1);rw[List.getElem?_cons_succ]at this;rw[←this];congr 1;omega
  ·obtain⟨o,k,f⟩:=V;exact⟨o,(q.2 it (yA p)).trans k,f⟩
  ·obtain⟨o,k,f⟩:=b6;exact⟨o,(q.2 l (yA O)).trans k,f⟩
  ·have:=Tf xs a.k a.b a.v;have:=M;simp only[List.length_cons]at this;omega
  ·exact I a6 b5 (λb o b1 b2 e=>k3 b o b1 b2 ((q.2 b b2).trans ((n.2 b b1).trans e))) a2
end
section
variable {prog:Program} {w:World} {A:Around} {E:VP} {s:Shared} {l:Addr}
theorem Te{Q:VP}{es:List Ent}{o:Obj}{n:Nat}(hh:A.handled=none)(X:A.units+48<cLine)(d:s.heap.get? l=some o)(f:o.cls=.type "list")(W:o.dict=none)(k:o.data=.seq (es.map λc=>Value.ref c.p).toArray n)(F:∀c∈es,c.ok s.heap)(D:es.length<=sizeLine)
  (h:∀h' tk,(∀b o,s.heap.get? b=some o->h'.get? b=some o)->h'.DictOfH (jA prog w) s.heap.objs.size (es.foldl putP [])->Q (.ref s.heap.objs.size) {s with heap:=h',toks:=tk}):
  wpAny (model prog w) A (call (.type "dict") [.ref l]) Q E s:=by
 have u:@LT.lt Nat _ l s.heap.objs.size:=zP d;refine callType_codes (Q₁:=λq v=>q=.ref s.heap.objs.size/\v={s with heap:=s.heap.push {cls:=.type "dict",data:=.dict #[]}}) PySem.F.kt_called_dict (PySem.F.kt_typeCall_dict_1 _) PySem.F.entry_dict_init (kt_code_dict_new _ ⟨rfl,rfl⟩) ?_;rintro q v ⟨rfl,rfl⟩;have g:(s.heap.push {cls:=.type "dict",data:=.dict #[]}).DictOfH (jA prog w) s.heap.objs.size []:=Heap.DictOfH.new s.heap;have k1:∀b o,s.heap.get? b=some o->(s.heap.push {cls:=.type "dict",data:=.dict #[]}).get? b=some o:=λb o e=>zC _ e;have Y:(s.heap.push {cls:=.type "dict",data:=.dict #[]}).objs.size=s.heap.objs.size+1:=size_push' _ _;generalize s.heap.push {cls:=.type "dict",data:=.dict #[]}=p at*
 have y:=Heap.DictOfH.typeIs (s:={s with heap:=p}) g;refine⟨y,PySem.F.args_dict_init_2 _ _,?_⟩;unfold Builtin.«dict.__init__»;refine zA ?_;unfold Builtin.Dict.selfAndRest;refine zA (wpAny_notOrdered_dict y ?_);show wpAny _ _ (pure (s.heap.objs.size,[Value.ref l])) _ _ _;refine zB ?_;show wpAny _ _ (Builtin.Dict.updateFrom "dict.__init__" s.heap.objs.size (.ref l) [] .none) _ _ {s with heap:=p};unfold Builtin.Dict.updateFrom;refine zA (uP (s:={s with heap:=p}) (T:= "list") ⟨o,k1 _ _ d,f⟩ ?_);rw[zG ∅];refine zA (Tg (A:=A.in1.in1) hh (k1 _ _ d) f W k λa t k2=>?_);rw[zG (by rfl)];refine zA (wP ?_);have R:a.IsList l (es.map λc=>Value.ref c.p).toArray:=⟨o,k2 _ _ (k1 _ _ d),f,n,k⟩;refine zA (sK (s:={s with heap:=a,toks:=t}) R ?_);have m:s.heap.objs.size+1<=a.objs.size:=by
  obtain⟨C,_,_,e,_⟩:=id g;exact(show @LT.lt Nat _ s.heap.objs.size a.objs.size from zP (k2 _ _ e))
 have k3:∀b o,a.get? b=some o->(a.push {cls:=.type "list_iterator",data:=.fields #[.ref l,.int 0 0]}).get? b=some o:=λb o e=>zC _ e;have I:(a.push {cls:=.type "list_iterator",data:=.fields #[.ref l,.int 0 0]}).IsListIter a.objs.size l 0:=⟨_,zT _ rfl,rfl,rfl⟩;show wpAny _ _ _ _ _ {s with heap:=a.push {cls:=.type "list_iterator",data:=.fields #[.ref l,.int 0 0]},toks:=t};generalize a.push {cls:=.type "list_iterator",data:=.fields #[.ref l,.int 0 0]}=M at*
 have i:∀b o,s.heap.get? b=some o->M.get? b=some o:=λb o e=>k3 _ _ (k2 _ _ (k1 _ _ e));refine zA (zB ?_);refine zB ⟨qB An _,?_⟩;refine Ju (A:=A.in1) (items:=(es.map λc=>Value.ref c.p).toArray) hh (by show A.units+1+32<cLine;omega) (zY (zI (uY _) m)) (yA (zY u)) (zY (zI (qG u) m)) es 0 [] _ (λj=>by simp) I
  ⟨o,i _ _ d,f,n,k⟩ ?_ (λc P=>Ent.up (F c P) λb o e _=>i b o e) (by simpa using D) λO N J L=>?_
 ·obtain⟨C,T,ep,e,r⟩:=id g;obtain⟨K,S,V,_,U⟩:=r;exact⟨C,T,ep,k3 _ _ (k2 _ _ e),K,S,V,λx G=>(nomatch G),U⟩
 ·refine⟨rfl,h O N (λb o e=>?_) L⟩;have z:@LT.lt Nat _ b s.heap.objs.size:=zP e;exact J b o (zY (zI (qG z) m)) (zY z) (i _ _ e)
end
def Td(K:Frag):List V->Hp->VK->Prop:=λxs H Q=>∃(l:Addr)(ts:List (Addr×PyData×Addr×V)),xs=[.ref l]/\SqL K H l (ts.map λt=>V.ref t.1)/\(∀t∈ts,SqT K H t.1 [.ref t.2.2.1,t.2.2.2]/\tT 4 t.2.1=true/\Dt K H (.ref t.2.2.1) t.2.1)/\(ts.map (·.2.1)).Nodup /\
 ∀D H',Same H H'->H D=none->DTr K H' D (ts.map λt=>(t.2.1,t.2.2.2))->Q (.ref D) H'
theorem Tc{kvs:List (PyData×V)}{k:PyData}(h:k∉kvs.map (·.1)):vT kvs k=none:=by
 induction kvs with
 |nil=>rfl
 |cons p r a =>
  rw[zK,xE,not_or]at h;rw[fL (λe=>h.1 e.symm)];exact a h.2
section
variable {X:Cx}
theorem Ta(b2:X.A.units+64<cLine)(O:X.calm=true):lZ X (.type "dict") (Td X.K):=by
 intro a9 s b3 H xs us Q I r h;obtain⟨l,ts,rfl,T,b,W,q⟩:=h;obtain⟨u,rfl,a4⟩:=jF r;cases a4;obtain⟨its,a8,⟨o,b0,e,c,Z,dd⟩,t⟩:=I.list T;have mk:∀(ts:List (Addr×PyData×Addr×V))(its:LW),Vals (ts.map λa=>V.ref a.1) its->(∀a∈ts,SqT X.K H a.1 [.ref a.2.2.1,a.2.2.2]/\tT 4 a.2.1=true/\Dt X.K H (.ref a.2.2.1) a.2.1) ->
   ∃es:List Ent,its=es.map (λa=>Value.ref a.p)/\Paired (λa(e:Ent)=>e.k=a.2.1/\e.b=a.2.2.1/\RelV a.2.2.2 e.v/\e.ok s.heap) ts es:=by
  intro ts
  induction ts with
  |nil=>intro its r _;cases r;exact⟨[],rfl,.nil⟩
  | cons a ts m =>
   intro its r b;cases r with
   | cons M a2 =>
    obtain⟨es,e1,g⟩:=m _ a2 λx k=>b x (.tail _ k);obtain⟨f,j,n⟩:=b a (.head _);obtain⟨b1,F,⟨op,S,G,U,a0⟩,_⟩:=I.tuple f;cases F with
    | cons L i =>
     cases i with
     |cons i a5 =>
      cases a5;cases L;cases M;rename_i v2;refine⟨⟨a.1,a.2.1,a.2.2.1,v2⟩:: es,by rw[zK,←e1],.cons ⟨rfl,rfl,i,⟨op,U,S,G,a0⟩,fM I j n⟩ g⟩
 obtain⟨es,e1,g⟩:=mk ts its a8 b;subst e1;have a3:ts.length=es.length:=nX g;refine Te (es:=es) (I.ok.hd O) ⋯ e c Z (by rw[dd]) (λa p=>?_) (by rw[←a3];simpa using t) λh' tk P D=>?_
 ·obtain⟨_,_,z⟩:=Ao g a p;exact z.2.2.2
 have R:∀(ts:List (Addr×PyData×Addr×V))(es:List Ent),Paired (λa(e:Ent)=>e.k=a.2.1/\e.b=a.2.2.1/\RelV a.2.2.2 e.v/\e.ok s.heap) ts es->(∀a∈ts,tT 4 a.2.1=true/\Dt X.K H (.ref a.2.2.1) a.2.1)->∀(kvs:List (PyData×V))(xs:List (PyData×Addr×Value)),KP X.K H kvs xs->(kvs.map (·.1)++ts.map (·.2.1)).Nodup->KP X.K H (kvs++ts.map λa=>(a.2.1,a.2.2.2)) (es.foldl putP xs):=by
  intro ts es Y
  induction Y with
  |nil=>intro _ kvs xs d _;rw[List.map_nil,wX];exact d
  | @cons a e ts es C _ m =>
   intro b kvs xs d v;obtain⟨f,j,n,_⟩:=C;have st:=d.put a.2.1 (b a (.head _)).1 (b a (.head _)).2 n;have a6:a.2.1∉kvs.map (·.1):=λN=>by
    have:=(List.nodup_append.mp v).2.2 _ N a.2.1 (by simp);exact this rfl
   have ep:pT kvs a.2.1 a.2.2.2=kvs++[(a.2.1,a.2.2.2)]:=by
    unfold pT;rw[Tc a6];rfl
   rw[ep,←f,←j]at st;have:=m (λx k=>b x (.tail _ k)) _ _ st (by rw[yV,yN];simpa [f]using v);rw[yN]at this;rw[f]at this;show KP X.K H _ (List.foldl putP (storedH xs e.k e.b e.v) es);rw[f];exact this
 have d:=R ts es g (λa p=>(b a p).2) [] [] .nil (by simpa using W);rw[List.nil_append]at d;obtain⟨b4,b5,b6,a7,K,J,a1,_,y⟩:=D;have w:H s.heap.objs.size=none:=I.hok.fresh (zE _);have sm:Same H (upd H s.heap.objs.size (kD s.heap.objs.size (es.foldl putP []))):=Same.new w;refine⟨.ref s.heap.objs.size,_,I.laid (a:=s.heap.objs.size) (o:=kD s.heap.objs.size (es.foldl putP [])) (t':=tk) P (zE _) (Az a7 K J a1),rfl,?_⟩;refine q _ _ sm w ⟨by rw[yE];simpa using t,pV.mpr (yA (zY (Ck I))),_,oQ,y,d.keeps (mL sm)⟩
end
open Classical in
def rdT(h:Heap)(v:Value):Option PyData:=if q:∃d,tT 4 d=true/\∃as,Reads h v d as then some q.choose else none
theorem Jt{h:Heap}{d:PyData}{v:Value}{as:LA}(b:tT 4 d=true)(r:Reads h v d as):rdT h v=some d:=by
 have q:∃d,tT 4 d=true/\∃as,Reads h v d as:=⟨d,b,as,r⟩;unfold rdT;rw[pQ q];obtain⟨t',c,a⟩:=q.choose_spec;rw[tV _ _ _ _ _ (iG 4 _ (gI 4 _ t')).1 a r]
def rInD(K:Frag)(neg:Bool):R2:=λx y H Q=>∃(p:Addr)(ps:List (V×PyData))(d:PyData),y=.ref p/\(SqL K H p (ps.map (·.1))\/SqT K H p (ps.map (·.1)))/\(∀q∈ps,tT 4 q.2=true/\Dt K H q.1 q.2)/\tT 4 d=true/\Dt K H x d/\Q (.bl (if neg=true then !(ps.any λq=>decide (q.2=d)) else ps.any λq=>decide (q.2=d))) H
section
variable {X:Cx}
theorem Dm{f:PN}{b:St}{H:Hp}{s:Shared}(I:Inv X f b H s)(d:PyData):∀{ps:List (V×PyData)}{us:LW},Vals (ps.map (·.1)) us->(∀q∈ps,tT 4 q.2=true/\Dt X.K H q.1 q.2)->us.any (λu=>decide (rdT s.heap u=some d))=ps.any λq=>decide (q.2=d)
 |[],_,.nil,_=>rfl
 |p:: ps,u:: us,.cons r g,h=>by
  rw[tF,tF,Dm I d g λq a=>h q (.tail _ a)];obtain⟨as,c⟩:=(h p (.head _)).2.reads I r;rw[Jt (h p (.head _)).1 c];congr 1;exact pN.mpr ⟨λe=>by cases e;rfl,λe=>by rw[e]⟩
theorem Dl{o:PN}{l:St}{H:Hp}{s:Shared}(I:Inv X o l H s){A:Around}(a:A.units+8<cLine){x:V}{v:Value}{d:PyData}(f:RelV x v)(i:tT 4 d=true)(j:Dt X.K H x d):∀{ps:List (V×PyData)}{us:LW},Vals (ps.map (·.1)) us->(∀q∈ps,tT 4 q.2=true/\Dt X.K H q.1 q.2)->∀u∈us,SeqAt.EqAt A s u v (decide (rdT s.heap u=some d))
 |[],_,.nil,_=>λu a=>by cases a
 | p:: ps,u:: us,.cons r n,h=>λc b=>by
  rcases xE.mp b with rfl|b
  ·obtain⟨as,g⟩:=(h p (.head _)).2.reads I r;obtain⟨bs,t⟩:=j.reads I f;have e:decide (rdT s.heap c=some d)=decide (p.2=d):=by
    rw[Jt (h p (.head _)).1 g];exact pN.mpr ⟨λe=>by cases e;rfl,λe=>by rw[e]⟩
   rw[e];intro prog w E Q m;exact eqT (n:=4) (zE _) (h p (.head _)).1 i g t a m
  ·exact Dl I a f i j n (λq k=>h q (.tail _ k)) c b
theorem Uz(m:X.A.units+64<cLine):OpR X (compareOp .NotIn) (rInD X.K true):=by
 intro l s k H x y v u Q I e i h;obtain⟨p,ps,d,rfl,a,b,f,g,q⟩:=h;cases i;rcases a with a|a
 ·obtain⟨its,r,pl,j⟩:=I.list a;refine SeqAt.notIn_listAt (λu=>decide (rdT s.heap u=some d)) pl.isList (λw c=>Dl I ?_ e f g r b w (by simpa using c)) ⟨.bl _,H,I,rfl,?_⟩
  ·show X.A.units+1+8<cLine;omega
  rw[show its.toArray.any (λu=>decide (rdT s.heap u=some d))=its.any (λu=>decide (rdT s.heap u=some d)) by simp,Dm I d r b];exact q
 ·obtain⟨its,r,pl,j⟩:=I.tuple a;refine SeqAt.notIn_tupleAt (λu=>decide (rdT s.heap u=some d)) pl (λw c=>Dl I ?_ e f g r b w (by simpa using c)) ⟨.bl _,H,I,rfl,?_⟩
  ·show X.A.units+1+8<cLine;omega
  rw[show its.toArray.any (λu=>decide (rdT s.heap u=some d))=its.any (λu=>decide (rdT s.heap u=some d)) by simp,Dm I d r b];exact q
end
structure FunD(K:Frag)(x qual:Str)(st:Stmt)(f:Addr)(fd:FuncData)(ds:LW):Prop where
 ex:∃(oc:Value)(od:Option Addr)(T:Addr)(kV doc pm:Value)(an:Option Addr)(cdv ct:Value)(osl:Array (Option Value)),
  fd=PySem.W.fnOf x qual (jS st) (kF st) (oO st) (.ref T) kV doc pm an cdv ct/\K.lookup f=some ⟨oc,od,.func fd,osl⟩/\PySem.W.codeIn K cdv qual=true/\∃(o2:Value)(d2:Option Addr)(n2:Nat)(s2:Array (Option Value)),K.lookup T=some ⟨o2,d2,.seq ds.toArray n2,s2⟩
 kp:PySem.W.keepIn K (.ref f)=true
section
variable {P:Program} {w:World} {K:Frag} {mg:MT} {base:Heap}
theorem FunD.ok{x b:Str}{st:Stmt}{f:Addr}{d:FuncData}{ds:LW}{N ps:List Str}{k:Nat}{c:Sp}(F:FunD K x b st f d ds)(i:nB N ps (oO st))(len:∀vs H Q E,c vs H Q E->vs.length=ps.length)
  (e:∀(cdv:Value)(A:Around)(outer:List Env)(s:Shared)(H:Hp)(vs:List V)(Q:VK)(E:XK),Room k (A.deeper (envOfC b (oO st) s.heap.objs.size f cdv))->c vs H Q E ->
   ∃a,PSs (cxOf CX0 P w K mg base N b (oO st) f cdv A outer s H E).nox (kF st) a/\a {nx:=λ_ H'=>Q .non H',rt:=Q} (iE N vs) H):FnOk P w K mg base CX0 (k+1) f d ps c:=by
 obtain⟨m,r,T,kV,o,p,u,cdv,t,n,rfl,l,j,_⟩:=F.ex;refine Bf l j i len λA outer s H vs Q E hr g=>?_;obtain⟨a,h,q⟩:=e cdv A outer s H vs Q E hr g;exact⟨a,h.nox,q⟩
theorem FunD.binds{x g:Str}{st:Stmt}{f:Addr}{e:FuncData}{ps:List Str}{ds:LW}(F:FunD K x g st f e ds)
  (h:∀(T:Addr)(kV a b:Value)(d:Option Addr)(cdv c:Value)(us:LW),us.length+ds.length=ps.length->∃k,bindArgs (PySem.W.fnOf x g (jS st) (kF st) (oO st) (.ref T) kV a b d cdv c) ⟨us,[]⟩=seqItems? (.ref T) >>= k/\k (some ds.toArray)=pure (ps.zip (us++ds))):lB K e ps ds:=by
 obtain⟨n,o,T,kV,a,b,d,cdv,c,m,rfl,p,q,u,l,t,r,lt⟩:=F.ex;intro s us i hl;obtain⟨k,e1,j⟩:=h T kV a b d cdv c us (by simpa using hl);exact BindsTo.of_defaults (T:=T) rfl (i _ _ lt) rfl e1 j
theorem FunD.bindsA{x g:Str}{st:Stmt}{f:Addr}{e:FuncData}{ps:List Str}{ds:LW}(F:FunD K x g st f e ds)
  (h:∀(T:Addr)(kV a b:Value)(d:Option Addr)(cdv c:Value)(us:LW),us.length=ps.length->∃k,bindArgs (PySem.W.fnOf x g (jS st) (kF st) (oO st) (.ref T) kV a b d cdv c) ⟨us,[]⟩=seqItems? (.ref T) >>= k/\k (some ds.toArray)=pure (ps.zip us)):lB K e ps []:=by
 obtain⟨n,o,T,kV,a,b,d,cdv,c,m,rfl,p,q,u,l,t,r,lt⟩:=F.ex;intro s us i hl;rw[wX]at hl ⊢;obtain⟨k,e1,j⟩:=h T kV a b d cdv c us hl;exact BindsTo.of_defaults (T:=T) rfl (i _ _ lt) rfl e1 j
theorem Js{x a:Str}{st:Stmt}{f T:Addr}{j q:Value}{n i g:Option Addr}{m o:Array (Option Value)}{kV b d cdv e:Value}{ds:LW}{p:Nat}(l:K.lookup f=some ⟨j,n,.func (PySem.W.fnOf x a (jS st) (kF st) (oO st) (.ref T) kV b d g cdv e),m⟩)
  (c:PySem.W.codeIn K cdv a=true)(k:PySem.W.keepIn K (.ref f)=true)(l2:K.lookup T=some ⟨q,i,.seq ds.toArray p,o⟩):FunD K x a st f (PySem.W.fnOf x a (jS st) (kF st) (oO st) (.ref T) kV b d g cdv e) ds:=⟨⟨j,n,T,kV,b,d,g,cdv,e,m,rfl,l,c,q,i,p,o,l2⟩,k⟩
end
def vI(kvs:List (Key×V))(i:Int):Option V:=(kvs.find? λkv=>decide (kv.1=Sum.inl i)).map (·.2)
theorem Jr{kvs:List (Key×V)}{vs:List (Key×Value)}(r:KV kvs vs)(i:Int):RelO (vI kvs i) (valueAt vs (Sum.inl i)):=by
 induction r with
 |nil=>exact True.intro
 |@cons p q _ _ h _ a =>
  obtain⟨c,b⟩:=h;unfold vI valueAt at a ⊢;rw[vL,vL,←c]
  by_cases z:p.1=Sum.inl i
  ·rw[zL z];exact b
  ·rw[zN z];exact a
theorem Uy{kvs:List (Key×V)}{vs:List (Key×Value)}(r:KV kvs vs){k:Key}{v:V}{u:Value}(h:RelV v u):KV (kvs++[(k,v)]) (vs++[(k,u)]):=by
 induction r with
 |nil=>exact .cons ⟨rfl,h⟩ .nil
 |cons a _ b=>exact .cons a b
theorem Ux{kvs:List (Key×V)}{vs:List (Key×Value)}(r:KV kvs vs):kvs.length=vs.length:=by
 induction r with
 |nil=>rfl
 |cons _ _ a=>rw[zW,zW,a]
def Jq:TE:=λ_ H Q=>∀p,H p=none->Q (.ref p) (upd H p (.dK []))
def Uw:TSet:=λx y v H Q=>∃a kvs i,x=.ref a/\y=.int i/\H a=some (.dK kvs)/\vI kvs i=none/\kvs.length<sizeLine/\Q (upd H a (.dK (kvs++[(Sum.inl i,v)])))
section
variable {X:Cx} {pos:Pos}
theorem Uv:PE X (.Dict [] [] pos) Jq:=λa s b H Q I h =>
 wpAny_Dict_empty ⟨.ref s.heap.objs.size,_,I.laid (a:=s.heap.objs.size) (o:=.dK []) (t':=s.toks) (λ_ _ q=>zC _ q) (zE _)
  ⟨yR _,pV.mpr (yA (zY (Ck I))),[],.nil,Heap.DictOf.new s.heap⟩,rfl,h _ (I.hok.fresh (zE _))⟩
theorem Uu:PSet X Uw:=by
 intro G s F H o i v J k u Q I y p m h;obtain⟨a,kvs,j,rfl,rfl,e,n,hl,q⟩:=h;cases y;obtain⟨d,rfl⟩:=(show∃d,k=Value.int j d from p);obtain⟨_,t,vs,r,dd⟩:=(show mB X.prog X.w H s.heap a (.dK kvs) from I.hok _ _ e);have x:vs.length<=sizeLine:=by rw[←Ux r];omega
 have g:valueAt vs (Sum.inl j:Key)=none:=by
  have:=Jr r j;rw[n]at this;cases z:valueAt vs (Sum.inl j:Key) with
  |none=>rfl
  |some w=>rw[z]at this;exact this.elim
 refine wpAny_setItem_pairs (Fm X.prog X.w j d) dd (λh' b D=>?_) x;rw[stored_absent g]at b;obtain⟨f,l⟩:∃f,h'.get? a=some f:=let ⟨o,_,_,z,_⟩:=b;⟨o,z⟩
 exact⟨_,I.write (x:=a) (e:=a) (o:=.dK (kvs++[(Sum.inl j,v)])) (by rw[e];exact True.intro) (.inl rfl) (λc o C z=>(D.2 c C).trans z) ⟨f,l⟩ ⟨by rw[zS];exact hl,t,_,Uy r m,b⟩,q⟩
end
section
variable {prog:Program} {w:World} {A:Around} {s:Shared}
theorem cmpI{d0:PyData}(o:∃k:Int,d0=.int k):Cmp prog w A s (iZ s.heap d0) oneType':=by
 intro E x y a b Q n g h;obtain⟨k0,rfl⟩:=o;obtain⟨d,as,r,l,m,rfl⟩:=Ap n;obtain⟨e,bs,p,c,f,rfl⟩:=Ap g;cases m <;> simp only[sm,Bool.false_eq_true]at l;cases f <;> simp only[sm,Bool.false_eq_true]at c;refine PySem.W.kat_lt_int ?_;have q:∀i j:Int,lx [i] [j]=decide (i<j):=λi j=>by
  unfold lx;rw[pN,wS];simp
 have h':Q (lx (fl (.int _)) (fl (.int _))) s:=h;simp only[fl,q]at h';exact h'
end
def Ut(K:Frag)(N:Nat):List V->Hp->VK->Prop:=λxs H Q=>∃(p:Addr)(ns:LI'),xs=[.ref p]/\ns.length<=N/\SqL K H p (ns.map V.int) /\
 ∀q(ns':LI') H',Same H H'->H q=none->H' q=some (.lst (ns'.map V.int))->ns'.Perm ns->ns'.Pairwise (·<=·)->Q (.ref q) H'
section
variable {X:Cx} {pins:PN} {σ:St} {H:Hp} {s:Shared}
theorem Us{A:Around}{E:VP}{vs:LW}{ps:List (V×PyData)}{Q:SortKind->Shared->Prop}{k0:Int}(c:Paired (TV X.K H (.int k0)) ps vs)(I:Inv X pins σ H s)(d:2<=vs.length)(q:Q oneType' s):wpAny (model X.prog X.w) A (keyKind' vs.toArray) Q E s:=by
 refine PySem.W.kas_kind (s:=s) (T:=.type "int") d (λv b=>?_) rfl rfl q;obtain⟨p,_,a⟩:=Ao c v b;obtain⟨as,r⟩:=a.d.reads I a.r;have z:=a.z;generalize p.2=dd at*
 cases r <;> simp only[sm,Bool.false_eq_true]at z;exactλA Q E s k q=>uP (T:= "int") rfl q
theorem Ur(i j:Int):lx [i] [j]=decide (i<j):=by
 unfold lx;rw[pN,wS];simp
theorem Jp:∀{ps':List (V×PyData)},(∀p∈ps',∃n:Int,p=(.int n,.int n))->∃a:LI',ps'=a.map λn=>(V.int n,PyData.int n)
 |[],_=>⟨[],rfl⟩
 |p:: ps',h=>by
  obtain⟨n,rfl⟩:=h p (.head _);obtain⟨a,rfl⟩:=Jp λq b=>h q (.tail _ b);exact⟨n:: a,rfl⟩
theorem Dk{N:Nat}(z:∀n,n<=N->gL X.prog X.w n)(D:X.A.units+64<cLine):lZ X (.builtin "sorted") (Ut X.K N):=by
 intro pins s σ H xs us Q I r h;obtain⟨p,ns,rfl,x,f,q⟩:=h;obtain⟨u,rfl,K⟩:=jF r;cases K;obtain⟨its,v,pl,g⟩:=I.list f;obtain⟨o,w,e,c,_,dd⟩:=id pl;have F:s.heap.IsList p its.toArray:=⟨o,e,c,w,dd⟩;have e1:ns.map V.int=(ns.map λn=>(V.int n,PyData.int n)).map (·.1):=by rw[yI];rfl
 rw[e1]at v g;have d:=Dp (K:=X.K) (H:=H) (d0:=.int 0) v λq f=>by
  obtain⟨n,_,rfl⟩:=pS.mp f;exact⟨rfl,rfl,.int _⟩
 have hl:=nX d;rw[yE]at hl;have i:its.length<=sizeLine:=by rw[←hl];simpa using g
 refine Jx z D i (by rw[←hl];exact x) (λM l q=>Us d M l q) (cmpI ⟨_,rfl⟩) d (λP O C=>collect_list F (C _ (Jy I)) i) λy ps' H' sm G J t L=>?_;obtain⟨j,rfl⟩:=Jp (ps':=ps') λp d=>by
  obtain⟨n,_,rfl⟩:=pS.mp (t.mem_iff.mp d);exact⟨n,rfl⟩
 refine q y j H' sm G (by rw[J,yI];rfl) ?_ ?_
 ·have m:∀l:LI',(l.map λn=>(V.int n,PyData.int n)).map (λp:V×PyData=>(fl p.2).headD 0)=l:=λl=>by
   rw[yI];exact(xR λn _=>rfl).trans (sQ l)
  have:=t.map (λp:V×PyData=>(fl p.2).headD 0);rw[m,m]at this;exact this
 ·have k:(j.map λn=>(V.int n,PyData.int n)).Pairwise (λp q=>lx (fl q.2) (fl p.2)=false):=L;rw[pZ]at k;refine k.imp λ{a b}h=>?_;simp only[fl,Ur,decide_eq_false_iff_not]at h;omega
end
def rInI(neg:Bool):R2:=λx y H Q=>∃a kvs i,x=.int i/\y=.ref a/\H a=some (.dK kvs)/\Q (.bl (if neg=true then !(vI kvs i).isSome else(vI kvs i).isSome)) H
theorem Uq{X:Cx}:OpR X (compareOp .NotIn) (rInI true):=by
 intro l s j H x y v u Q I c d h;obtain⟨a,kvs,i,rfl,rfl,e,q⟩:=h;cases d;obtain⟨b,rfl⟩:=(show∃b,v=Value.int i b from c);obtain⟨_,f,vs,r,dd⟩:=(show mB X.prog X.w H s.heap a (.dK kvs) from I.hok _ _ e);refine wpAny_notIn_of (Fm X.prog X.w i b) f dd.mapOf ?_;have k:=Jr r i;have g:(valueAt vs (Sum.inl i)).isSome=(vI kvs i).isSome:=by
  cases z1:vI kvs i <;> cases z2:valueAt vs (Sum.inl i) <;> rw[z1,z2]at k <;> first|rfl|exact k.elim
 rw[g];exact⟨.bl _,H,I.tok _,rfl,q⟩
section
variable {X:Cx}
def Uo:List V->Hp->VK->Prop:=λxs H Q=>∃n:Nat,xs=[.int n]/\n<=1000/\∀l,H l=none->Q (.ref l) (upd H l (.lst ((List.range n).map λ(i:Nat)=>V.int (i:Int))))
theorem Jo{a:Expr}{ta:TA}{w j G d:Pos}(N:X.calm=true)(Z:Gl X "list")(Y:X.mg "list"=none)(D:Gl X "range")(S:X.mg "range"=none)(P:PA X [a] ta)
  (y:bootBuiltins "list"=some (.type "list"):=by decide +kernel)(O:starEach [a] X.env=[(false,eval a X.env)]:=by rfl)
  (m:starEach [.Call (.Name "range" j) [a] [] d] X.env=[(false,eval (.Call (.Name "range" j) [a] [] d) X.env)]:=by rfl):
  PE X (.Call (.Name "list" w) [.Call (.Name "range" j) [a] [] d] [] G) (tCB Uo ta):=by
 intro z s T H Q I h;refine wT (gC I Z Y y ?_);refine wC ?_ (by rw[m];rfl) (by rfl);rw[m];show wpAny _ _ (spliced ((false,eval (.Call (.Name "range" j) [a] [] d) X.env):: [])) _ _ s;refine Calls.spliced_cons ?_;refine wT (gC I D S boot_range ?_);refine wC (thn (P d z s T H _ I h) ?_) (by rw[O];rfl) (by rfl);rintro us c ⟨vs,a1,l,M,K⟩;obtain⟨n,e,r,q⟩:=K;subst e;obtain⟨u,rfl,U⟩:=jF M;obtain⟨k,rfl⟩:=U;refine call_range_1 ?_;refine Calls.spliced_nil ?_;have k1:∀b o,c.heap.get? b=some o->(c.heap.push {cls:=.type "range",data:=.fields #[.int 0 c.toks,.int n k,.int 1 (c.toks+1)]}).get? b=some o:=λb o e=>zC _ e;refine call_list_range (n:=n) (l.ok.hd N) (IsRange.new ..) (small_one ∅ ∅ ⋯ ⋯) (by rw[rangeSize_one];split <;> omega) (yH r ∅) λh' tk p C J F R=>?_;have k2:∀b o,c.heap.get? b=some o->h'.get? b=some o:=λb o e=>J b o (k1 b o e);have t:c.heap.objs.size<=(c.heap.push {cls:=.type "range",data:=.fields #[.int 0 c.toks,.int n k,.int 1 (c.toks+1)]}).objs.size:=by simp[Heap.push]
 have a0:Vals ((List.range n).map λ(i:Nat)=>V.int (i:Int)) p.toList:=by
  obtain⟨v,W⟩:=R;have g:∀(xs:List V)(us:LW),xs.length=us.length->(∀(i:Nat)(x:V)(u:Value),xs[i]?=some x->us[i]?=some u->RelV x u)->Vals xs us:=by
   intro xs
   induction xs with
   |nil=>intro us hl _;cases us with
    |nil=>exact .nil
    |cons _ _=>cases hl
   |cons x xs L=>intro us hl hr;cases us with
    |nil=>cases hl
    |cons u us=>exact .cons (hr 0 x u rfl rfl) (L us (rO hl) λi x u e1 f=>hr (i+1) x u e1 f)
  refine g _ _ (by rw[yE,vO,zO,v]) λi x u e1 f=>?_;rw[yU]at f;obtain⟨k,rfl⟩:=W i u f;rw[zD]at e1;have hi:i<n:=by rw[←v];exact(Array.getElem?_eq_some_iff.mp f).1
  rw[yP hi]at e1;cases e1;exact⟨k,by rw[rC,uK]⟩
 exact⟨.ref _,_,l.laid (t':=tk) k2 t (show mB X.prog X.w _ h' _ (.lst _) from⟨by rw[yE,vO];exact yH r ∅,p.toList,C,a0,by rw[Array.toArray_toList];exact F⟩),rfl,q _ (l.hok.fresh t)⟩
end
end L2
namespace Cw
open PySem L2
abbrev pa':List Str:=["_law_rows","_law_tops","_law_parts","_law_steps","_law_spot"]
abbrev pb':List Str:=["_law_found","_law_members","_law_lesser"]
abbrev pc':List Str:=["_law_cell","_law_kind","_law_parts"]
abbrev pd':List Str:=["_law_cell","_law_base","_law_many"]
abbrev pe':List Str:=["_law_cells","_law_frame_here"]
abbrev pf':List Str:=["self","d","makers","most"]
abbrev pg':List Str:=["_law_part","_law_number"]
abbrev ph':List Str:=["_law_tops","_law_under"]
abbrev pi':List Str:=["_law_rows","_law_steps"]
abbrev pj':List Str:=["_law_tops","_law_steps"]
abbrev pk':List Str:=["_law_group","_law_part"]
abbrev pl':List Str:=["_law_one","_law_other"]
abbrev pm':List Str:=["_law_rows","_law_tops"]
abbrev pn':List Str:=["_law_script","_law_k"]
abbrev po':List Str:=["_law_one","_law_spot"]
abbrev pp':List Str:=["rows","tops","under"]
abbrev pq':List Str:=["group","way","most"]
abbrev pr':List Str:=["_law_cell","_law_d"]
abbrev pt':List Str:=["d","makers","most"]
abbrev pu':List Str:=["group","vectors"]
abbrev pv':List Str:=["count","vectors"]
abbrev pw':List Str:=["vectors","spot"]
abbrev px':List Str:=["rows","i","k"]
abbrev py':List Str:=["rows","count"]
abbrev pz':List Str:=["group","part"]
abbrev pA':List Str:=["table","spot"]
abbrev pB':List Str:=["one","other"]
abbrev pC':List Str:=["rows","spot"]
abbrev pD':List Str:=["_law_script"]
abbrev pE':List Str:=["self","one"]
abbrev pF':List Str:=["axes","one"]
abbrev pG':List Str:=["spot","one"]
abbrev pH':List Str:=["_law_found"]
abbrev pI':List Str:=["_law_kind"]
abbrev pJ':List Str:=["_law_spot"]
abbrev pK':List Str:=["rows"]
abbrev pL':List Str:=["self"]
abbrev pM':List Str:=["one"]
open PySem.W (nsIn keepIn codeIn findIn fnOf mg_of kitOne)
open PyProof.Rows (mulOk_of_bits)
theorem zqe{a b:Type}{l:List a}{f:a->b}:(l.map f).length=l.length:=yE ..
theorem zqa{b:Type}{l:List b}{i:Nat}{a:b}(h:l[i]?=some a):∃h:i<l.length,l[i]=a:=oF.mp h
theorem zqb{b:Type}{l:List b}{i:Nat}{a:b}(h:l[i]?=some a):a∈l:=yF h
theorem zqc{b:Type}{l:List b}{i:Nat}{a:b}:l.getD i a=l[i]?.getD a:=tD
theorem zqd{a:Type}{l:List a}{i:Nat}(h:i<l.length):l[i]?=some l[i]:=xQ h
open PySem.W (Frag)
abbrev LM:=List (LI')
def top(i:Nat):Stmt:=PySem.Challenge.pw_crystalwords_k65_shares.main.body.getD i (.Pass ⟨0,0,0,0⟩)
abbrev s_15:Stmt:=top 12
abbrev N_15:List Str:=["one","other","greater","lesser","remainder"]
abbrev s_17:Stmt:=top 13
abbrev N_17:List Str:=["numbers","least","number"]
abbrev s_11:Stmt:=top 15
abbrev N_11:List Str:=["tops","under","common","top"]
abbrev Am:Stmt:=top 16
abbrev N_w:List Str:=["one","under"]
abbrev s_12:Stmt:=top 17
abbrev N_12:List Str:=["one","other","tops"]
abbrev s_1b:Stmt:=top 18
abbrev N_1b:List Str:=pM'
abbrev s_10:Stmt:=top 19
abbrev N_10:List Str:=pB'
abbrev Al:Stmt:=top 21
abbrev N_i:List Str:=["size"]
abbrev s_1v:Stmt:=top 22
abbrev N_1v:List Str:=pB'
abbrev s_1g:Stmt:=top 23
abbrev N_1g:List Str:=pK'
abbrev s_1o:Stmt:=top 24
abbrev N_1o:List Str:=["one","other","columns"]
abbrev s_1e:Stmt:=top 25
abbrev N_1e:List Str:=px'
abbrev s_2:Stmt:=top 26
abbrev N_2:List Str:=["rows","total","sign","k","number"]
abbrev s_16:Stmt:=top 27
abbrev N_16:List Str:=["rows","i","k","sign"]
abbrev s_1h:Stmt:=top 28
abbrev N_1h:List Str:=["rows","size"]
abbrev s_1l:Stmt:=top 29
abbrev N_1l:List Str:=py'
abbrev s_1c:Stmt:=top 31
abbrev N_1c:List Str:=pC'
abbrev s_1r:Stmt:=top 32
abbrev N_1r:List Str:=["rows","tops","under","axes"]
abbrev s_1s:Stmt:=top 33
abbrev N_1s:List Str:=["d"]
abbrev s_1x:Stmt:=top 34
abbrev N_1x:List Str:=pM'
abbrev s_1m:Stmt:=top 35
abbrev N_1m:List Str:=["one","spot","tops"]
abbrev s_1i:Stmt:=top 36
abbrev N_1i:List Str:=["one","other","columns","rows"]
abbrev s_1t:Stmt:=top 37
abbrev N_1t:List Str:=pM'
abbrev Dj:Stmt:=top 40
abbrev N_t:List Str:=["most"]
abbrev Di:Stmt:=top 41
abbrev N_z:List Str:=["d","makers","maker"]
abbrev s_1f:Stmt:=top 42
abbrev N_1f:List Str:=["d","makers","most","steps","found","words","at","number","step","reached"]
abbrev s_0:Stmt:=dZ (top 43) 0
abbrev N_0:List Str:=["self","d","makers","most","words"]
abbrev s_6:Stmt:=dZ (top 43) 1
abbrev N_6:List Str:=pL'
abbrev Dh:Stmt:=dZ (top 43) 2
abbrev N_e:List Str:=pL'
abbrev s_1:Stmt:=dZ (top 43) 3
abbrev N_1:List Str:=pL'
abbrev Dg:Stmt:=dZ (top 43) 5
abbrev N_f:List Str:=pE'
abbrev s_18:Stmt:=top 44
abbrev N_18:List Str:=["d","deeds","group","one"]
abbrev Df:Stmt:=top 46
abbrev N_a:List Str:=pB'
abbrev s_1p:Stmt:=top 47
abbrev N_1p:List Str:=["one","other","number","member"]
abbrev De:Stmt:=top 48
abbrev N_j:List Str:=pz'
abbrev Ak:Stmt:=top 49
abbrev N_u:List Str:=["group","part","lists","shared","number","member","together","other"]
abbrev s_1j:Stmt:=top 51
abbrev N_1j:List Str:=["vectors","spot","axes"]
abbrev Dc:Stmt:=top 52
abbrev N_c:List Str:=pF'
abbrev s_1k:Stmt:=top 53
abbrev N_1k:List Str:=["one","under","columns"]
abbrev s_1w:Stmt:=top 54
abbrev N_1w:List Str:=["one","table"]
abbrev s_20:Stmt:=top 55
abbrev N_20:List Str:=pA'
abbrev s_14:Stmt:=top 56
abbrev N_14:List Str:=pG'
abbrev cR:Stmt:=top 57
abbrev N_x:List Str:=["one","way","old","new","rows","under","whole"]
abbrev Db:Stmt:=top 59
abbrev N_r:List Str:=["group","vectors","vector"]
abbrev s_1n:Stmt:=top 60
abbrev N_1n:List Str:=["count","vectors","top","under","vector"]
abbrev s_8:Stmt:=top 61
abbrev N_8:List Str:=["group","way","most","deeds","units"]
abbrev Da:Stmt:=top 63
abbrev N_d:List Str:=pn'
abbrev s_13:Stmt:=top 64
abbrev N_13:List Str:=pH'
abbrev Ez:Stmt:=top 65
abbrev N_n:List Str:=["_law_cell","_law_base","_law_many","_law_some","_law_k"]
abbrev Ey:Stmt:=top 66
abbrev N_y:List Str:=pg'
abbrev Aj:Stmt:=top 67
abbrev N_s:List Str:=["_law_tops","_law_under","_law_by","_law_top"]
abbrev cS:Stmt:=top 68
abbrev N_q:List Str:=pI'
abbrev s_9:Stmt:=top 69
abbrev N_9:List Str:=pl'
abbrev s_1d:Stmt:=top 70
abbrev N_1d:List Str:=pm'
abbrev Ai:Stmt:=top 71
abbrev N_v:List Str:=["_law_cell","_law_kind","_law_parts","_law_generators","_law_many","_law_rows","_law_k"]
abbrev s_19:Stmt:=top 72
abbrev N_19:List Str:=["_law_cell","_law_d","_law_i"]
abbrev s_5:Stmt:=top 73
abbrev N_5:List Str:=["_law_rows","_law_steps","_law_i","_law_j","_law_many"]
abbrev Ex:Stmt:=top 74
abbrev N_b:List Str:=["_law_tops","_law_steps","_law_i","_law_j","_law_many"]
abbrev s_7:Stmt:=top 75
abbrev N_7:List Str:=["_law_rows","_law_tops","_law_parts","_law_steps","_law_spot","_law_far","_law_under"]
abbrev cT:Stmt:=top 76
abbrev N_o:List Str:=["_law_script","_law_cell","_law_kind","_law_generators","_law_most","_law_d","_law_parts","_law_steps","_law_spot"]
abbrev Ew:Stmt:=top 77
abbrev N_h:List Str:=["_law_cells","_law_frame_here","_law_kind","_law_parts","_law_steps","_law_spot","_law_made","_law_cell","_law_rows","_law_tops"]
abbrev Ah:Stmt:=top 78
abbrev N_k:List Str:=["_law_one","_law_spot","_law_far","_law_tops"]
abbrev s_1a:Stmt:=top 79
abbrev N_1a:List Str:=pJ'
abbrev Ag:Stmt:=top 80
abbrev N_p:List Str:=["_law_one","_law_other","_law_rows","_law_tops","_law_under"]
abbrev Ev:Stmt:=top 81
abbrev N_m:List Str:=["_law_one","_law_tops","_law_under"]
abbrev Af:Stmt:=top 82
abbrev N_g:List Str:=["_law_found","_law_row"]
abbrev s_4:Stmt:=top 83
abbrev N_4:List Str:=["_law_found","_law_members","_law_lesser","_law_seen","_law_row","_law_last","_law_due"]
abbrev Eu:Stmt:=top 84
abbrev N_l:List Str:=["_law_group","_law_part","_law_refused_here"]
abbrev s_1u:Stmt:=top 85
abbrev N_1u:List Str:=["_law_script","_law_frame_here","_law_d","_law_makers_here","_law_group","_law_members","_law_part","_law_lesser","_law_found","_law_cells","_law_aside","_law_units","_law_anew"]
local macro_rules | `(tactic| walk_at "s")=>`(tactic| exact ⟨rfl,rfl,rfl,by decide +kernel,rfl,by decide +kernel,by decide +kernel⟩)
local macro_rules | `(tactic| walk_at "v")=>`(tactic| (intro _ _ _ _ h; first | (obtain ⟨_,hh,_⟩:=h; subst hh; rfl) | (obtain ⟨_,_,hh,_⟩:=h; subst hh; rfl) | (obtain ⟨_,_,_,hh,_⟩:=h; subst hh; rfl) | (obtain ⟨_,_,_,_,hh,_⟩:=h; subst hh; rfl) | (obtain ⟨_,_,_,_,_,hh,_⟩:=h; subst hh; rfl) | (obtain ⟨_,_,_,_,_,_,hh,_⟩:=h; subst hh; rfl) | (obtain ⟨_,_,_,_,_,_,_,hh,_⟩:=h; subst hh; rfl) | (obtain ⟨_,_,_,_,_,_,_,_,hh,_⟩:=h; subst hh; rfl) | (obtain ⟨_,_,_,_,_,_,_,_,_,hh,_⟩:=h; subst hh; rfl) | (obtain ⟨_,_,_,_,_,_,_,_,_,_,_,_,hh,_⟩:=h; subst hh; rfl)))
theorem sc_15:nB N_15 pB' (oO s_15):=by walk_at "s"
theorem sc_17:nB N_17 ["numbers"] (oO s_17):=by walk_at "s"
theorem sc_11:nB N_11 ["tops","under"] (oO s_11):=by walk_at "s"
theorem sc_w:nB N_w pM' (oO Am):=by walk_at "s"
theorem sc_12:nB N_12 pB' (oO s_12):=by walk_at "s"
theorem sc_1b:nB N_1b pM' (oO s_1b):=by walk_at "s"
theorem sc_10:nB N_10 pB' (oO s_10):=by walk_at "s"
theorem sc_i:nB N_i ["size"] (oO Al):=by walk_at "s"
theorem sc_1v:nB N_1v pB' (oO s_1v):=by walk_at "s"
theorem sc_1g:nB N_1g pK' (oO s_1g):=by walk_at "s"
theorem sc_1o:nB N_1o pB' (oO s_1o):=by walk_at "s"
theorem sc_1e:nB N_1e px' (oO s_1e):=by walk_at "s"
theorem sc_2:nB N_2 pK' (oO s_2):=by walk_at "s"
theorem sc_16:nB N_16 px' (oO s_16):=by walk_at "s"
theorem sc_1h:nB N_1h pK' (oO s_1h):=by walk_at "s"
theorem sc_1l:nB N_1l py' (oO s_1l):=by walk_at "s"
theorem sc_1c:nB N_1c pC' (oO s_1c):=by walk_at "s"
theorem sc_1r:nB N_1r pp' (oO s_1r):=by walk_at "s"
theorem sc_1s:nB N_1s ["d"] (oO s_1s):=by walk_at "s"
theorem sc_1x:nB N_1x pM' (oO s_1x):=by walk_at "s"
theorem sc_1m:nB N_1m ["one","spot"] (oO s_1m):=by walk_at "s"
theorem sc_1i:nB N_1i pB' (oO s_1i):=by walk_at "s"
theorem sc_1t:nB N_1t pM' (oO s_1t):=by walk_at "s"
theorem sc_t:nB N_t ["most"] (oO Dj):=by walk_at "s"
theorem sc_z:nB N_z ["d","makers"] (oO Di):=by walk_at "s"
theorem sc_1f:nB N_1f pt' (oO s_1f):=by walk_at "s"
theorem sc_0:nB N_0 pf' (oO s_0):=by walk_at "s"
theorem sc_6:nB N_6 pL' (oO s_6):=by walk_at "s"
theorem sc_e:nB N_e pL' (oO Dh):=by walk_at "s"
theorem sc_1:nB N_1 pL' (oO s_1):=by walk_at "s"
theorem sc_f:nB N_f pE' (oO Dg):=by walk_at "s"
theorem sc_18:nB N_18 ["d","deeds"] (oO s_18):=by walk_at "s"
theorem sc_a:nB N_a pB' (oO Df):=by walk_at "s"
theorem sc_1p:nB N_1p pB' (oO s_1p):=by walk_at "s"
theorem sc_j:nB N_j pz' (oO De):=by walk_at "s"
theorem sc_u:nB N_u pz' (oO Ak):=by walk_at "s"
theorem sc_1j:nB N_1j pw' (oO s_1j):=by walk_at "s"
theorem sc_c:nB N_c pF' (oO Dc):=by walk_at "s"
theorem sc_1k:nB N_1k pM' (oO s_1k):=by walk_at "s"
theorem sc_1w:nB N_1w pM' (oO s_1w):=by walk_at "s"
theorem sc_20:nB N_20 pA' (oO s_20):=by walk_at "s"
theorem sc_14:nB N_14 pG' (oO s_14):=by walk_at "s"
theorem sc_x:nB N_x ["one","way"] (oO cR):=by walk_at "s"
theorem sc_r:nB N_r pu' (oO Db):=by walk_at "s"
theorem sc_1n:nB N_1n pv' (oO s_1n):=by walk_at "s"
theorem sc_8:nB N_8 pq' (oO s_8):=by walk_at "s"
theorem sc_d:nB N_d pn' (oO Da):=by walk_at "s"
theorem sc_13:nB N_13 pH' (oO s_13):=by walk_at "s"
theorem sc_n:nB N_n pd' (oO Ez):=by walk_at "s"
theorem sc_y:nB N_y pg' (oO Ey):=by walk_at "s"
theorem sc_s:nB N_s ph' (oO Aj):=by walk_at "s"
theorem sc_q:nB N_q pI' (oO cS):=by walk_at "s"
theorem sc_9:nB N_9 pl' (oO s_9):=by walk_at "s"
theorem sc_1d:nB N_1d pm' (oO s_1d):=by walk_at "s"
theorem sc_v:nB N_v pc' (oO Ai):=by walk_at "s"
theorem sc_19:nB N_19 pr' (oO s_19):=by walk_at "s"
theorem sc_5:nB N_5 pi' (oO s_5):=by walk_at "s"
theorem sc_b:nB N_b pj' (oO Ex):=by walk_at "s"
theorem sc_7:nB N_7 pa' (oO s_7):=by walk_at "s"
theorem sc_o:nB N_o pD' (oO cT):=by walk_at "s"
theorem sc_h:nB N_h pe' (oO Ew):=by walk_at "s"
theorem sc_k:nB N_k po' (oO Ah):=by walk_at "s"
theorem sc_1a:nB N_1a pJ' (oO s_1a):=by walk_at "s"
theorem sc_p:nB N_p pl' (oO Ag):=by walk_at "s"
theorem sc_m:nB N_m ["_law_one"] (oO Ev):=by walk_at "s"
theorem sc_g:nB N_g pH' (oO Af):=by walk_at "s"
theorem sc_4:nB N_4 pb' (oO s_4):=by walk_at "s"
theorem sc_l:nB N_l pk' (oO Eu):=by walk_at "s"
theorem sc_1u:nB N_1u pD' (oO s_1u):=by walk_at "s"
set_option genInjectivity false in
structure Adr where
 (a_15 a_17 a_11 a_w a_12 a_1b a_10 a_i a_1v a_1g a_1o a_1e a_2 a_16 a_1h a_1l a_1c a_1r a_1s a_1x a_1m a_1i a_1t a_t a_z a_1f a_0 a_6 a_e a_1 a_f a_18 a_a a_1p a_j a_u a_1j a_c a_1k a_1w a_20 a_14 a_x a_r a_1n a_8 a_d a_13 a_n a_y a_s a_q a_9 a_1d a_v a_19 a_5 a_b a_7 a_o a_h a_k a_1a a_p a_m a_g a_4 a_l a_1u:Addr)
 (d_15 d_17 d_11 d_w d_12 d_1b d_10 d_i d_1v d_1g d_1o d_1e d_2 d_16 d_1h d_1l d_1c d_1r d_1s d_1x d_1m d_1i d_1t d_t d_z d_1f d_0 d_6 d_e d_1 d_f d_18 d_a d_1p d_j d_u d_1j d_c d_1k d_1w d_20 d_14 d_x d_r d_1n d_8 d_d d_13 d_n d_y d_s d_q d_9 d_1d d_v d_19 d_5 d_b d_7 d_o d_h d_k d_1a d_p d_m d_g d_4 d_l d_1u:FuncData)
 a_21:Addr
 a_1y:Addr
 a_1z:Addr
 a_25:Addr
 a_22:Addr
 a_3:Addr
 a_24:Addr
 a_23:Addr
 a_1q:Addr
 k_0:Tok
 k_8:Tok
structure Txt(K:Frag)(mg:MT)(t:Adr):Prop where
 F_15:FunT K mg "divisor" s_15 t.a_15 t.d_15 pB'
 F_17:FunT K mg "multiple" s_17 t.a_17 t.d_17 ["numbers"]
 F_11:FunT K mg "place" s_11 t.a_11 t.d_11 ["tops","under"]
 F_w:FunT K mg "rest_place" Am t.a_w t.d_w pM'
 F_12:FunT K mg "place_sum" s_12 t.a_12 t.d_12 pB'
 F_1b:FunT K mg "opposite" s_1b t.a_1b t.d_1b pM'
 F_10:FunT K mg "place_less" s_10 t.a_10 t.d_10 pB'
 F_i:FunT K mg "still_rows" Al t.a_i t.d_i ["size"]
 F_1v:FunT K mg "dot" s_1v t.a_1v t.d_1v pB'
 F_1g:FunT K mg "turned" s_1g t.a_1g t.d_1g pK'
 F_1o:FunT K mg "times" s_1o t.a_1o t.d_1o pB'
 F_1e:FunT K mg "without" s_1e t.a_1e t.d_1e px'
 F_2:FunT K mg "determinant" s_2 t.a_2 t.d_2 pK'
 F_16:FunT K mg "cofactor" s_16 t.a_16 t.d_16 px'
 F_1h:FunT K mg "crossed" s_1h t.a_1h t.d_1h pK'
 F_1l:FunT K mg "scaled" s_1l t.a_1l t.d_1l py'
 F_1c:FunT K mg "joined" s_1c t.a_1c t.d_1c pC'
 F_1r:FunT K mg "deed" s_1r t.a_1r t.d_1r pp'
 F_1s:FunT K mg "still" s_1s t.a_1s t.d_1s ["d"]
 F_1x:FunT K mg "move" s_1x t.a_1x t.d_1x pM'
 F_1m:FunT K mg "moved" s_1m t.a_1m t.d_1m ["one","spot"]
 F_1i:FunT K mg "behind" s_1i t.a_1i t.d_1i pB'
 F_1t:FunT K mg "rest" s_1t t.a_1t t.d_1t pM'
 F_t:FunT K mg "check_most" Dj t.a_t t.d_t ["most"]
 F_z:FunT K mg "check_axes" Di t.a_z t.d_z ["d","makers"]
 F_1f:FunT K mg "closed" s_1f t.a_1f t.d_1f pt'
 F_0:FunD K "__init__" "Group.__init__" s_0 t.a_0 t.d_0 [.int 200 t.k_0]
 bd_Group___init__:lB K t.d_0 pf' [.int 200 t.k_0]
 b_0:lB K t.d_0 pf' []
 F_6:Fun K "axes" "Group.axes" s_6 t.a_6 t.d_6
 b_6:lB K t.d_6 pL' []
 F_e:Fun K "makers" "Group.makers" Dh t.a_e t.d_e
 b_e:lB K t.d_e pL' []
 F_1:Fun K "members" "Group.members" s_1 t.a_1 t.d_1
 b_1:lB K t.d_1 pL' []
 F_f:Fun K "at" "Group.at" Dg t.a_f t.d_f
 b_f:lB K t.d_f pE' []
 F_18:FunT K mg "group_of" s_18 t.a_18 t.d_18 ["d","deeds"]
 F_a:FunT K mg "check_alike_axes" Df t.a_a t.d_a pB'
 F_1p:FunT K mg "lacks" s_1p t.a_1p t.d_1p pB'
 F_j:FunT K mg "check_within" De t.a_j t.d_j pz'
 F_u:FunT K mg "shares" Ak t.a_u t.d_u pz'
 F_1j:FunT K mg "change" s_1j t.a_1j t.d_1j pw'
 F_c:FunT K mg "check_beside" Dc t.a_c t.d_c pF'
 F_1k:FunT K mg "forth" s_1k t.a_1k t.d_1k pM'
 F_1w:FunT K mg "home" s_1w t.a_1w t.d_1w pM'
 F_20:FunT K mg "led" s_20 t.a_20 t.d_20 pA'
 F_14:FunT K mg "new_place" s_14 t.a_14 t.d_14 pG'
 F_x:FunT K mg "new_deed" cR t.a_x t.d_x ["one","way"]
 F_r:FunT K mg "check_moves" Db t.a_r t.d_r pu'
 F_1n:FunT K mg "grown" s_1n t.a_1n t.d_1n pv'
 F_8:FunD K "changed" "changed" s_8 t.a_8 t.d_8 [.int 200 t.k_8]
 bd_changed:lB K t.d_8 pq' [.int 200 t.k_8]
 m_8:mg "changed"=some (.ref t.a_8)
 b_8:lB K t.d_8 pq' []
 F_d:FunT K mg "_law_cell_at" Da t.a_d t.d_d pn'
 F_13:FunT K mg "_law_whole" s_13 t.a_13 t.d_13 pH'
 F_n:FunT K mg "_law_digits" Ez t.a_n t.d_n pd'
 F_y:FunT K mg "_law_shared" Ey t.a_y t.d_y pg'
 F_s:FunT K mg "_law_place" Aj t.a_s t.d_s ph'
 F_q:FunT K mg "_law_family" cS t.a_q t.d_q pI'
 F_9:FunT K mg "_law_rows_times" s_9 t.a_9 t.d_9 pl'
 F_1d:FunT K mg "_law_led" s_1d t.a_1d t.d_1d pm'
 F_v:FunT K mg "_law_maker" Ai t.a_v t.d_v pc'
 F_19:FunT K mg "_law_step" s_19 t.a_19 t.d_19 pr'
 F_5:FunT K mg "_law_rows_there" s_5 t.a_5 t.d_5 pi'
 F_b:FunT K mg "_law_tops_there" Ex t.a_b t.d_b pj'
 F_7:FunT K mg "_law_deed_there" s_7 t.a_7 t.d_7 pa'
 F_o:FunT K mg "_law_frame" cT t.a_o t.d_o pD'
 F_h:FunT K mg "_law_makers" Ew t.a_h t.d_h pe'
 F_k:FunT K mg "_law_reached" Ah t.a_k t.d_k po'
 F_1a:FunT K mg "_law_rest" s_1a t.a_1a t.d_1a pJ'
 F_p:FunT K mg "_law_behind" Ag t.a_p t.d_p pl'
 F_m:FunT K mg "_law_rest_of" Ev t.a_m t.d_m ["_law_one"]
 F_g:FunT K mg "_law_is_lists" Af t.a_g t.d_g pH'
 F_4:FunT K mg "_law_shared_out" s_4 t.a_4 t.d_4 pb'
 F_l:FunT K mg "_law_refused" Eu t.a_l t.d_l pk'
 F_1u:FunT K mg "law" s_1u t.a_1u t.d_1u pD'
 z_any:mg "any"=none
 z_sum:mg "sum"=none
 z_zip:mg "zip"=none
 z_enumerate:mg "enumerate"=none
 z_range:mg "range"=none
 z_len:mg "len"=none
 z_abs:mg "abs"=none
 z_isinstance:mg "isinstance"=none
 z_int:mg "int"=none
 z_bool:mg "bool"=none
 z_list:mg "list"=none
 z_tuple:mg "tuple"=none
 z_sorted:mg "sorted"=none
 z_dict:mg "dict"=none
 m_21:mg "CrystalError"=some (.ref t.a_21)
 m_1y:mg "NoPlace"=some (.ref t.a_1y)
 m_1z:mg "NoDeed"=some (.ref t.a_1z)
 m_25:mg "TooMany"=some (.ref t.a_25)
 m_22:mg "NoNumber"=some (.ref t.a_22)
 m_3:mg "Group"=some (.ref t.a_3)
 m_24:mg "NotKept"=some (.ref t.a_24)
 m_23:mg "NoChange"=some (.ref t.a_23)
 m_1q:mg "NotWithin"=some (.ref t.a_1q)
 g_MOST_MEMBERS:∃u,mg "MOST_MEMBERS"=some u/\RelV (.int 200) u
 h_f:kitOne K (.type "int") (.type "int")=some true
 h_g:kitOne K (.type "int") (.type "bool")=some false
 h_h:kitOne K (.type "tuple") (.type "tuple")=some true
 h_i:kitOne K (.type "list") (.type "list")=some true
 x_1y:PySem.W.excIn K t.a_1y [.type "ValueError",.type "Exception",.type "BaseException",.type "object"] "ValueError.__new__"=true
 x_1z:PySem.W.excIn K t.a_1z [.type "ValueError",.type "Exception",.type "BaseException",.type "object"] "ValueError.__new__"=true
 cl_3:L2.Cls K t.a_3
 mk_3:L2.Mk K t.a_3 t.a_0
 me_1:L2.Meth K t.a_3 "members" t.a_1
 h_3:findIn K (.ref t.a_3) "dimension"=some none
 h_e:findIn K (.ref t.a_3) "given"=some none
 h_8:findIn K (.ref t.a_3) "ordered"=some none
 h_4:findIn K (.ref t.a_3) "shortest"=some none
 h_9:findIn K (.ref t.a_3) "numbers"=some none
 me_6:L2.Meth K t.a_3 "axes" t.a_6
 me_e:L2.Meth K t.a_3 "makers" t.a_e
 me_f:L2.Meth K t.a_3 "at" t.a_f
 x_1q:PySem.W.excIn K t.a_1q [.type "ValueError",.type "Exception",.type "BaseException",.type "object"] "ValueError.__new__"=true
 h_7:PySem.W.exmOne K (.ref t.a_1q) (.ref t.a_1q)=some true
 bl:∀(s:Shared)(u:Value),BindsTo s t.d_1u ⟨[u],[]⟩ [("_law_script",u)]
local macro_rules | `(tactic| walk_at "r")=>`(tactic| simp only [tSeq,tAsg,oU,tVar,qVar,tC,tOp,s_V,t_F,t_G,tUn,fD,tB,tIfS,tIf,tAnd,tOr,tNot,Nt,tOrV,Nr,tRet,t_B,Fg,Np,mC,Pi,oV,tNil,tCB,tTup,tLst,tPar,Ge,tBM,tBM0,tSl,Bd,Be,List.getElem?_cons_zero,List.getElem?_cons_succ,Option.some.injEq,exists_eq_left',exists_eq_left,List.set_cons_zero,List.set_cons_succ,List.cons.injEq,V.int.injEq,V.bl.injEq,V.ref.injEq,and_true,true_and,List.append_nil,ne_eq,exists_and_left,and_assoc,↓reduceIte,Bool.not_true,Bool.not_false,Bool.false_eq_true])
set_option hygiene false in
local macro_rules | `(tactic|apply $e:term)=>`(tactic|refine $e (by walk_at "v") (λcdv A outer s H vs Q E hr h=>?_))
set_option hygiene false in
local macro_rules | `(tactic|left)=>`(tactic|(subst e1;refine st λN1 e1=>?_;ext))
set_option hygiene false in
local macro_rules | `(tactic|right)=>`(tactic|(refine st λN1 e1=>?_;ext))
set_option hygiene false in
local macro_rules | `(tactic|symm)=>`(tactic|(subst e1;ext))
set_option hygiene false in
local macro_rules | `(tactic|exfalso)=>`(tactic|(refine nF λB eB=>?_;simp only[iSeq];ext))
def gcdI(a b:Int):Int:=(Int.gcd a b:Int)
def absI(u:Int):Int:=if u<0 then -u else u
def gl(u:Int)(ns:LI'):Int:=ns.foldl gcdI (absI u)
theorem Um(u:Int):0<=absI u:=by unfold absI;split <;> omega
theorem Ul{d u:Int}:d∣absI u↔d∣u:=by
 unfold absI;split
 ·exact oB
 ·exact Iff.rfl
theorem Jn{d:Int}:∀(ns:LI')(c:Int),d∣ns.foldl gcdI c↔d∣c/\∀g∈ns,d∣g
 |[],c=>by simp
 | g:: r,c=>by
  rw[wL,Jn r];unfold gcdI;rw[Int.dvd_coe_gcd_iff];constructor
  ·rintro⟨⟨b,a⟩,i⟩;refine⟨b,λx f=>?_⟩;rcases xE.mp f with e|e
   ·rw[e];exact a
   ·exact i x e
  ·rintro⟨b,a⟩;exact⟨⟨b,a g zU⟩,λx f=>a x (zM _ f)⟩
theorem gM{d u:Int}{ns:LI'}:d∣gl u ns↔d∣u/\∀t∈ns,d∣t:=by
 unfold gl;rw[Jn,Ul]
theorem Jm:∀(ns:LI')(c:Int),0<=c->0<=ns.foldl gcdI c
 |[],_,h=>h
 |t:: r,c,_=>Jm r _ (Int.natCast_nonneg _)
theorem dA(u:Int)(ns:LI'):0<=gl u ns:=Jm ns _ (Um u)
theorem gl_u(u:Int)(ns:LI'):gl u ns∣u:=(gM.mp (uA _)).1
theorem cU{u t:Int}{ns:LI'}(h:t∈ns):gl u ns∣t:=(gM.mp (uA _)).2 t h
theorem Ae{u:Int}(ns:LI')(h:u≠0):0<gl u ns:=by
 have:=dA u ns;rcases Int.lt_or_eq_of_le this with q|q
 ·exact q
 ·obtain⟨k,e⟩:=gl_u u ns;rw[←q,wW]at e;exact absurd e h
theorem Jl{u v:Int}{ns ms:LI'}(h:∀d:Int,(d∣u/\∀t∈ns,d∣t)↔(d∣v/\∀t∈ms,d∣t)):gl u ns=gl v ms:=
 Int.dvd_antisymm (dA _ _) (dA _ _) (gM.mpr ((h _).mp (gM.mp (uA _)))) (gM.mpr ((h _).mpr (gM.mp (uA _))))
theorem Uk(u:Int)(ns:LI')(t:Int):gl u (ns++[t])=gcdI (gl u ns) t:=by unfold gl;rw[uL];rfl
def cs(u:Int)(ns:LI'):Int:=if u<0 then -(gl u ns) else gl u ns
theorem dB{u:Int}(ns:LI')(h:u≠0):cs u ns≠0:=by
 have:=Ae ns h;unfold cs;split <;> omega
theorem jW{u x:Int}{ns:LI'}(h:gl u ns∣x):cs u ns∣x:=by
 unfold cs;split
 ·exact Int.neg_dvd.mpr h
 ·exact h
theorem iM{c x:Int}(a:c≠0)(h:c∣x):x.fdiv c*c=x:=by
 obtain⟨k,e⟩:=h;subst e;rw[uB c k,Int.mul_fdiv_cancel _ a]
theorem cV{u:Int}(ns:LI')(h:u≠0):0<u.fdiv (cs u ns):=by
 have e:=iM (dB ns h) (jW (gl_u u ns));have g:=Ae ns h;rcases Int.lt_trichotomy (u.fdiv (cs u ns)) 0 with q|q|q
 ·refine False.elim ?_;unfold cs at e q;split at e
  ·rename_i a;rw[zG a]at q;have:=Int.mul_nonneg_of_nonpos_of_nonpos (uU q) (show -(gl u ns)<=0 by omega);omega
  ·rename_i a;rw[zF a]at q;have:=Int.mul_neg_of_neg_of_pos q g;omega
 ·rw[q,wW]at e;exact absurd e.symm h
 ·exact q
theorem Uj{u:Int}{ns:LI'}(h:u≠0):gl (u.fdiv (cs u ns)) (ns.map λa=>a.fdiv (cs u ns))=1:=by
 have e:=dB ns h;have e1:=iM e (jW (gl_u u ns));have n:=dA (u.fdiv (cs u ns)) (ns.map λa=>a.fdiv (cs u ns));have d:=gM.mp (uA (gl (u.fdiv (cs u ns)) (ns.map λa=>a.fdiv (cs u ns))));generalize gl (u.fdiv (cs u ns)) (ns.map λa=>a.fdiv (cs u ns))=g at*
 have b:g*cs u ns∣gl u ns:=by
  refine gM.mpr ⟨?_,λa f=>?_⟩
  ·have:=qQ d.1 (uA (cs u ns));rw[e1]at this;exact this
  ·have:=qQ (d.2 _ (pS.mpr ⟨a,f,rfl⟩)) (uA (cs u ns));rw[iM e (jW (cU (u:=u) f))]at this;exact this
 have i:g*cs u ns∣1*cs u ns:=by
  rw[tI];unfold cs at b ⊢;split at b
  ·rename_i c;rw[zG c];exact oB.mpr b
  ·rename_i c;rw[zF c];exact b
 have:g∣1:=Int.dvd_of_mul_dvd_mul_right e i;have:=Int.le_of_dvd ∅ this;rcases(show g=0\/g=1 by omega) with q|q
 ·subst q;have z:=d.1;rw[Int.zero_dvd]at z;rw[z,wW]at e1;exact absurd e1.symm h
 ·exact q
theorem Jk{u:Int}{ns:LI'}(h:0<u)(g:gl u ns=1):cs u ns=1:=by
 unfold cs;rw[zF ⋯,g]
theorem Ui{u:Int}{ns:LI'}(h:0<u)(g:gl u ns=1):(ns.map λt=>t.fdiv (cs u ns))=ns/\u.fdiv (cs u ns)=u:=by
 rw[Jk h g];refine⟨?_,tU u⟩;rw[show(λt:Int=>t.fdiv 1)=id from funext λt=>tU t,sQ]
theorem Jj{d u t:Int}(h:d∣u):d∣t.fmod u↔d∣t:=by
 rw[Int.fmod_def];have q:d∣u*t.fdiv u:=Int.dvd_mul_of_dvd_left h;constructor
 ·intro z;have:=pL z q
  rwa[Int.sub_add_cancel]at this
 ·intro z;exact pM z q
theorem Uh(u:Int)(ns:LI'):gl u (ns.map λb=>b.fmod u)=gl u ns:=by
 refine Jl λd=>?_;constructor
 ·rintro⟨a,c⟩;exact⟨a,λb f=>(Jj a).mp (c _ (pS.mpr ⟨b,f,rfl⟩))⟩
 ·rintro⟨a,c⟩;refine⟨a,λx g=>?_⟩;obtain⟨b,f,e⟩:=pS.mp g;subst e;exact(Jj a).mpr (c b f)
theorem Ug{u:Int}(b:0<u)(a:Int):(a.fmod u-a).fmod u=0:=by
 rw[xV a (uU b),xV _ (uU b)];exact Int.emod_eq_zero_of_dvd (by
  have:=Int.emod_add_mul_ediv a u;exact⟨-(a/u),by rw[Int.mul_neg];omega⟩)
theorem Ji(g l:Int):Int.gcd l (Int.fmod g l)=Int.gcd g l:=by
 rw[Int.fmod_def,Int.gcd_sub_mul_left_right,pI]
theorem Uf(a b:Int):Int.gcd (if a<0 then -a else a) (if b<0 then -b else b)=Int.gcd a b:=by
 split <;> split <;> simp
theorem Jh(a:Int):0<=(if a<0 then -a else a):=by split <;> omega
theorem Ue{g l a b:Int}(h:Int.gcd g l=Int.gcd a b)(c:0<=g)(z:l=0):g=gcdI a b:=by
 rw[z,Int.gcd_zero_right]at h;unfold gcdI;rw[←h];omega
def Jg:Sp:=λvs H Q _=>∃a b,vs=[.int a,.int b]/\Q (.int (gcdI a b)) H
abbrev sp_15:Sp:=Jg
def nP(H:Hp)(p:Addr)(ns:LI')(u:Int):Prop:=∃q,H p=some (.tup [.ref q,.int u])/\H q=some (.tup (ns.map V.int))
theorem nP.up{H H':Hp}{p:Addr}{ns:LI'}{u:Int}(h:nP H p ns u)(s:Same H H'):nP H' p ns u:=let ⟨q,a,b⟩:=h;⟨q,s _ _ a,s _ _ b⟩
def jB(n:Int):Prop:=n.natAbs<2^8990
theorem Jf{c:Int}(h:jB c)(z:c≠0):c.natAbs.log2<9000:=zI ((qU ⋯).mpr h) ∅
theorem Je{c u:Int}(h:jB u)(z:u≠0)(d:c∣u):jB c:=by
 have:=Int.natAbs_dvd_natAbs.mpr d;have:=Nat.le_of_dvd ⋯ this;unfold jB at*
 omega
def redT(u:Int)(ns:LI'):LI':=ns.map λt=>t.fdiv (cs u ns)
def redU(u:Int)(ns:LI'):Int:=u.fdiv (cs u ns)
def mJ(u:Int)(ns:LI'):LI':=ns.map λt=>t.fmod u
def sp_11(K:Frag)(C:Addr):Sp:=λvs H Q E=>E4 λ(b:Bool)(a:Addr)(ns:LI')(u:Int)=>A6 (vs=[.ref a,.int u]) (SqB b K H a (ns.map V.int)) (ns.length<=100) (jB u) (((u=0\/ns=[])->E (.ref C) none H)) ((u≠0->ns≠[]->∀p H',Same H H'->nP H' p (redT u ns) (redU u ns)->Q (.ref p) H'))
theorem Jd{a:Type}{ns:List a}{i:Nat}{n:a}(h:ns[i]?=some n):ns.take (i+1)=ns.take i++[n]:=by
 rw[wY,h];rfl
def sp_1v(K:Frag):Sp:=λvs H Q _=>E6 λ(b1 b2:Bool)(p q:Addr)(ms ns:LI')=>A7 (vs=[.ref p,.ref q]) (SqB b1 K H p (ms.map V.int)) (SqB b2 K H q (ns.map V.int)) (ms.length=ns.length) (ms.length<=1000) ((∀(i:Nat) m n,ms[i]?=some m->ns[i]?=some n->IntMulOk m n)) (∀H',Same H H'->Q (.int (dotI ms ns)) H')
def sp_1g(K:Frag):Sp:=λvs H Q _=>E5 λ(b1 b2:Bool)(a:Addr)(rows:LM)(w:Nat)=>A7 (vs=[.ref a]) (MatB b1 b2 K H a rows) (rows≠[]) ((∀r∈rows,r.length=w)) (w<=1000) (rows.length<=1000) (∀r H',H r=none->Same H H'->MatL H' r (gH w rows)->Q (.ref r) H')
def Ud(A B:LM):Prop:=∀r∈A,∀x∈r,∀r'∈B,∀y∈r',IntMulOk x y
def sp_1o(K:Frag):Sp:=λvs H Q _=>E9 λ(b1 b2 b3 b4:Bool)(a b:Addr)(A B:LM)(w:Nat)=>A11 (vs=[.ref a,.ref b]) (MatB b1 b2 K H a A) (MatB b3 b4 K H b B) (B≠[]) ((∀r∈B,r.length=w)) ((∀r∈A,r.length=B.length)) (w<=1000) (A.length<=1000) (B.length<=1000) (Ud A B) (∀r H',H r=none->Same H H'->MatL H' r (mulM w A B)->Q (.ref r) H')
def jX(i k:Nat)(rows:LM):LM:=(rows.eraseIdx i).map λr=>r.eraseIdx k
def sg(k:Nat):Int:=if k%2=0 then 1 else -1
def altS(f:Nat->Int):Nat->Int
 |0=>0
 |k+1=>altS f k+sg k*f k
def detM:Nat->LM->Int
 |0,_=>1
 |1,rows=>(rows.getD 0 []).getD 0 0
 |n+2,rows=>altS (λk=>(rows.getD 0 []).getD k 0*detM (n+1) (jX 0 k rows)) (n+2)
def Sq(n:Nat)(rows:LM):Prop:=rows.length=n/\∀r∈rows,r.length=n
def nY(B:Nat)(rows:LM):Prop:=∀r∈rows,∀x∈r,x.natAbs<2^B
theorem Uc(k:Nat):-sg k=sg (k+1):=by
 unfold sg
 by_cases h:k%2=0
 ·rw[zG h,zF ⋯]
 ·rw[zF h,zG ⋯];rfl
theorem Jc(k:Nat):(sg k).natAbs=1:=by unfold sg;split <;> rfl
theorem Sq.minor{n i k:Nat}{a:LM}(h:Sq (n+1) a)(hi:i<n+1)(b:k<n+1):Sq n (jX i k a):=by
 refine⟨?_,λr hr=>?_⟩
 ·unfold jX;rw[zqe,rH,h.1,zG hi];rfl
 ·obtain⟨z,c,rfl⟩:=pS.mp hr;have hl:=h.2 z (tX c);rw[rH,hl,zG b];rfl
theorem nY.minor{B i k:Nat}{a:LM}(h:nY B a):nY B (jX i k a):=λr hr x c=>by
 obtain⟨z,b,rfl⟩:=pS.mp hr;exact h z (tX b) x (tX c)
theorem Jb{f:Nat->Int}{M:Nat}:∀n:Nat,(∀k<n,(f k).natAbs<=M)->(altS f n).natAbs<=n*M
 |0,_=>by simp[altS]
 |n+1,h=>by
  have d:=Jb n λk b=>h k ⋯;have c:=h n ⋯;show(altS f n+sg n*f n).natAbs<=_;have a:=sJ (altS f n) (sg n*f n);rw[xT,Jc,Nat.one_mul]at a;rw[sF];omega
theorem row0{n:Nat}{a:LM}(h:Sq (n+1) a):a[0]?=some (a.getD 0 [])/\a.getD 0 []∈a:=by
 have hl:0<a.length:=by have:=h.1;omega
 have e:a.getD 0 []=a[0]:=by simp[hl]
 rw[e];exact⟨by simp[hl],xD hl⟩
theorem Ja{B:Nat}:∀(n:Nat)(a:LM),1<=n->n<=4->Sq n a->nY B a->(detM n a).natAbs<=2^(n*(B+2))
 |0,_,h,_,_,_=>⋯
 |1,a,_,_,b,c=>by
  have hr:=row0 b;have hl:0<(a.getD 0 []).length:=by rw[b.2 _ hr.2];decide
  have:=c _ hr.2 _ (L2.getD_mem hl);show((a.getD 0 []).getD 0 0).natAbs<=_;have:2^B<=2^(1*(B+2)):=zX ∅ ⋯;omega
 | n+2,a,_,j,b,c=>by
  have hr:=row0 b;have i:∀k<n+2,((a.getD 0 []).getD k 0*detM (n+1) (jX 0 k a)).natAbs<=2^B*2^((n+1)*(B+2)):=λk d=>by
   have hl:k<(a.getD 0 []).length:=by rw[b.2 _ hr.2];exact d
   have f:=c _ hr.2 _ (L2.getD_mem hl);have g:=Ja (n+1) (jX 0 k a) ⋯ ⋯ (b.minor ⋯ d) c.minor;rw[xT];exact vD (wA f) g
  have:=Jb (n+2) i;have e:2^((n+2)*(B+2))=4*(2^B*2^((n+1)*(B+2))):=by
   rw[←vE,show(4:Nat)=2^2 from rfl,←vE];congr 1;rw[Nat.add_mul,Nat.add_mul];omega
  show(altS _ (n+2)).natAbs<=_;rw[e];refine yH this (wE _ ⋯)
theorem nK{x:Int}{B:Nat}(h:x.natAbs<2^B):Builtin.Int.intBits x<=B:=intBits_le_iff.mpr h
def sp_1e(K:Frag):Sp:=λvs H Q _=>E7 λ(b1 b2:Bool)(a:Addr)(rows:LM)(i k w:Nat)=>A7 (vs=[.ref a,.int i,.int k]) (MatB b1 b2 K H a rows) ((∀r∈rows,r.length=w)) (k<w) (w<=1000) (rows.length<=1000) (∀r H',H r=none->Same H H'->MatL H' r (jX i k rows)->Q (.ref r) H')
def sp_2(K:Frag):Nat->Sp
 |0=>λ_ _ _ _=>False
 |n+1=>λvs H Q _=>∃(b1 b2:Bool)(a:Addr)(rows:LM)(B:Nat),vs=[.ref a]/\MatB b1 b2 K H a rows/\Sq (n+1) rows/\n<=3/\nY B rows/\B<=1000000/\∀H',Same H H'->Q (.int (detM (n+1) rows)) H'
section
variable {g:TG} {tt:TOx} {fr:List (Str×Nat)} {σ:St} {a:Addr} {H:Hp} {Q:VK} {K:Frag}
theorem Ub{b:Bool}{l:Addr}{xs:List V}(P:Nat->List V->Hp->Prop)(D:H a=none)(f:SqB b K H l xs)(t:xs.length<=1000)(n:P 0 [] (upd H a (.lst [])))
  (hl:∀i zs c,P i zs c->zs.length<=i)(mono:∀i zs c d,P i zs c->jI a c d->P i zs d)
  (m:∀i x c zs,xs[i]?=some x->Same H c->c a=some (.lst zs)->P i zs c->∀C:Option V->Hp->Prop,
   (∀y d,Same c d->P (i+1) (zs++[y]) d->C (some y) d)->(∀d,Same c d->P (i+1) zs d->C none d)->tt (some (.int i):: some x:: lG fr σ) c C)
  (v:∀c ys,Same H c->c a=some (.lst ys)->P xs.length ys c->Q (.ref a) c):
  kB (Ite K b l) (gTup K 2 (nV (oU 0) (nV (oU 1) gNil))) tt 2 fr σ a H Q:=by
 refine aL xs.length P D t n hl mono (λi c hi s=>⟨xs,xs[i],f.up s,by simp[hi]⟩) (λc s=>⟨xs,f.up s,rfl⟩) ?_ v;intro i c zs hi j I p w x M z k C J G;obtain⟨q,x,rfl,F,rfl,u⟩:=k;refine⟨q,[.int i,x],rfl,SqT.of oQ,rfl,_,[x],rfl,x,[],rfl,rfl,?_⟩;have sn:Same c (upd c q (.tup [.int i,x])):=Same.new F
 match w,z with
 |[o,L],_ =>
  exact⟨⟨[some (.int i),some x],rfl,rfl⟩,m i x _ zs (u xs (f.up j)) (j.trans sn) (sn _ _ I) (mono _ _ _ _ p sn.x) C (λy d e r=>J y d (sn.trans e) r) λd e r=>G d (sn.trans e) r⟩
end
theorem SqB.cut{b:Bool}{K:Frag}{H:Hp}{p:Addr}{xs:List V}:SqB b K (upd H p (seqO b xs)) p xs:=by
 cases b
 ·exact SqB.lst oQ
 ·exact SqB.tup oQ
theorem Ua{d:Type}{b:List d}{c a:Nat}{r:d}(e:b[a]?=some r):(b.take (a+1)).eraseIdx c=if a=c then(b.take a).eraseIdx c else(b.take a).eraseIdx c++[r]:=by
 have g:a<b.length:=(zqa e).1;have hl:(b.take a).length=a:=by rw[yS];omega
 rw[wY,e];show(b.take a++[r]).eraseIdx c=_
 by_cases h:a=c
 ·rw[zG h,vQ ⋯,hl,h,uQ,tE (l:=b.take c) (by rw[yS];omega)];simp
 ·rw[zF h]
  by_cases f:c<a
  ·rw[List.eraseIdx_append_of_lt_length ⋯]
  ·rw[vQ ⋯,hl,tE (l:=b.take a) ⋯];congr 1;rw[tE];simp;omega
theorem Kz{B C:Nat}:∀(ms ns:LI'),(∀x∈ms,x.natAbs<2^B)->(∀y∈ns,y.natAbs<2^C)->(dotI ms ns).natAbs<=ms.length*2^(B+C)
 |[],ns,_,_=>by simp[dotI]
 |m:: ms,[],_,_=>by simp[dotI]
 | m:: ms,n:: ns,a,b=>by
  have j:=Kz ms ns (λx f=>a x (zM _ f)) (λy c=>b y (zM _ c));have e:dotI (m:: ms) (n:: ns)=m*n+dotI ms ns:=by simp[dotI]
  have g:=a m zU;have d:=b n zU;have i:(m*n).natAbs<=2^(B+C):=by
   rw[xT,vE];exact vD (wA g) (wA d)
  have k:=sJ (m*n) (dotI ms ns);rw[e,zW,sF];omega
def idM(d:Nat):LM:=(List.range d).map λi=>(List.range d).map λk=>if i=k then(1:Int) else 0
def sp_i:Sp:=λvs H Q _=>E1 λ(n:Nat)=>A3 (vs=[.int n]) (n<=1000) (∀r H',H r=none->Same H H'->MatL H' r (idM n)->Q (.ref r) H')
def mX(K:Frag)(H:Hp)(p:Addr)(M:LM)(ts:LI')(u:Int):Prop:=∃pr pt,H p=some (.tup [.ref pr,.ref pt,.int u])/\MatB true true K H pr M/\H pt=some (.tup (ts.map V.int))
theorem mX.up{K:Frag}{H H':Hp}{p:Addr}{M:LM}{ts:LI'}{u:Int}(h:mX K H p M ts u)(s:Same H H'):mX K H' p M ts u:=let ⟨c,pt,d,b,a⟩:=h;⟨c,pt,s _ _ d,b.up s,s _ _ a⟩
def sp_1c(K:Frag):Sp:=λvs H Q _=>E7 λ(b1 b2:Bool)(a p:Addr)(M:LM)(ts:LI')(u:Int)=>A5 (vs=[.ref a,.ref p]) (MatB b1 b2 K H a M) (nP H p ts u) (M.length<=100) (∀q H',Same H H'->mX K H' q M ts u->Q (.ref q) H')
def PlS(K:Frag)(H:Hp)(p:Addr)(ns:LI')(u:Int):Prop:=∃q,SqT K H p [.ref q,.int u]/\SqT K H q (ns.map V.int)
theorem nP.s{K:Frag}{H:Hp}{p:Addr}{ns:LI'}{u:Int}(h:nP H p ns u):PlS K H p ns u:=let ⟨q,a,b⟩:=h;⟨q,SqT.of a,SqT.of b⟩
theorem PlS.up{K:Frag}{H H':Hp}{p:Addr}{ns:LI'}{u:Int}(h:PlS K H p ns u)(s:Same H H'):PlS K H' p ns u:=let ⟨q,b,a⟩:=h;⟨q,mL s _ _ b,mL s _ _ a⟩
theorem Et{K:Frag}{H:Hp}{p:Addr}{ns:LI'}{u:Int}{Q:VK}(h:PlS K H p ns u)(k:∀q,SqT K H q (ns.map V.int)->Q (.ref q) H):rIxB K (.ref p) (.int 0) H Q:=let ⟨q,b,a⟩:=h;⟨true,p,_,_,_,rfl,rfl,(b:SqB true K H p _),rfl,k q a⟩
theorem cW{K:Frag}{H:Hp}{p:Addr}{ns:LI'}{u:Int}{Q:VK}(h:PlS K H p ns u)(k:Q (.int u) H):rIxB K (.ref p) (.int 1) H Q:=let ⟨q,a,b⟩:=h;⟨true,p,_,_,_,rfl,rfl,(a:SqB true K H p _),rfl,k⟩
def sp_w(K:Frag):Sp:=λvs H Q _=>E3 λ(p:Addr)(ns:LI')(u:Int)=>A5 (vs=[.ref p]) (PlS K H p ns u) (ns.length<=100) (0<u) (∀p' H',Same H H'->nP H' p' (mJ u ns) u->Q (.ref p') H')
def jC(K:Frag)(H:Hp)(p:Addr)(M:LM)(ts:LI')(u:Int):Prop:=∃v0 v1,SqT K H p [.ref v0,.ref v1,.int u]/\MatB true true K H v0 M/\SqT K H v1 (ts.map V.int)
theorem jC.up{K:Frag}{H H':Hp}{p:Addr}{M:LM}{ts:LI'}{u:Int}(h:jC K H p M ts u)(s:Same H H'):jC K H' p M ts u:=let ⟨b,d,c,e,a⟩:=h;⟨b,d,mL s _ _ c,e.up s,mL s _ _ a⟩
theorem mX.s{K:Frag}{H:Hp}{p:Addr}{M:LM}{ts:LI'}{u:Int}(h:mX K H p M ts u):jC K H p M ts u:=let ⟨b,d,c,e,a⟩:=h;⟨b,d,SqT.of c,e,SqT.of a⟩
theorem iN{K:Frag}{H:Hp}{p:Addr}{M:LM}{ts:LI'}{u:Int}{Q:VK}(h:jC K H p M ts u)(q:∀x,MatB true true K H x M->Q (.ref x) H):rIxB K (.ref p) (.int 0) H Q:=let ⟨x,y,b,a,c⟩:=h;⟨true,p,_,_,_,rfl,rfl,(b:SqB true K H p _),rfl,q x a⟩
theorem cX{K:Frag}{H:Hp}{p:Addr}{M:LM}{ts:LI'}{u:Int}{Q:VK}(h:jC K H p M ts u)(q:∀x,SqT K H x (ts.map V.int)->Q (.ref x) H):rIxB K (.ref p) (.int 1) H Q:=let ⟨x,y,b,c,a⟩:=h;⟨true,p,_,_,_,rfl,rfl,(b:SqB true K H p _),rfl,q y a⟩
theorem dC{K:Frag}{H:Hp}{p:Addr}{M:LM}{ts:LI'}{u:Int}{Q:VK}(h:jC K H p M ts u)(q:Q (.int u) H):rIxB K (.ref p) (.int 2) H Q:=let ⟨x,y,a,c,b⟩:=h;⟨true,p,_,_,_,rfl,rfl,(a:SqB true K H p _),rfl,q⟩
def movT(M:LM)(ts:LI')(u:Int)(ns:LI')(v:Int):LI':=List.zipWith (λr t=>dotI r ns*u+t*v) M ts
def mO(B:Nat)(ns:LI'):Prop:=∀x∈ns,x.natAbs<2^B
structure Fine(d:Nat)(M:LM)(ts:LI')(u:Int):Prop where
 sq:Sq d M
 len:ts.length=d
 pos:0<u
 bm:nY 200000 M
 bt:mO 200000 ts
 bu:u<2^1500
def sp_1m(K:Frag):Sp:=λvs H Q _=>E8 λ(p q:Addr)(M:LM)(ts ns:LI')(u v:Int)(d:Nat)=>A11 (vs=[.ref p,.ref q]) (jC K H p M ts u) (PlS K H q ns v) (Fine d M ts u) (1<=d) (d<=4) (ns.length=d) (mO 200000 ns) (0<v) (v<2^1500) (∀r H',Same H H'->nP H' r (redT (u*v) (movT M ts u ns v)) (redU (u*v) (movT M ts u ns v))->Q (.ref r) H')
def sp_1i(K:Frag):Sp:=λvs H Q _=>E9 λ(p q:Addr)(M N:LM)(ts ns:LI')(u v:Int)(d:Nat)=>A8 (vs=[.ref p,.ref q]) (jC K H p M ts u) (jC K H q N ns v) (Fine d M ts u) (Fine d N ns v) (1<=d) (d<=4) (∀r H',Same H H'->mX K H' r (mulM d N M) (redT (v*u) (movT N ns v ts u)) (redU (v*u) (movT N ns v ts u))->Q (.ref r) H')
def sp_1t(K:Frag):Sp:=λvs H Q _=>E4 λ(p:Addr)(M:LM)(ts:LI')(u:Int)=>A6 (vs=[.ref p]) (jC K H p M ts u) (M.length<=100) (ts.length<=100) (0<u) (∀r H',Same H H'->mX K H' r M (mJ u ts) u->Q (.ref r) H')
theorem dD{u:Int}(a:0<u)(b:u<2^1500):u.natAbs<2^1500:=by
 have e:((2^1500:Nat):Int)=(2:Int)^1500:=nofun
 omega
theorem iO{u:Int}{B:Nat}(h:u.natAbs<2^B)(a:B<=8990):jB u:=zI h (zX ∅ a)
theorem Vz{u v:Int}(b:0<u)(c:u<2^1500)(a:0<v)(d:v<2^1500):jB (u*v)/\0<u*v:=by
 refine⟨iO (B:=1500+1500) ?_ ∅,xF b a⟩;rw[xT,vE];exact qM (dD b c) (dD a d)
theorem nY.le{B C:Nat}{M:LM}(h:nY B M)(a:B<=C):nY C M:=λr hr x b=>zI (h r hr x b) (zX ∅ a)
section
variable {P:Program} {w:World} {K:Frag} {mg:MT} {base:Heap} {t:Adr}
theorem Es{ns:LI'}{k:Int}(a:0<=k)(b:k<ns.length):atI (ns.map V.int) k=some (.int (ns.getD k.toNat 0)):=by
 obtain⟨j,rfl⟩:=xK a;exact lQ (jJ (getD_at ⋯)) rfl
def sp_d(K:Frag):Sp:=λvs H Q _=>E3 λ(p:Addr)(ns:LI')(k:Int)=>A4 (vs=[.ref p,.int k]) (SqL K H p (ns.map V.int)) (0<=k) (Q (.int (ns.getD k.toNat 0)) H)
def sp_13:Sp:=λvs H Q _=>∃i,vs=[.int i]/\Q (.bl true) H
theorem ok_d(T:Txt K mg t):FnOk P w K mg base CX0 1 t.a_d t.d_d pn' (sp_d K):=by
 apply T.F_d.ok sc_d
 ·obtain⟨p,ns,k,rfl,a,b,q⟩:=h;refine⟨_,(oN (nT (nL dS (pq 1) (nQ T.z_len (pq 0)) (nJ _))
   (oP (nA (mI ix_B (pq 0) (pq 1) (λ_ _=>rfl))))
   nS)
   (oP (nA oW))),?_⟩
  show tSeq _ _ _ [some (.ref p),some (.int k)] H;ext;refine kM (b:=false) a ?_;ext
  by_cases z:k<ns.length
  ·rw[zL z];exact iteT ⟨false,p,_,_,_,rfl,rfl,a,Es b z,q⟩
  ·rw[zN z];refine iteF ?_;have e:ns.getD k.toNat 0=0:=by
    rw[zqc,vG ⋯];rfl
   rw[e]at q;exact q
theorem ok_13(T:Txt K mg t):FnOk P w K mg base CX0 1 t.a_13 t.d_13 pH' sp_13:=by
 apply T.F_13.ok sc_13
 ·obtain⟨i,rfl,q⟩:=h;refine⟨_,(oP (nA (Bm (mV aH rfl T.z_isinstance (nofun) (oK (pq 0) (oK (bW (v:=.ty "int") rfl T.z_int (nofun) rfl) oM))) (Fi (Nq (mV aH rfl T.z_isinstance (nofun) (oK (pq 0) (oK (bW (v:=.ty "bool") rfl T.z_bool (nofun) rfl) oM)))))))),?_⟩;show tRet _ _ [some (.int i)] H;ext;refine⟨_,_,_,_,rfl,.ty (.int i),rfl,T.h_f,?_⟩;ext;refine⟨_,_,_,_,rfl,.ty (.int i),rfl,T.h_g,?_⟩;ext;exact q
theorem Vy{a b:Int}{H:Hp}{Q:VK}{E:XK}:Jg [.int a,.int b] H Q E=Q (.int (gcdI a b)) H:=propext ⟨λ⟨_,_,e,q⟩=>by cases e;exact q,λq=>⟨_,_,rfl,q⟩⟩
theorem ok_15(T:Txt K mg t):FnOk P w K mg base CX0 1 t.a_15 t.d_15 pB' sp_15:=by
 apply T.F_15.ok sc_15
 ·obtain⟨a,b,rfl,k⟩:=h;refine⟨_,(oN (oY (i:=2) sc_15.nd rfl (Or.inl rfl) (mV eA rfl T.z_abs (nofun) (oK (pq 0) oM)))
   (oN (oY (i:=3) sc_15.nd rfl (Or.inl rfl) (mV eA rfl T.z_abs (nofun) (oK (pq 1) oM)))
   (oN (Bl yD (nL kS (pq 3) oW (nJ _))
   (oN (oY (i:=4) sc_15.nd rfl (Or.inl rfl) (oR lA (pq 2) (pq 3)))
   (oN (oY (i:=2) sc_15.nd rfl (Or.inl rfl) (pq 3))
   (oP (oY (i:=3) sc_15.nd rfl (Or.inl rfl) (pq 4))))))
   (oP (nA (pq 2)))))),?_⟩
  show tSeq _ _ _ [some (.int a),some (.int b),none,none,none] H;ext;refine⟨λm f c=>∃g l r,f=[some (.int a),some (.int b),some (.int g),some (.int l),r]/\c=H/\0<=g/\0<=l/\Int.gcd g l=Int.gcd a b/\m=l.toNat,
   ⟨_,_,_,_,rfl,rfl,Jh a,Jh b,Uf a b,rfl⟩,?_⟩
  rintro m f c ⟨g,l,r,rfl,rfl,i,hl,e,rfl⟩;ext
  by_cases z:l=0
  ·rw[zL z];refine iteF ?_;rw[Ue e i z];exact k
  ·rw[zN z];refine iteT ⟨λd H'=>d=[some (.int a),some (.int b),some (.int l),some (.int (g.fmod l)),some (.int (g.fmod l))]/\H'=c,?_,z,rfl,rfl⟩;rintro d H' ⟨rfl,rfl⟩;have l1:=tR g (show 0<l by omega);have l2:=uI g (show 0<l by omega);exact⟨(g.fmod l).toNat,⋯,_,_,_,rfl,rfl,hl,l2,by rw[Ji];exact e,rfl⟩
theorem ok_11(T:Txt K mg t):FnOk P w K mg base (CX1 P w) 2 t.a_11 t.d_11 ["tops","under"] (sp_11 K t.a_1y):=by
 have U:=@ok_15 P w K mg base t T;refine T.F_11.okX sc_11 (λvs H Q E h=>?_) (λcdv A outer s H vs Q E hr h=>?_)
 ·obtain⟨b,a,ns,u,rfl,_⟩:=h;rfl
 ·obtain⟨b,a,ns,u,rfl,d,hl,G,D,a0⟩:=h;refine⟨_,(oN (nT (nL jM (pq 1) oW (nJ _))
   (oP (fG rfl fF rfl T.m_1y T.x_1y xU (oK gZ oM)))
   nS)
   (oN (nT (nL jM (nQ T.z_len (pq 0)) oW (nJ _))
   (oP (fG rfl fF rfl T.m_1y T.x_1y xU (oK gZ oM)))
   nS)
   (oN (oY (i:=2) sc_11.nd rfl (Or.inr rfl) (mV eA rfl T.z_abs (nofun) (oK (pq 1) oM)))
   (oN (PS.nox (lF yD rfl (nH (pq 0)) (nN (i:=3) sc_11.nd rfl (Or.inl rfl))
   (oP (oY (i:=2) sc_11.nd rfl (Or.inr rfl) (oS U hr.mo T.F_15 (oK (pq 2) (oK (pq 3) oM)))))))
   (oN (nT (nL dS (pq 1) oW (nJ _))
   (oP (oY (i:=2) sc_11.nd rfl (Or.inr rfl) (fA fC (pq 2))))
   nS)
   (oP (nA (mG (oK (mP kL rfl T.z_tuple (nofun) (oK (nR (sc:=oO s_11) (N:=N_11) (fr:=[("common",2)]) (te:=(tOp (rI jH λi j=>.int (i.fdiv j)) (tVar 0) (tVar 1))) rfl rfl (nofun) rfl (nofun) (nH (pq 0)) (λ_ _ _ a2=>(oR kG (pv 0) (pv 1)))) oM)) (oK (oR kG (pq 1) (pq 2)) oM)))))))))),?_⟩
  show tSeq _ _ _ [some (.ref a),some (.int u),none,none] H;refine st λN1 e1=>?_;simp only[iV];ext;refine ite2 (λz=>⟨∅,D (.inl (yM z))⟩) (λz=>?_);have g:u≠0:=λq=>z (zL q);subst e1;refine st λN1 e1=>?_;simp only[iV];ext;refine kM d ?_;ext;refine ite2 (λz=>⟨∅,D (.inr ?_)⟩) (λz=>?_)
  ·have:=yM z;exact vA ⋯
  have W:ns≠[]:=λq=>z (zL (by rw[q];rfl));left;subst e1;refine st λN1 e1=>lH λB eB=>?_;simp only[iSeq];ext;refine⟨b,⟨_,d⟩,?_⟩;refine kZ (g:=oU 3) (tb:=B) (λi k f=>∃v3,k=[some (.ref a),some (.int u),some (.int (gl u (ns.take i))),v3]/\f=H) ⟨_,rfl,rfl⟩ (λi k f _⟨_,_,e⟩=>e ▸ d) ?_ ?_
  ·rintro i x k f hi ⟨v3,rfl,rfl⟩;obtain⟨n,m,rfl⟩:=mS hi;subst eB;ext;simp only[Vy];rw[Jd m,Uk]
   first|trivial|exact⟨_,rfl,rfl⟩
  ·rintro k f ⟨v3,rfl,rfl⟩;rw[zqe,vS];subst e1;refine st λR Y=>?_;have c:R [some (.ref a),some (.int u),some (.int (cs u ns)),v3] f:=by
    subst Y;have Z:jB (cs u ns):=Je G g (jW (gl_u u ns));have v:∀x,jH x (cs u ns):=λx=>⟨dB ns g,Jf Z (dB ns g)⟩;ext;exfalso;refine⟨b,⟨_,d⟩,λJ F=>nO (λj y _=>∃n,ns[j]?=some n/\y=.int (n.fdiv (cs u ns))) F d (by rw[zqe];omega) (λ_ _ _ _ r _=>r) ?_ ?_⟩
    ·intro i x o zs L _ _ X N;obtain⟨n,m,rfl⟩:=mS L;subst eB;show tOp _ _ _ [some (.int n),some (.int (cs u ns))] o X;ext;exact⟨v n,N _ o (Same.refl _) ⟨n,m,rfl⟩⟩
    ·intro o ys I e1 O M;have S:ys=(redT u ns).map V.int:=by
      unfold redT;rw[yI];exact mD (by simpa using O) M
     subst S;refine⟨J,_,rfl,.inl ⟨SqL.of e1,λl a1=>?_⟩⟩;ext;refine⟨v u,(by show 2<=sizeLine;decide),λp C=>a0 g W p _ ((I.trans (Same.new a1)).trans (Same.new C)) ⟨l,oQ,?_⟩⟩;rw[nC (mE oQ C)];exact oQ
   ext;unfold cs at c;refine ite2 (λz=>?_) (λz=>?_)
   ·rw[zG (yM z)]at c;exact c
   ·rw[zF (λq=>z (zL q))]at c;exact c
theorem jP{H:Hp}{p:Addr}{ns:LI'}{u:Int}{Q:VK}(h:nP H p ns u)(q:∀x,H x=some (.tup (ns.map V.int))->Q (.ref x) H):rIxB K (.ref p) (.int 0) H Q:=let ⟨x,a,b⟩:=h;⟨true,p,_,_,_,rfl,rfl,SqB.tup a,rfl,q x b⟩
theorem iP{H:Hp}{p:Addr}{ns:LI'}{u:Int}{Q:VK}(h:nP H p ns u)(q:Q (.int u) H):rIxB K (.ref p) (.int 1) H Q:=let ⟨x,a,b⟩:=h;⟨true,p,_,_,_,rfl,rfl,SqB.tup a,rfl,q⟩
theorem ok_w(T:Txt K mg t):FnOk P w K mg base CX0 1 t.a_w t.d_w pM' (sp_w K):=by
 apply T.F_w.ok sc_w
 ·obtain⟨p,ns,u,rfl,d,hl,I,m⟩:=h;refine⟨_,(oN (oY (i:=1) sc_w.nd rfl (Or.inr rfl) (oT (pq 0)))
   (oP (nA (mG (oK (mP kL rfl T.z_tuple (nofun) (oK (nR (sc:=oO Am) (N:=N_w) (fr:=[("under",1)]) (te:=(tOp (rI (λ_ j=>j≠0) λi j=>.int (i.fmod j)) (tVar 0) (tVar 1))) rfl rfl (nofun) rfl (nofun) (nH (oT (pq 0))) (λ_ _ _ G=>(oR lA (pv 0) (pv 1)))) oM)) (oK (pq 1) oM)))))),?_⟩
  show tSeq _ _ _ [some (.ref p),none] H;right;refine cW d ?_;symm;exfalso;refine Et d λx a=>⟨true,x,rfl,⟨_,(show SqB true K H x _ from a)⟩,λz k=>nO (λj y _=>∃n,ns[j]?=some n/\y=.int (n.fmod u)) k ((show SqB true K H x _ from a)) (by rw[zqe];omega) (λ_ _ _ _ r _=>r) ?_ ?_⟩
  ·intro i x b zs a _ _ f D;obtain⟨n,o,rfl⟩:=mS a;subst eB;show tOp _ _ _ [some (.int n),some (.int u)] b f;ext;exact⟨⋯,D _ b (Same.refl _) ⟨n,o,rfl⟩⟩
  ·intro b ys v e1 F C;have e:ys=(mJ u ns).map V.int:=by
    unfold mJ;rw[yI];exact mD (by simpa using F) C
   subst e;refine⟨z,_,rfl,.inl ⟨SqL.of e1,λl q=>?_⟩⟩;refine⟨(by show 2<=sizeLine;decide),λg c=>m g _ ((v.trans (Same.new q)).trans (Same.new c)) ⟨l,oQ,?_⟩⟩;rw[nC (mE oQ c)];exact oQ
theorem ok_1v(T:Txt K mg t):FnOk P w K mg base CX0 1 t.a_1v t.d_1v pB' (sp_1v K):=by
 apply T.F_1v.ok sc_1v
 ·obtain⟨b1,b2,p,q,ms,ns,rfl,k,u,hl,F,I,C⟩:=h;refine⟨_,(oP (nA (mV (Cp rfl) rfl T.z_sum (nofun) (oK (kU (xs:=["left","right"]) (fr:=[]) (g:=(gTup K 2 (nV (oU 0) (nV (oU 1) gNil)))) (tt:=(tEl (tOp (rI (λi j=>IntMulOk i j) λi j=>.int (i*j)) (tVar 0) (tVar 1)))) (lD (sc:=oO s_1v) (N:=N_1v) rfl rfl (nofun)) rfl (Cq rfl T.z_zip (oK (pq 0) (oK (pq 1) oM))) (λ_ _ _ d=>(lY rfl (nU (kX (N:=["left","right"]) (i:=0) d rfl (nofun)) (nU (kX (N:=["left","right"]) (i:=1) d rfl (nofun)) lW)))) (λ_ _ _ d=>(lP (oR mF (pv 0) (pv 1))))) oM)))),?_⟩;show tRet _ _ [some (.ref p),some (.ref q)] H;ext;refine nF λB eB=>?_;simp only[iZip];ext;refine⟨b1,⟨_,k⟩,b2,⟨_,u⟩,λa z=>?_⟩;refine Co (λj y _=>∃m n,ms[j]?=some m/\ns[j]?=some n/\y=.int (m*n)) z k u (by simpa using hl) (by simpa using F) (λ_ _ _ _ r _=>r) ?_ ?_
  ·intro i x y g zs L f o l v J;obtain⟨m,b,rfl⟩:=mS L;obtain⟨n,c,rfl⟩:=mS f;subst eB;show tOp _ _ _ [some (.int m),some (.int n)] g v;ext;exact⟨I i m n b c,J _ _ (Same.refl _) ⟨m,n,b,c,rfl⟩⟩
  ·intro g zs o l D G;have f:zs=(List.zipWith (·*·) ms ns).map V.int:=by
    refine mD (by simp at D ⊢;omega) λj y e=>?_;obtain⟨m,n,b,c,rfl⟩:=G j y e;exact⟨m*n,by rw[xB,b,c],rfl⟩
   subst f;exact⟨_,rfl,_,SqL.of l,C g o⟩
theorem ok_1g(T:Txt K mg t):FnOk P w K mg base CX0 1 t.a_1g t.d_1g pK' (sp_1g K):=by
 apply T.F_1g.ok sc_1g
 ·obtain⟨b1,b2,a,b,w,rfl,C,U,v,G,a9,a2⟩:=h;refine⟨_,(oP (nA (kU (xs:=["k"]) (fr:=[("rows",0)]) (g:=(oU 0)) (tt:=(tEl (nW (iSeq K (tVar 1)) (oU 0) (tEl (tOp (rIxB K) (tVar 0) (tVar 1))) 1 [("k",0)]))) (lD (sc:=oO s_1g) (N:=N_1g) rfl rfl (nofun)) rfl (lJ rfl T.z_range (oK (nQ T.z_len (oT (pq 0))) oM)) (λ_ _ _ f=>(jO (N:=["k","rows"]) (i:=0) f rfl (nofun) rfl)) (λ_ _ _ f=>(lP (nR (N:=["k","rows"]) (fr:=[("k",0)]) (te:=(tOp (rIxB K) (tVar 0) (tVar 1))) f rfl (nofun) rfl (nofun) (nH (pv 1)) (λ_ _ _ a7=>(mI ix_B (pv 0) (pv 1) (λ_ _=>rfl))))))))),?_⟩;show tRet _ _ [some (.ref a)] H;ext;refine nF λB eB=>?_;simp only[mH];ext;obtain⟨c,q⟩:∃c,b[0]?=some c:=by cases b with|nil=>exact absurd rfl U|cons r _=>exact⟨r,rfl⟩
  have I:c.length=w:=v c (zqb q);obtain⟨ps,p,k1,k2,k3,R⟩:=C.row q;refine⟨b1,a,_,0,_,rfl,rfl,k1,lQ k2 rfl,b2,p,_,rfl,R,?_⟩;rw[zqe,I];refine⟨_,rfl,⋯,⋯,λl o=>?_⟩;rw[zV];refine kC (RowR l λk=>colI k b) o G (RowR.mono (a:=l)) ?_ ?_
  ·intro i n zs hi g a3 Y N;subst eB;show nW _ _ _ _ _ [some (.int (0+(i:Int))),some (.ref a)] n Y;exfalso;obtain⟨xs,z,a8,a4⟩:=(C.up g).walk;refine⟨b1,⟨_,z⟩,λX D=>?_⟩;refine nO (λj y _=>∃r,b[j]?=some r/\y=.int (r.getD i 0)) D z ⋯ (λ_ _ _ _ r _=>r) ?_ ?_
   ·intro j x F a5 O m a6 J Z;obtain⟨p,r,rfl,d,a0⟩:=a4 j x O;subst eB;show tOp _ _ _ [some (.ref p),some (.int (0+(i:Int)))] F J;ext;have M:i<r.length:=by rw[v r (zqb d)];exact hi
    exact⟨b2,p,_,_,_,rfl,rfl,a0.up m,lQ (jJ (getD_at M)) ⋯,Z _ _ (Same.refl _) ⟨r,d,rfl⟩⟩
   ·intro F ys m a1 u L;have S:ys=(colI i b).map V.int:=by
     refine mD (by simp[colI];omega) λj y e=>?_;obtain⟨r,d,rfl⟩:=L j y e;exact⟨r.getD i 0,by unfold colI;rw[zD,d];rfl,rfl⟩
    subst S;exact N _ _ m ⟨X,rfl,yA (mE a3 D),a1⟩
  ·intro n ys g e1 u W;have:=MatL.of e1 W;rw[u]at this;exact a2 l n o g this
theorem ok_1o(T:Txt K mg t):FnOk P w K mg base CX0 2 t.a_1o t.d_1o pB' (sp_1o K):=by
 have a6:=@ok_1g P w K mg base t T;have a2:=@ok_1v P w K mg base t T;apply T.F_1o.ok sc_1o
 ·obtain⟨b1,b2,c6,d4,a,b,C,d,w,rfl,c5,a7,b5,O,b3,Z,d8,b4,d2,c8⟩:=h;refine⟨_,(oN (oY (i:=2) sc_1o.nd rfl (Or.inr rfl) (oS a6 hr.mo T.F_1g (oK (pq 1) oM)))
   (oP (nA (kU (xs:=["row"]) (fr:=[("columns",2)]) (g:=(oU 0)) (tt:=(tEl (nW (iSeq K (tVar 1)) (oU 0) (tEl (mC (sp_1v K) [] E0 (oV (tVar 1) (oV (tVar 0) tNil)))) 1 [("row",0)]))) (lD (sc:=oO s_1o) (N:=N_1o) rfl rfl (nofun)) rfl (nH (pq 0)) (λ_ _ _ D=>(jO (N:=["row","columns"]) (i:=0) D rfl (nofun) rfl)) (λ_ _ _ D=>(lP (nR (N:=["row","columns"]) (fr:=[("row",0)]) (te:=(mC (sp_1v K) [] E0 (oV (tVar 1) (oV (tVar 0) tNil)))) D rfl (nofun) rfl (nofun) (nH (pv 1)) (λ_ _ _ e3=>(oS a2 hr.mo T.F_1v (oK (pv 1) (oK (pv 0) oM))))))))))),?_⟩
  show tSeq _ _ _ [some (.ref a),some (.ref b),none] H;right;refine⟨c6,d4,b,d,w,rfl,a7,b5,O,Z,b4,λc e2 d9 I a9=>?_⟩;symm;exfalso;obtain⟨xs,R,c9,d5⟩:=(c5.up I).walk;refine⟨b1,⟨_,R⟩,λg F=>?_⟩;refine nO (RowR g λj=>(List.range w).map λk=>dotI (C.getD j []) (colI k d)) F R ⋯ (RowR.mono (a:=g)) ?_ ?_
  ·intro i x M zs b0 z d0 b7 a8;obtain⟨p,r,rfl,L,c2⟩:=d5 i x b0;have a3:C.getD i []=r:=by rw[zqc,L];rfl
   have d3:r.length=d.length:=b3 r (zqb L);subst eB;show nW _ _ _ _ _ [some (.ref p),some (.ref c)] M b7;exfalso;obtain⟨d6,W,e5,c0⟩:=((a9.up z).b (K:=K)).walk;refine⟨false,⟨_,W⟩,λb6 Y=>?_⟩;have e6:(gH w d).length=w:=by simp[gH]
   refine nO (λj y _=>y=.int (dotI r (colI j d))/\j<w) Y W ⋯ (λ_ _ _ _ r _=>r) ?_ ?_
   ·intro j y X e0 J u e4 a1 b9;obtain⟨q,col,rfl,v,b8⟩:=c0 j y J;have l:j<w:=by have:=(zqa v).1;omega
    have c4:col=colI j d:=by
     unfold gH at v;rw[zD,yP l]at v;exact(zQ v).symm
    subst eB c4;show mC _ _ _ _ [some (.ref q),some (.ref p)] X a1;ext;refine⟨b2,false,p,q,r,colI j d,rfl,(c2.up z).up u,b8.up u,by simp[colI,d3],⋯,λc7 m n e1 f=>?_,λe7 c3=>b9 _ _ c3 ⟨rfl,l⟩⟩;unfold colI at f;rw[zD]at f;cases eb:d[c7]? with
    |none=>rw[eb]at f;cases f
    |some G =>
     rw[eb]at f;have d1:G.getD j 0=n:=zQ f;subst d1;have S:=zqb eb;exact d2 r (zqb L) m (zqb e1) G S _ (L2.getD_mem (by rw[O G S];exact l))
   ·intro X ys u a0 N a4;have J:ys=((List.range w).map λk=>dotI r (colI k d)).map V.int:=by
     refine mD (by simp;omega) λj y e=>?_;obtain⟨rfl,l⟩:=a4 j y e;exact⟨_,by rw[zD,yP l];rfl,rfl⟩
    subst J;exact a8 _ _ u ⟨b6,rfl,yA (mE d0 Y),by dsimp only;rw[a3];exact a0⟩
  ·intro M ys z f N a5;have:=MatL.of f a5;have e:(List.range ys.length).map (λj=>(List.range w).map λk=>dotI (C.getD j []) (colI k d))=mulM w C d:=by
    rw[N,c9];unfold mulM;refine xP (by simp) λi U d7=>?_;simp at U;simp[U]
   rw[e]at this;have c1:H g=none:=by
    cases q:H g with
    |none=>rfl
    |some o=>rw[I _ _ q]at F;cases F
   exact c8 g M c1 (I.trans z) this
theorem ok_1e(T:Txt K mg t):FnOk P w K mg base CX0 1 t.a_1e t.d_1e px' (sp_1e K):=by
 apply T.F_1e.ok sc_1e
 ·obtain⟨b1,b2,a,X,c,k,w,rfl,a8,a3,b7,b5,b9,a9⟩:=h;refine⟨_,(oP (nA (kU (xs:=["at","row"]) (fr:=[("i",1),("k",2)]) (g:=(gTup K 2 (nV (oU 0) (nV (oU 1) gNil)))) (tt:=(jU (fD (tOp (rI0 λi j=>.bl (!decide (i=j))) (tVar 0) (tVar 2))) (tOp rCat (tCB (cG K) (oV (tSl (rSlB K) (tVar 1) Be (Bd (tVar 3))) tNil)) (tCB (cG K) (oV (tSl (rSlB K) (tVar 1) (Bd (tOp (rI0 λi j=>.int (i+j)) (tVar 3) (tC (.int 1)))) Be) tNil))))) (lD (sc:=oO s_1e) (N:=N_1e) rfl rfl (nofun)) rfl (eI rfl T.z_enumerate (oK (pq 0) oM)) (λ_ _ _ F=>(lY rfl (nU (kX (N:=["at","row","i","k"]) (i:=0) F rfl (nofun)) (nU (kX (N:=["at","row","i","k"]) (i:=1) F rfl (nofun)) lW)))) (λ_ _ _ F=>(Cs (nL kS (pv 0) (pv 2) (nJ _)) (oR dY (mP fJ rfl T.z_list (nofun) (oK (eG sl_B (pv 1) Gq (iF (pv 3))) oM)) (mP fJ rfl T.z_list (nofun) (oK (eG sl_B (pv 1) (iF (oR lK (pv 3) oW)) Gq) oM)))))))),?_⟩;show tRet _ _ [some (.ref a),some (.int c),some (.int k)] H;ext;refine Hn λb6 b8 a0 eB=>?_;simp only[fI];ext;obtain⟨xs,S,b0,b4⟩:=a8.walk;refine⟨b1,⟨_,S⟩,λO N=>?_⟩;refine Ub (λt zs b=>kN O b zs (((X.take t).eraseIdx c).map λ(r:LI')=>r.eraseIdx k)) N S ⋯ kN.nil ?_ (λ_ _ _ _ r s=>r.mono s) ?_ ?_
  ·intro i zs b p;rw[p.len,zqe,rH];have:=List.length_take_le i X;split <;> omega
  ·intro i x b zs a1 G b3 p C M L;obtain⟨J,r,rfl,Y,u⟩:=b4 i x a1;have c0:r.length=w:=a3 r (zqb Y);replace u:=u.up G;rw[Ua Y]at M L;subst a0 eB;show jU _ _ [some (.int i),some (.ref J),some (.int c),some (.int k)] b C;simp only[jU];ext
   by_cases z:i=c
   ·subst z;rw[zG rfl]at L;rw[zL rfl];exact L b (Same.refl _) p
   ·rw[zF z]at M;rw[zN (show¬ (i:Int)=c by omega)];refine iteT ?_;refine⟨b2,J,_,rfl,u,λ_=>by rw[zqe,HT.sIx_none,HT.sIx_nat];omega,λd a5=>?_⟩;have sq1:SqB b2 K (upd b d (seqO b2 (cutV (r.map V.int) none (some (k:Int))))) d (cutV (r.map V.int) none (some (k:Int))):=SqB.cut;have n:Same b (upd b d (seqO b2 (cutV (r.map V.int) none (some (k:Int))))):=Same.new a5;generalize upd b d _=D at sq1 n;rw[Qe ⋯]at sq1;refine⟨b2,d,_,rfl,sq1,λg a4=>?_⟩;have U:(upd D g (.lst ((r.take k).map V.int))) g=some (.lst ((r.take k).map V.int)):=oQ;have m:Same D (upd D g (.lst ((r.take k).map V.int))):=Same.new a4;generalize upd D g _=v at U m;refine⟨b2,J,_,rfl,(u.up n).up m,λ_=>by rw[zqe,HT.sIx_none,show(k:Int)+1=((k+1:Nat):Int) by omega,HT.sIx_nat];omega,λf Z=>?_⟩;have sq3:SqB b2 K (upd v f (seqO b2 (cutV (r.map V.int) (some ((k:Int)+1)) none))) f (cutV (r.map V.int) (some ((k:Int)+1)) none):=SqB.cut;have q:Same v (upd v f (seqO b2 (cutV (r.map V.int) (some ((k:Int)+1)) none))):=Same.new Z;generalize upd v f _=y at sq3 q;rw[show(k:Int)+1=((k+1:Nat):Int) by omega,Qd ⋯]at sq3;refine⟨b2,f,_,rfl,sq3,λl a6=>?_⟩;have o:Same y (upd y l (.lst ((r.drop (k+1)).map V.int))):=Same.new a6;have R:(upd y l (.lst ((r.drop (k+1)).map V.int))) l=some (.lst ((r.drop (k+1)).map V.int)):=oQ;generalize upd y l _=a2 at R o;refine⟨g,l,_,_,rfl,rfl,o _ _ (q _ _ U),R,by rw[zqe,zqe,yS,uV];exact wA (cC ⋯),λa7 I=>?_⟩;have W:Same b (upd a2 a7 (.lst ((r.take k).map V.int++(r.drop (k+1)).map V.int))):=(((n.trans m).trans q).trans o).trans (Same.new I);refine M _ _ W ?_;rw[yV];refine(p.mono W.x).snoc (λe=>?_) ?_
    ·subst e;rw[o _ _ (q _ _ (m _ _ (n _ _ b3)))]at I;cases I
    ·rw[oQ];dsimp only;rw[List.eraseIdx_eq_take_drop_succ,yV]
  ·intro b ys G e1 p;rw[b0,vS]at p;exact a9 O b N G (kN.mat e1 p)
theorem ok_2(T:Txt K mg t):∀n:Nat,FnOk P w K mg base CX0 (n+1) t.a_2 t.d_2 pK' (sp_2 K n)
 |0=>⟨λ_ _ _ _ h=>h.elim,λ_ _ _ _ _ _ _ _ _ _ _ _ _ h=>h.elim⟩
 | n+1=>by
  have Y:FnOk P w K mg base CX0 (n+1) t.a_2 t.d_2 pK' (sp_2 K n):=ok_2 T n;have a2:=@ok_1e P w K mg base t T;apply T.F_2.ok sc_2
  ·obtain⟨b1,b2,a,c,B,rfl,g,d,a7,L,U,N⟩:=h;refine⟨_,(oN (nT (nL jM (nQ T.z_len (pq 0)) oW (nJ _))
   (oP (nA (oT (oT (pq 0)))))
   nS)
   (oN (oY (i:=1) sc_2.nd rfl (Or.inl rfl) oW)
   (oN (oY (i:=2) sc_2.nd rfl (Or.inl rfl) oW)
   (oN (lF yD rfl (eI rfl T.z_enumerate (oK (oT (pq 0)) oM)) (lY rfl (nU (nN (i:=3) sc_2.nd rfl (Or.inl rfl)) (nU (nN (i:=4) sc_2.nd rfl (Or.inl rfl)) lW)))
   (oN (nT (nL kS (pq 4) oW (nJ _))
   (oP (Ff (i:=1) sc_2.nd rfl (Or.inl rfl) (oR mF (oR mF (pq 2) (pq 4)) (oS Y hr.mo T.F_2 (oK (oS a2 hr.mo T.F_1e (oK (pq 0) (oK oW (oK (pq 3) oM)))) oM))) Fe))
   nS)
   (oP (oY (i:=2) sc_2.nd rfl (Or.inl rfl) (fA fC (pq 2))))))
   (oP (nA (pq 1))))))),?_⟩
   show tSeq _ _ _ [some (.ref a),none,none,none,none] H;obtain⟨C,I⟩:=row0 d;have a5:(c.getD 0 []).length=n+1:=d.2 _ I;right;refine iH g ?_;ext;rw[d.1]
   by_cases z:n=0
   ·subst z;rw[zL (by rfl)];exact iteT (aV g C (getD_at (k:=0) ⋯) rfl rfl (N H (Same.refl _)))
   ·rw[zN (show¬ ((n+1:Nat):Int)=1 by omega)];refine iteF ?_;obtain⟨n,rfl⟩:∃m,n=m+1:=⟨n-1,⋯⟩;left;left;subst e1;refine st λN1 e1=>lH λa8 eB=>?_;simp only[fI];ext;refine Qf g C rfl λp M=>⟨b2,_,rfl,⟨_,M⟩,?_⟩;generalize hf:(λk=>(c.getD 0 []).getD k 0*detM (n+1) (jX 0 k c))=f;refine aU (nx:=N1) (rt:=Q) (λk u e=>∃v3 o,u=[some (.ref a),some (.int (altS f k)),some (.int (sg k)),v3,o]/\Same H e) ⟨_,_,rfl,Same.refl _⟩ (λ_ _ _ _⟨_,_,_,b⟩=>M.up b) ?_ ?_
    ·rintro k x q u e W ⟨v3,o,rfl,b⟩ Z;obtain⟨x,F,rfl⟩:=mS W;have D:k<n+2:=by have:=(zqa F).1;omega
     refine⟨q,[.int k,.int x],rfl,SqT.of oQ,rfl,_,_,rfl,_,_,rfl,rfl,?_⟩;replace b:=b.trans (Same.new (o:=.tup [.int k,.int x]) Z);generalize upd e q (.tup [.int k,.int x])=S at b;subst eB;show tSeq _ _ _ [some (.ref a),some (.int (altS f k)),some (.int (sg k)),some (.int k),some (.int x)] S;refine st λV a1=>?_;have y:∀i(v:Int),Same H i->v=altS f (k+1)->V [some (.ref a),some (.int v),some (.int (sg k)),some (.int k),some (.int x)] i:=by
      intro i v j X;subst a1 X;ext;rw[Uc];exact⟨rfl,j⟩
     ext;have R:(c.getD 0 []).getD k 0=x:=Qg F;have G:f k=x*detM (n+1) (jX 0 k c):=by rw[←hf];dsimp only;rw[R]
     have O:=d.minor (i:=0) (k:=k) ⋯ D;have J:nY B (jX 0 k c):=L.minor
     by_cases l:x=0
     ·rw[zL l];refine iteF (y S _ b ?_);show _=altS f k+sg k*f k;rw[G,l];simp
     ·rw[zN l];refine iteT ?_;simp only[tAug,ipI];ext;refine⟨vZ (by unfold sg;split <;> decide),b1,b2,a,c,0,k,_,rfl,g.up b,d.2,D,⋯,by rw[d.1];omega,λr i _ j a4=>?_⟩;refine⟨false,false,r,_,B,rfl,a4.b,O,⋯,J,U,λa3 a0=>?_⟩;ext;have a6:=L _ I x (by rw[←R];exact L2.getD_mem ⋯);have a9:=Ja (n+1) _ ⋯ ⋯ O J;refine⟨yC (m:=B+1) (n:=(n+1)*(B+2)+1) (nK ?_) (nK ?_) ?_,?_⟩
      ·rw[xT,Jc,Nat.one_mul,pE];omega
      ·rw[pE];have:=wU ((n+1)*(B+2));omega
      ·have:(n+1)*(B+2)<=4*1000002:=vD ⋯ ⋯;omega
      ·refine y a3 _ ((b.trans j).trans a0) ?_;show _=altS f k+sg k*f k;rw[G,Int.mul_assoc]
    ·rintro u e ⟨v3,o,rfl,b⟩;symm;rw[zqe,a5];have:altS f (n+2)=detM (n+2) c:=by rw[←hf];rfl
     rw[this];exact N e b
theorem ok_i(T:Txt K mg t):FnOk P w K mg base CX0 1 t.a_i t.d_i ["size"] sp_i:=by
 apply T.F_i.ok sc_i
 ·obtain⟨n,rfl,p,O⟩:=h;refine⟨_,(oP (nA (kU (xs:=["i"]) (fr:=[("size",0)]) (g:=(oU 0)) (tt:=(tEl (nW (mH (oV (tVar 1) tNil)) (oU 0) (tEl (tIf (fD (tOp (rI0 λi j=>.bl (decide (i=j))) (tVar 1) (tVar 0))) (tC (.int 1)) (tC (.int 0)))) 1 [("i",0)]))) (lD (sc:=oO Al) (N:=N_i) rfl rfl (nofun)) rfl (lJ rfl T.z_range (oK (pq 0) oM)) (λ_ _ _ a=>(jO (N:=["i","size"]) (i:=0) a rfl (nofun) rfl)) (λ_ _ _ a=>(lP (nR (N:=["i","size"]) (fr:=[("i",0)]) (te:=(tIf (fD (tOp (rI0 λi j=>.bl (decide (i=j))) (tVar 1) (tVar 0))) (tC (.int 1)) (tC (.int 0)))) a rfl (nofun) rfl (nofun) (lJ rfl T.z_range (oK (pv 1) oM)) (λ_ _ _ U=>(Fh (nL jM (pv 1) (pv 0) (nJ _)) oW oW)))))))),?_⟩;show tRet _ _ [some (.int n)] H;ext;refine nF λB eB=>?_;simp only[mH];ext;refine⟨⋯,⋯,λc u=>?_⟩;rw[zV];refine kC (RowR c λi=>(List.range n).map λk=>if i=k then(1:Int) else 0) u p (RowR.mono (a:=c)) ?_ ?_
  ·intro i d zs hi l R L G;subst eB;show nW _ _ _ _ _ [some (.int (0+(i:Int))),some (.int n)] d L;refine nF λB eB=>?_;simp only[mH];ext;refine⟨⋯,⋯,λJ v=>?_⟩;rw[zV];refine kC (λk y _=>k<n/\y=.int (if i=k then 1 else 0)) v p (λ_ _ _ _ r _=>r) ?_ ?_
   ·intro k q S m f W C o;subst eB;show tIf _ _ _ [some (.int (0+(k:Int))),some (.int (0+(i:Int)))] q C;ext
    by_cases z:i=k
    ·rw[zL ⋯];exact iteT (o _ _ (Same.refl _) ⟨m,by rw[zG z]⟩)
    ·rw[zN ⋯];exact iteF (o _ _ (Same.refl _) ⟨m,by rw[zF z]⟩)
   ·intro q ys f x b D;have I:ys=((List.range n).map λk=>if i=k then(1:Int) else 0).map V.int:=by
     refine mD (by simpa using b) λj y e=>?_;obtain⟨N,rfl⟩:=D j y e;exact⟨_,by rw[zD,yP N];rfl,rfl⟩
    subst I;exact G _ _ f ⟨J,rfl,yA (mE R v),x⟩
  ·intro d ys l M b F;have g:=MatL.of M F;rw[b]at g;exact O c d u l g
theorem Er{H:Hp}{a f:Addr}{M:LM}{T:St}{Q:VK}{b1 b2:Bool}(C:MatB b1 b2 K H a M)(hl:M.length<=1000)(m:H f=none)
  (D:∀b zs,Same H b->b f=some (.lst zs)->(∀l,b l=none->MatB true true K (upd b l (.tup zs)) l M)->Q (.ref f) b):kB (Its K b1 a) (oU 0) (tEl (tCB (gG K) (oV (tVar 0) tNil))) 1 [] T f H Q:=by
 cases b2 with
 |false =>
  refine Qb C hl m λb c F=>?_;obtain⟨zs,d,_⟩:=id F;refine D b _ c d λl k=>?_;obtain⟨a1,o,J⟩:=F.tuple (K:=K) k;rw[d]at o;cases o;exact J
 | true =>
  obtain⟨xs,U,a3,Y⟩:=C.walk;refine nO (λj y _=>∃p r,y=.ref p/\M[j]?=some r/\SqB true K H p (r.map V.int)) m U ⋯ (λ_ _ _ _ r _=>r) ?_ ?_
  ·intro i x b zs N c a4 a2 L;obtain⟨p,r,rfl,W,v⟩:=Y i x N;exact⟨_,rfl,p,_,rfl,.inr ⟨v.up c,L _ _ (Same.refl _) ⟨p,r,rfl,W,v⟩⟩⟩
  ·intro b ys c e1 n u;have R:∃ps:LA,ys=ps.map V.ref:=by
    clear e1 n;have:∀(zs:List V),(∀(j:Nat) y,zs[j]?=some y->∃p:Addr,y=.ref p)->∃ps:LA,zs=ps.map V.ref:=by
     intro zs
     induction zs with
     |nil=>intro _;exact⟨[],rfl⟩
     |cons z r S =>
      intro d;obtain⟨p,e⟩:=d 0 z rfl;obtain⟨ps,g⟩:=S λj y q=>d (j+1) y (by simpa using q);exact⟨p:: ps,by rw[e,g];rfl⟩
    exact this ys λj y e=>let ⟨p,r,e1,_⟩:=u j y e;⟨p,e1⟩
   obtain⟨ps,rfl⟩:=R;refine D b _ c e1 λl k=>⟨ps,SqB.tup oQ,by simp at n;omega,λi p r g I=>?_⟩;obtain⟨Z,a0,O,G,X⟩:=u i (.ref p) (by simp[g]);cases O;rw[I]at G;cases G;exact X.up (c.trans (Same.new k))
theorem ok_1c(T:Txt K mg t):FnOk P w K mg base CX0 1 t.a_1c t.d_1c pC' (sp_1c K):=by
 apply T.F_1c.ok sc_1c
 ·obtain⟨b1,b2,a,p,M,ts,u,rfl,g,f,hl,k⟩:=h;refine⟨_,(oP (nA (mG (oK (mP kL rfl T.z_tuple (nofun) (oK (nR (sc:=oO s_1c) (N:=N_1c) (fr:=[]) (te:=(tCB (gG K) (oV (tVar 0) tNil))) rfl rfl (nofun) rfl (nofun) (nH (pq 0)) (λ_ _ _ y=>(mP kL rfl T.z_tuple (nofun) (oK (pv 0) oM)))) oM)) (oK (oT (pq 1)) (oK (oT (pq 1)) oM)))))),?_⟩;show tRet _ _ [some (.ref a),some (.ref p)] H;ext;exfalso;obtain⟨xs,m,_⟩:=g.walk;refine⟨b1,⟨_,m⟩,λo j=>?_⟩;subst eB;refine Er g ⋯ j λi zs n r b=>?_;refine⟨o,_,rfl,.inl ⟨SqL.of r,λl e=>?_⟩⟩;have c:Same H (upd i l (.tup zs)):=n.trans (Same.new e);replace b:=b l e;generalize upd i l (.tup zs)=z at c b;refine jP (f.up c) λx v=>iP (f.up c) ⟨(by show 3<=sizeLine;decide),λq d=>k q _ (c.trans (Same.new d)) ⟨l,x,oQ,b.up (Same.new d),Same.new d _ _ v⟩⟩
theorem ok_1t(T:Txt K mg t):FnOk P w K mg base CX0 2 t.a_1t t.d_1t pM' (sp_1t K):=by
 have i:=@ok_1c P w K mg base t T;have z:=@ok_w P w K mg base t T;apply T.F_1t.ok sc_1t
 ·obtain⟨p,M,ts,u,rfl,b,hl,r,v,j⟩:=h;refine⟨_,(oP (nA (oS i hr.mo T.F_1c (oK (oT (pq 0)) (oK (oS z hr.mo T.F_w (oK (mG (oK (oT (pq 0)) (oK (oT (pq 0)) oM))) oM)) oM))))),?_⟩;show tRet _ _ [some (.ref p)] H;ext;refine iN b λx o=>cX b λy g=>dC b ⟨(by show 2<=sizeLine;decide),λl k=>?_⟩;have a:Same H (upd H l (.tup [.ref y,.int u])):=Same.new k;refine⟨l,ts,u,rfl,⟨y,SqT.of oQ,mL a _ _ g⟩,r,v,λe C c m=>?_⟩;exact⟨true,true,x,e,M,_,u,rfl,o.up (a.trans c),m,hl,λq n d f=>j q n ((a.trans c).trans d) f⟩
theorem ok_1m(T:Txt K mg t):FnOk P w K mg base CX0 3 t.a_1m t.d_1m ["one","spot"] (sp_1m K):=by
 have X:=@ok_1v P w K mg base t T;have b0:=@ok_11 P w K mg base t T;apply T.F_1m.ok sc_1m
 ·obtain⟨p,q,M,ts,ns,u,v,d,rfl,f,C,a,c2,c5,c0,N,l,G,b2⟩:=h;refine⟨_,(oN (fH (i:=2) (xs:=["row","top"]) (fr:=[("one",0),("spot",1)]) (g:=(gTup K 2 (nV (oU 0) (nV (oU 1) gNil)))) (tt:=(tEl (tOp (rI0 λi j=>.int (i+j)) (tOp (rI (λi j=>IntMulOk i j) λi j=>.int (i*j)) (mC (sp_1v K) [] E0 (oV (tVar 0) (oV (tOp (rIxB K) (tVar 3) (tC (.int 0))) tNil))) (tOp (rIxB K) (tVar 2) (tC (.int 2)))) (tOp (rI (λi j=>IntMulOk i j) λi j=>.int (i*j)) (tVar 1) (tOp (rIxB K) (tVar 3) (tC (.int 1))))))) (lD (sc:=oO s_1m) (N:=N_1m) rfl rfl (nofun)) rfl sc_1m.nd rfl rfl (Cq rfl T.z_zip (oK (oT (pq 0)) (oK (oT (pq 0)) oM))) (λ_ _ _ g=>(lY rfl (nU (kX (N:=["row","top","one","spot"]) (i:=0) g rfl (nofun)) (nU (kX (N:=["row","top","one","spot"]) (i:=1) g rfl (nofun)) lW)))) (λ_ _ _ g=>(lP (oR lK (oR mF (oS X hr.mo T.F_1v (oK (pv 0) (oK (oT (pv 3)) oM))) (oT (pv 2))) (oR mF (pv 1) (oT (pv 3)))))))
   (oP (nA (kK b0 hr.mo rfl T.F_11.m T.F_11.kp T.F_11.b .nil jG (oK (pq 2) (oK (oR mF (oT (pq 0)) (oT (pq 1))) oM)))))),?_⟩
  show tSeq _ _ _ [some (.ref p),some (.ref q),none] H;right;refine nF λB eB=>?_;simp only[iZip];ext;refine iN f λx a0=>cX f λy L=>?_;obtain⟨xs,O,I,b7⟩:=a0.walk;refine⟨true,true,x,rfl,y,rfl,⟨_,O⟩,⟨_,(L:SqB true K H y _)⟩,λY W=>?_⟩;have b6:∀(i:Nat)(r:LI')(tt:Int),M[i]?=some r->ts[i]?=some tt->(movT M ts u ns v)[i]?=some (dotI r ns*u+tt*v):=λi r tt e1 D=>by
   unfold movT;rw[xB,e1,D]
  refine Co (λj z _=>∃n,(movT M ts u ns v)[j]?=some n/\z=.int n) W O ((L:SqB true K H y _)) (by rw[I,a.sq.1,zqe,a.len]) (by rw[I,a.sq.1];omega) (λ_ _ _ _ r _=>r) ?_ ?_
  ·intro i a3 c1 F zs b3 a5 b c4 a7 a1;obtain⟨R,r,rfl,k,a8⟩:=b7 i a3 b3;obtain⟨tt,J,rfl⟩:=mS a5;have b9:r.length=d:=a.sq.2 r (zqb k);have S:=a.bm r (zqb k);subst eB;show tOp _ _ _ [some (.ref R),some (.int tt),some (.ref p),some (.ref q)] F a7;ext;refine Et (C.up b) λz Z=>?_;refine⟨true,true,R,z,r,ns,rfl,a8.up b,(Z:SqB true K F z _),⋯,⋯,λc3 m n e1 D=>yC (nK (S m (zqb e1))) (nK (N n (zqb D))) ∅,λU c=>?_⟩;refine dC (f.up (b.trans c)) ?_;ext;have b8:=Kz r ns S N;have b5:(dotI r ns).natAbs<2^400010:=by
    have:r.length*2^(200000+200000)<=4*2^(200000+200000):=wE _ ⋯;have e:(2:Nat)^400010=1024*2^(200000+200000):=by rw[show(400010:Nat)=10+(200000+200000) from rfl,vE]
    have:=wU (200000+200000);omega
   refine⟨yC (nK b5) (nK (dD a.pos a.bu)) ∅,?_⟩;refine cW (C.up (b.trans c)) ?_;ext;refine⟨yC (nK (a.bt tt (zqb J))) (nK (dD l G)) ∅,?_⟩;exact a1 _ _ c ⟨_,b6 i r tt k J,rfl⟩
  ·intro F zs b a2 a9 a6;have o:(movT M ts u ns v).length=d:=by unfold movT;rw[xC,a.sq.1,a.len];omega
   have a4:zs=(movT M ts u ns v).map V.int:=mD (by rw[a9,I,a.sq.1,o]) a6;subst a4;symm;refine dC (f.up b) ?_;refine cW (C.up b) ?_;ext;have b1:=Vz a.pos a.bu l G;refine⟨yC (nK (dD a.pos a.bu)) (nK (dD l G)) ∅,?_⟩;refine⟨false,Y,_,_,rfl,SqB.lst a2,⋯,b1.1,λz=>?_,λ_ _ r U c b4=>b2 r U (b.trans c) b4⟩;rcases z with z|z
   ·omega
   ·rw[z]at o;simp at o;omega
theorem ok_1i(T:Txt K mg t):FnOk P w K mg base CX0 4 t.a_1i t.d_1i pB' (sp_1i K):=by
 have b1:=@ok_1v P w K mg base t T;have c6:=@ok_1g P w K mg base t T;have b7:=@ok_1m P w K mg base t T;have e5:=@ok_1c P w K mg base t T;apply T.F_1i.ok sc_1i
 ·obtain⟨p,q,M,N,ts,ns,u,v,d,rfl,S,a7,a,g,d7,c5,d8⟩:=h;refine⟨_,(oN (oY (i:=2) sc_1i.nd rfl (Or.inr rfl) (oS c6 hr.mo T.F_1g (oK (oT (pq 0)) oM)))
   (oN (fH (i:=3) (xs:=["row"]) (fr:=[("columns",2)]) (g:=(oU 0)) (tt:=(tEl (nW (iSeq K (tVar 1)) (oU 0) (tEl (mC (sp_1v K) [] E0 (oV (tVar 1) (oV (tVar 0) tNil)))) 1 [("row",0)]))) (lD (sc:=oO s_1i) (N:=N_1i) rfl rfl (nofun)) rfl sc_1i.nd rfl rfl (nH (oT (pq 1))) (λ_ _ _ O=>(jO (N:=["row","columns"]) (i:=0) O rfl (nofun) rfl)) (λ_ _ _ O=>(lP (nR (N:=["row","columns"]) (fr:=[("row",0)]) (te:=(mC (sp_1v K) [] E0 (oV (tVar 1) (oV (tVar 0) tNil)))) O rfl (nofun) rfl (nofun) (nH (pv 1)) (λ_ _ _ f7=>(oS b1 hr.mo T.F_1v (oK (pv 1) (oK (pv 0) oM))))))))
   (oP (nA (oS e5 hr.mo T.F_1c (oK (pq 3) (oK (oS b7 hr.mo T.F_1m (oK (pq 1) (oK (mG (oK (oT (pq 0)) (oK (oT (pq 0)) oM))) oM))) oM))))))),?_⟩
  show tSeq _ _ _ [some (.ref p),some (.ref q),none,none] H;right;have e3:M≠[]:=λz=>by have:=a.sq.1;rw[z]at this;simp at this;omega
  refine iN S λx c7=>⟨true,true,x,M,d,rfl,c7,e3,a.sq.2,⋯,by rw[a.sq.1];omega,λc f1 e9 a4 e2=>?_⟩;left;exfalso;refine iN (a7.up a4) λy b0=>?_;obtain⟨xs,a1,a3,e8⟩:=b0.walk;refine⟨true,y,rfl,⟨_,a1⟩,λJ d1=>?_⟩;refine nO (RowR J λj=>(List.range d).map λk=>dotI (N.getD j []) (colI k M)) d1 a1 (by rw[a3,g.sq.1];omega) (RowR.mono (a:=J)) ?_ ?_
  ·intro i x D zs b6 I d0 b8 b5;obtain⟨W,r,rfl,X,c0⟩:=e8 i x b6;have d3:N.getD i []=r:=by rw[zqc,X];rfl
   have d9:r.length=d:=g.sq.2 r (zqb X);have c4:=g.bm r (zqb X);subst eB;show nW _ _ _ _ _ [some (.ref W),some (.ref c)] D b8;exfalso;obtain⟨f4,Z,f3,e6⟩:=((e2.up I).b (K:=K)).walk;refine⟨false,⟨_,Z⟩,λe4 a2=>?_⟩;have f6:(gH d M).length=d:=by simp[gH]
   refine nO (λj y _=>y=.int (dotI r (colI j M))/\j<d) a2 Z ⋯ (λ_ _ _ _ r _=>r) ?_ ?_
   ·intro j y a9 f0 L b f2 d2 b9;obtain⟨a6,col,rfl,C,U⟩:=e6 j y L;have o:j<d:=by have:=(zqa C).1;omega
    have e7:col=colI j M:=by
     unfold gH at C;rw[zD,yP o]at C;exact(zQ C).symm
    subst eB e7;show mC _ _ _ _ [some (.ref a6),some (.ref W)] a9 d2;ext;refine⟨true,false,W,a6,r,colI j M,rfl,(c0.up I).up b,U.up b,by simp[colI,d9,a.sq.1],⋯,λc9 m n e1 f=>?_,λc1 F=>b9 _ _ F ⟨rfl,o⟩⟩;unfold colI at f;rw[zD]at f;cases eb:M[c9]? with
    |none=>rw[eb]at f;cases f
    |some R =>
     rw[eb]at f;have c3:R.getD j 0=n:=zQ f;subst c3;have Y:=zqb eb;exact yC (nK (c4 m (zqb e1))) (nK (a.bm R Y _ (L2.getD_mem (by rw[a.sq.2 R Y];exact o)))) ∅
   ·intro a9 ys b e0 a5 b3;have L:ys=((List.range d).map λk=>dotI r (colI k M)).map V.int:=by
     refine mD (by simp;omega) λj y e=>?_;obtain⟨rfl,o⟩:=b3 j y e;exact⟨_,by rw[zD,yP o];rfl,rfl⟩
    subst L;exact b5 _ _ b ⟨e4,rfl,yA (mE d0 a2),by dsimp only;rw[d3];exact e0⟩
  ·intro D ys I f a5 b4;have a0:=MatL.of f b4;have e:(List.range ys.length).map (λj=>(List.range d).map λk=>dotI (N.getD j []) (colI k M))=mulM d N M:=by
    rw[a5,a3];unfold mulM;refine xP (by simp) λi a8 f5=>?_;simp at a8;simp[a8]
   rw[e]at a0;have G:=a4.trans I;symm;refine cX (S.up G) λz d4=>dC (S.up G) ⟨(by show 2<=sizeLine;decide),λl c2=>?_⟩;have b:Same D (upd D l (.tup [.ref z,.int u])):=Same.new c2;refine⟨q,l,N,ns,ts,v,u,d,rfl,(a7.up G).up b,⟨z,SqT.of oQ,mL b _ _ d4⟩,g,d7,c5,a.len,a.bt,a.pos,a.bu,λr c1 F d6=>?_⟩;exact⟨false,false,J,r,_,_,_,rfl,((a0.up b).up F).b,d6,by simp[mulM,g.sq.1];omega,λb2 c8 d5 U=>d8 b2 c8 (((G.trans b).trans F).trans d5) U⟩
def Ep(rows:LM)(tops:LI')(u:Int):Prop:=(rows.length=2\/rows.length=3)/\(∀r∈rows,r.length=rows.length)/\tops.length=rows.length/\u≠0/\(detM rows.length rows=1\/detM rows.length rows=-1)
def sp_1r(K:Frag)(C:Addr):Sp:=λvs H Q E=>E9 λ(b1 b2 b3:Bool)(a p:Addr)(rows:LM)(tops:LI')(u:Int)(B:Nat)=>A10 (vs=[.ref a,.ref p,.int u]) (MatB b1 b2 K H a rows) (SqB b3 K H p (tops.map V.int)) (rows.length<=100) (tops.length<=100) (nY B rows) (B<=1000000) (jB u) ((¬ Ep rows tops u->∀H',Same H H'->E (.ref C) none H')) ((Ep rows tops u->∀q H',Same H H'->mX K H' q rows (redT u tops) (redU u tops)->Q (.ref q) H'))
theorem inV2(L x y:Int):inV (.int L) [.int x,.int y]=decide (L=x\/L=y):=by
 have e:inV (.int L) [.int x,.int y]=(eqV (.int x) (.int L) || (eqV (.int y) (.int L) || false)):=rfl;have f:∀a b:Int,eqV (.int a) (.int b)=decide (a=b):=λa b=>by
  first|rfl|(unfold eqV;rfl)|(simp only[eqV];by_cases h:a=b <;> simp[h])
 rw[e,f,f,Bool.or_false]
 by_cases d:x=L
 ·rw[zL d,zL (p:=L=x\/L=y) (Or.inl d.symm)];rfl
 ·rw[zN d]
  by_cases c:y=L
  ·rw[zL c,zL (p:=L=x\/L=y) (Or.inr c.symm)];rfl
  ·rw[zN c,zN (p:=L=x\/L=y) ⋯];rfl
theorem Ad{H:Hp}{Q:VK}{E:XK}{b1 b2:Bool}{a:Addr}{b:LM}{n B:Nat}(f:1<=n)(d:n<=4)(g:MatB b1 b2 K H a b)(c:Sq n b)(e:nY B b)(i:B<=1000000)(q:∀H',Same H H'->Q (.int (detM n b)) H'):sp_2 K n [.ref a] H Q E:=by
 match n,f,d,c,q with
 |m+1,_,d,c,q=>exact⟨b1,b2,a,b,B,rfl,g,c,⋯,e,i,q⟩
theorem ok_1r(T:Txt K mg t):FnOk P w K mg base (CX1 P w) 6 t.a_1r t.d_1r pp' (sp_1r K t.a_1z):=by
 have c4:=@ok_11 P w K mg base t T;have c0:=@ok_1c P w K mg base t T;refine T.F_1r.okX sc_1r (λvs H Q E h=>?_) (λcdv A outer s H vs Q E hr h=>?_)
 ·obtain⟨b1,b2,Z,a,p,c,L,u,B,rfl,_⟩:=h;rfl
 ·obtain⟨b1,b2,Z,a,p,c,L,u,B,rfl,l,S,c9,d2,a7,d3,a3,e,c7⟩:=h;obtain⟨n,d8,J⟩:∃n:Nat,n<=3/\((c.length=2\/c.length=3)->n=c.length):=by
   by_cases z:c.length=2\/c.length=3
   ·exact⟨c.length,⋯,λ_=>rfl⟩
   ·exact⟨0,⋯,λh=>absurd h z⟩
  have b5:FnOk P w K mg base CX0 (n+1) t.a_2 t.d_2 pK' (sp_2 K n):=ok_2 T n;refine⟨_,(oN (oY (i:=3) sc_1r.nd rfl (Or.inr rfl) (nQ T.z_len (pq 0)))
   (oN (nT (nL aD (pq 3) (mG (oK oW (oK oW oM))) rfl)
   (oP (fG rfl fF rfl T.m_1z T.x_1z xU (oK gZ oM)))
   nS)
   (oN (nT (PW.pt (iC (gD (mV (aZ rfl) rfl T.z_any (nofun) (oK (nR (sc:=oO s_1r) (N:=N_1r) (fr:=[("axes",3)]) (te:=(tOp (rI0 λi j=>.bl (!decide (i=j))) (tCB (kY K) (oV (tVar 0) tNil)) (tVar 1))) rfl rfl (nofun) rfl (nofun) (nH (pq 0)) (λ_ _ _ d4=>(jR kS (nQ T.z_len (pv 0)) (pv 1) (nJ _)))) oM))) (iU (nL kS (nQ T.z_len (pq 1)) (pq 3) (nJ _)))))
   (oP (fG rfl fF rfl T.m_1z T.x_1z xU (oK gZ oM)))
   nS)
   (oN (nT (nL jM (pq 2) oW (nJ _))
   (oP (fG rfl fF rfl T.m_1z T.x_1z xU (oK gZ oM)))
   nS)
   (oN (nT (nL aD (oS b5 hr.mo T.F_2 (oK (pq 0) oM)) (mG (oK oW (oK (fA fC oW) oM))) rfl)
   (oP (fG rfl fF rfl T.m_1z T.x_1z xU (oK gZ oM)))
   nS)
   (oP (nA (oS c0 hr.mo T.F_1c (oK (pq 0) (oK (kK c4 hr.mo rfl T.F_11.m T.F_11.kp T.F_11.b .nil jG (oK (pq 1) (oK (pq 2) oM))) oM)))))))))),?_⟩
  show tSeq _ _ _ [some (.ref a),some (.ref p),some (.int u),none] H;right;refine iH l ?_;subst e1;refine st λN1 e1=>?_;simp only[iV];ext;refine⟨by show 2<=sizeLine;decide,λD b4=>?_⟩;have k:Same H (upd H D (.tup [.int 2,.int 3])):=Same.new b4;refine⟨D,_,rfl,.inr (SqT.of oQ),rfl,rfl,_,rfl,?_⟩;generalize upd H D (.tup [.int 2,.int 3])=d7 at k;rw[inV2]
  by_cases I:c.length=2\/c.length=3
  case neg =>
   rw[zN ⋯];refine iteT ?_;simp only[iV];ext;exact⟨∅,e (λg=>I g.1) _ k⟩
  rw[zL ⋯];refine iteF ?_;replace J:=J I;subst J;left;refine nF λC a6=>?_;simp only[iSeq];ext;obtain⟨xs,X,d9,d1⟩:=(l.up k).walk;refine⟨b1,⟨_,X⟩,λa5 a2=>?_⟩;refine nO (λj y _=>∃r,c[j]?=some r/\y=.bl (!decide (r.length=c.length))) a2 X ⋯ (λ_ _ _ _ r _=>r) ?_ ?_
  ·intro i x a0 zs a9 G e2 b7 a8;obtain⟨c5,R,rfl,c8,c1⟩:=d1 i x a9;subst a6;show tOp _ _ _ [some (.ref c5),some (.int c.length)] a0 b7;ext;refine kM (c1.up G) ?_
   try ext
   refine a8 _ _ (Same.refl _) ⟨R,c8,?_⟩
   by_cases z:R.length=c.length
   ·rw[zL z,zL ⋯]
   ·rw[zN z,zN ⋯]
  ·intro a0 ys G c3 d5 F;have b0:ys=(c.map λr=>!decide (r.length=c.length)).map V.bl:=by
    rw[yI];exact mD ⋯ F
   subst b0;refine⟨a5,rfl,_,SqL.of c3,?_⟩
   try ext
   have d:=k.trans G
   by_cases f:∀r∈c,r.length=c.length
   case neg =>
    have O:(c.map λr=>!decide (r.length=c.length)).any id=true:=by
     rw[List.any_eq_true];obtain⟨r,hr⟩:=Classical.not_forall.mp f;obtain⟨b6,F⟩:=Classical.not_imp.mp hr;exact⟨true,pS.mpr ⟨r,b6,by rw[zN F];rfl⟩,rfl⟩
    rw[O];refine iteT ?_;simp only[iV];ext;exact⟨∅,e (λg=>f g.2.1) _ d⟩
   have O:(c.map λr=>!decide (r.length=c.length)).any id=false:=by
    rw[sI];intro b b8;obtain⟨r,hr,rfl⟩:=pS.mp b8;rw[zL (f r hr)]
    decide
   rw[O];refine iteF ?_;refine kM (S.up d) ?_
   try ext
   by_cases o:L.length=c.length
   case neg =>
    rw[zN ⋯];refine iteT ?_;simp only[iV];ext;exact⟨∅,e (λg=>o g.2.2.1) _ d⟩
   rw[zL ⋯];refine iteF ?_;subst e1;refine st λN1 e1=>?_;simp only[iV];ext;refine ite2 (λz=>⟨∅,e (λg=>g.2.2.2.1 (yM z)) _ d⟩) (λz=>?_);have U:u≠0:=λq=>z (zL q);left;refine Ad ⋯ ⋯ (l.up d) ⟨rfl,f⟩ a7 d3 λM a1=>?_
   try ext
   refine⟨by show 2<=sizeLine;decide,λN d0=>?_⟩;have Y:Same M (upd M N (.tup [.int 1,.int (-1)])):=Same.new d0;refine⟨N,_,rfl,.inr (SqT.of oQ),rfl,rfl,_,rfl,?_⟩;generalize upd M N (.tup [.int 1,.int (-1)])=e0 at Y;have m:=(d.trans a1).trans Y;rw[inV2]
   by_cases v:detM c.length c=1\/detM c.length c=-1
   case neg =>
    rw[zN v];refine iteT ?_;simp only[iV];ext;exact⟨∅,e (λg=>v g.2.2.2.2) _ m⟩
   rw[zL v];refine iteF ?_;symm;refine⟨Z,p,L,u,rfl,S.up m,d2,a3,λz=>?_,λ_ _ b3 d6 W c2=>⟨b1,b2,a,b3,c,_,_,rfl,l.up (m.trans W),c2,c9,λq a4 c6 b9=>c7 ⟨I,f,o,U,v⟩ q a4 ((m.trans W).trans c6) b9⟩⟩;rcases z with z|z
   ·exact absurd z U
   ·rw[z]at o;simp at o;omega
def sp_1s(K:Frag):Sp:=λvs H Q _=>E1 λ(d:Nat)=>A3 (vs=[.int d]) ((d=2\/d=3)) (∀q H',Same H H'->mX K H' q (idM d) (List.replicate d 0) 1->Q (.ref q) H')
theorem dE(ns:LI'):gl 1 ns=1:=Int.eq_one_of_dvd_one (dA 1 ns) (gl_u 1 ns)
theorem Ky{d:Nat}(b:d=2\/d=3):Ep (idM d) (List.replicate d 0) 1/\nY 1 (idM d):=by
 rcases b with rfl|rfl
 ·exact⟨⟨.inl rfl,∅,∅,∅,.inl ∅⟩,by intro r hr x a;revert r x;decide⟩
 ·exact⟨⟨.inr rfl,∅,∅,∅,.inl ∅⟩,by intro r hr x a;revert r x;decide⟩
theorem Vx:jB 1:=iO (B:=1) ∅ ∅
theorem ok_1s(T:Txt K mg t):FnOk P w K mg base CX0 8 t.a_1s t.d_1s ["d"] (sp_1s K):=by
 have o:=@ok_1r P w K mg base t T;have u:=@ok_i P w K mg base t T;apply T.F_1s.ok sc_1s
 ·obtain⟨d,rfl,i,z⟩:=h;refine⟨_,(oP (nA (kK o hr.mo rfl T.F_1r.m T.F_1r.kp T.F_1r.b .nil jG (oK (oS u hr.mo T.F_i (oK (pq 0) oM)) (oK (oR Po (lO (oK oW oM)) (pq 0)) (oK oW oM)))))),?_⟩;show tRet _ _ [some (.int d)] H;ext;refine⟨d,rfl,⋯,λr a _ p D=>?_⟩
  try ext
  refine⟨by show 1<=sizeLine;decide,λl hl=>?_⟩;have e:Same a (upd a l (.lst [.int 0])):=Same.new hl;have k:(upd a l (.lst [.int 0])) l=some (.lst [.int 0]):=oQ;generalize upd a l (.lst [.int 0])=b at e k;refine⟨l,d,_,rfl,rfl,k,⋯,⋯,?_,λl2 F=>?_⟩
  ·rw[zV];show 1*d<=sizeLine;have:3<=sizeLine:=∅
   omega
  have c:Same b (upd b l2 (.lst (List.replicate (d:Int).toNat [V.int 0]).flatten)):=Same.new F;have f:(upd b l2 (.lst (List.replicate (d:Int).toNat [V.int 0]).flatten)) l2=some (.lst ((List.replicate d (0:Int)).map V.int)):=by
   rw[oQ,zV];rcases i with rfl|rfl <;> rfl
  generalize upd b l2 (.lst (List.replicate (d:Int).toNat [V.int 0]).flatten)=G at c f;obtain⟨g,y⟩:=Ky i;have m:=Ui (u:=1) ∅ (dE (List.replicate d 0));have e1:redT 1 (List.replicate d 0)=List.replicate d 0:=m.1;have x:redU 1 (List.replicate d 0)=1:=m.2;refine⟨false,false,false,r,l2,idM d,List.replicate d 0,1,1,rfl,((D.up e).up c).b,SqB.lst f,by simp[idM];omega,by simp;omega,y,∅,Vx,λn=>absurd g n,λ_ q C v j=>?_⟩;rw[e1,x]at j;exact z q C ((p.trans (e.trans c)).trans v) j
def sp_1x(K:Frag):Sp:=λvs H Q _=>E4 λ(p:Addr)(ts:LI')(u:Int)(d:Nat)=>A7 (vs=[.ref p]) (nP H p ts u) (ts.length=d) ((d=2\/d=3)) (u≠0) (jB u) (∀q H',Same H H'->mX K H' q (idM d) (redT u ts) (redU u ts)->Q (.ref q) H')
theorem ok_1x(T:Txt K mg t):FnOk P w K mg base CX0 8 t.a_1x t.d_1x pM' (sp_1x K):=by
 have j:=@ok_1r P w K mg base t T;have l:=@ok_i P w K mg base t T;apply T.F_1x.ok sc_1x
 ·obtain⟨p,ts,u,d,rfl,a,hl,C,D,f,k⟩:=h;refine⟨_,(oP (nA (kK j hr.mo rfl T.F_1r.m T.F_1r.kp T.F_1r.b .nil jG (oK (oS l hr.mo T.F_i (oK (nQ T.z_len (oT (pq 0))) oM)) (oK (oT (pq 0)) (oK (oT (pq 0)) oM)))))),?_⟩;show tRet _ _ [some (.ref p)] H;ext;refine jP a λx y=>kM (b:=true) (SqB.tup y) ?_
  try ext
  rw[hl];refine⟨d,rfl,⋯,λr F _ b z=>?_⟩
  try ext
  refine jP (a.up b) λm e=>iP (a.up b) ?_;obtain⟨g,c⟩:=Ky C;refine⟨false,false,true,r,m,idM d,ts,u,1,rfl,z.b,SqB.tup e,by simp[idM];omega,⋯,c,∅,f,λn=>absurd ⟨g.1,g.2.1,by simp[idM,hl],D,g.2.2.2.2⟩ n,λ_ q v o i=>k q v (b.trans o) i⟩
def cY(M:LM)(ts:LI')(u:Int):PyData:=.tuple [matD true true M,jV true ts,.int u]
theorem Vw{M N:LM}{ts ns:LI'}{u v:Int}:cY M ts u=cY N ns v↔(M=N/\ts=ns/\u=v):=by
 unfold cY;simp only[PyData.tuple.injEq,List.cons.injEq,PyData.int.injEq,and_true,Qh,aR]
theorem Dt.deed{K:Frag}{H:Hp}{p:Addr}{M:LM}{ts:LI'}{u:Int}(h:mX K H p M ts u):Dt K H (.ref p) (cY M ts u):=by
 obtain⟨d,pt,b,c,a⟩:=h;exact .tup (SqT.of b) (.cons (Dt.matB c) (.cons (Dt.intsB (SqB.tup a)) (.cons (.int u) .nil)))
abbrev Dd:=LM×List Int×Int
def dat(x:Dd):PyData:=cY x.1 x.2.1 x.2.2
theorem hJ{x y:Dd}:dat x=dat y↔x=y:=by
 obtain⟨M,ts,u⟩:=x;obtain⟨N,ns,v⟩:=y;unfold dat;rw[Vw];simp
theorem Ac{n:Nat}{ds:List PyData}:tT (n+1) (.tuple ds)=ds.all (tT n):=rfl
theorem kI(x:Dd):tT 4 (dat x)=true:=by
 obtain⟨M,ts,u⟩:=x;have hi:∀(n:Nat)(l:LI'),(l.map PyData.int).all (tT n)=true:=λn l=>by
  rw[wR];intro d a;obtain⟨i,_,rfl⟩:=pS.mp a;cases n <;> rfl
 show tT 4 (.tuple [.tuple (M.map λr=>.tuple (r.map PyData.int)),.tuple (ts.map PyData.int),.int u])=true;rw[Ac,xJ,xJ,xJ,Ac,Ac,hi];have:(M.map λr=>PyData.tuple (r.map PyData.int)).all (tT 2)=true:=by
  rw[wR];intro d a;obtain⟨r,_,rfl⟩:=pS.mp a;rw[Ac];exact hi 1 r
 rw[this];rfl
def DdAt(K:Frag)(H:Hp)(p:Addr)(x:Dd):Prop:=mX K H p x.1 x.2.1 x.2.2
theorem DdAt.up{K:Frag}{H H':Hp}{p:Addr}{x:Dd}(h:DdAt K H p x)(s:Same H H'):DdAt K H' p x:=mX.up h s
abbrev DdS(K:Frag)(H:Hp)(p:Addr)(x:Dd):Prop:=jC K H p x.1 x.2.1 x.2.2
theorem DdS.up{K:Frag}{H H':Hp}{p:Addr}{x:Dd}(h:DdS K H p x)(s:Same H H'):DdS K H' p x:=jC.up h s
theorem DdAt.s{K:Frag}{H:Hp}{p:Addr}{x:Dd}(h:DdAt K H p x):DdS K H p x:=mX.s h
theorem DdAt.dt{K:Frag}{H:Hp}{p:Addr}{x:Dd}(h:DdAt K H p x):Dt K H (.ref p) (dat x):=Dt.deed h
def oZ(x:Dd):Dd:=(x.1,mJ x.2.2 x.2.1,x.2.2)
def behD(d:Nat)(x s:Dd):Dd:=(mulM d s.1 x.1,redT (s.2.2*x.2.2) (movT s.1 s.2.1 s.2.2 x.2.1 x.2.2),redU (s.2.2*x.2.2) (movT s.1 s.2.1 s.2.2 x.2.1 x.2.2))
def nD(d:Nat)(x s:Dd):Dd:=oZ (behD d x s)
def oX(d:Nat):Dd:=(idM d,List.replicate d 0,1)
abbrev Tb:=List (Dd×List Nat)
def nxt(d:Nat)(x:Dd)(w:List Nat)(tb:Tb)(ks:Dd×Nat):Tb:=if nD d x ks.1∈tb.map (·.1) then tb else tb++[(nD d x ks.1,w++[ks.2])]
def jD(d:Nat)(ss:List Dd)(tb:Tb)(i:Nat):Tb:=match tb[i]? with
 |none=>tb
 |some xw=>ss.zipIdx.foldl (nxt d xw.1 xw.2) tb
def nZ(d:Nat)(ss:List Dd):Nat->Nat->Tb->Tb
 |0,_,tb=>tb
 |n+1,i,tb=>if i<tb.length then nZ d ss n (i+1) (jD d ss tb i) else tb
theorem Vv(d:Nat)(x:Dd)(w:List Nat)(tb:Tb)(a:Dd×Nat):∃r,nxt d x w tb a=tb++r:=by
 unfold nxt;split
 ·exact⟨[],by simp⟩
 ·exact⟨_,rfl⟩
theorem cZ(d:Nat)(x:Dd)(w:List Nat):∀(l:List (Dd×Nat))(tb:Tb),∃r,l.foldl (nxt d x w) tb=tb++r
 |[],tb=>⟨[],by simp⟩
 |k:: l,tb=>by
  obtain⟨a,e1⟩:=Vv d x w tb k;obtain⟨c,b⟩:=cZ d x w l (nxt d x w tb k);exact⟨a++c,by rw[wL,b,e1,yN]⟩
theorem Kx(d:Nat)(ss:List Dd)(tb:Tb)(i:Nat):∃r,jD d ss tb i=tb++r:=by
 unfold jD;split
 ·exact⟨[],by simp⟩
 ·exact cZ ..
theorem Ab(d:Nat)(ss:List Dd):∀(n i:Nat)(tb:Tb),∃r,nZ d ss n i tb=tb++r
 |0,i,tb=>⟨[],by simp[nZ]⟩
 |n+1,i,tb=>by
  unfold nZ;split
  ·obtain⟨a,e1⟩:=Kx d ss tb i;obtain⟨c,b⟩:=Ab d ss n (i+1) (jD d ss tb i);exact⟨a++c,by rw[b,e1,yN]⟩
  ·exact⟨[],by simp⟩
def lC(d:Nat)(x:Dd):Prop:=Fine d x.1 x.2.1 x.2.2
def TbAt(H:Hp)(tb:Tb)(kvs:List (PyData×V)):Prop:=Paired (λ(x:Dd×List Nat)(kv:PyData×V)=>kv.1=dat x.1/\∃p,kv.2=.ref p/\H p=some (.lst (x.2.map λn=>V.int (n:Nat)))) tb kvs
def sp_1f(K:Frag):Sp:=λvs H Q _=>E8 λ(b:Bool)(d:Nat)(a:Addr)(ps:LA)(ms:List Dd)(most:Nat)(G:Dd->Prop)(N:Nat)=>A14 (vs=[.int d,.ref a,.int most]) ((d=2\/d=3)) (SqB b K H a (ps.map V.ref)) (Paired (DdS K H) ps ms) (ms.length<=200) ((∀s∈ms,lC d s)) ((∀s∈ms,lC d (oZ s))) ((∀x,G x->lC d x)) (G (oX d)) ((∀x s,G x->s∈ms->G (nD d x (oZ s)))) (most<=200) ((nZ d (ms.map oZ) N 0 [(oX d,[])]).length<=most) ((nZ d (ms.map oZ) N 0 [(oX d,[])]).length<=N) (∀w kvs H',Same H H'->H w=none->DTr K H' w kvs->TbAt H' (nZ d (ms.map oZ) N 0 [(oX d,[])]) kvs->Q (.ref w) H')
def sp_t:Sp:=λvs H Q _=>E1 λ(n:Nat)=>A4 (vs=[.int n]) (1<=n) (n<=200) (Q .non H)
def sp_z(K:Frag):Sp:=λvs H Q _=>E5 λ(b:Bool)(d:Nat)(a:Addr)(ps:LA)(ms:List Dd)=>A6 (vs=[.int d,.ref a]) ((d=2\/d=3)) (SqB b K H a (ps.map V.ref)) (Paired (DdS K H) ps ms) ((∀s∈ms,s.1.length=d)) (∀H',Same H H'->Q .non H')
theorem bD{prog:Program}{w:World}:∀n,n<=200->gL prog w n:=λn _=>Ty n
theorem Kw{K:Frag}{H:Hp}{a b:Addr}{kvs:List (PyData×V)}{k:PyData}{v:V}{Q:VK}(g:DTr K H a kvs)(t:tT 4 k=true)(d:Dt K H (.ref b) k)(e:vT kvs k=some v)(q:Q v H):Cl K (.ref a) (.ref b) H Q:=⟨a,kvs,b,k,v,rfl,rfl,g,t,d,e,q⟩
theorem Vu{K:Frag}{H:Hp}{a b:Addr}{kvs:List (PyData×V)}{k:PyData}{neg:Bool}{Q:VK}(g:DTr K H a kvs)(t:tT 4 k=true)(d:Dt K H (.ref b) k)(q:Q (.bl (if neg=true then !(vT kvs k).isSome else(vT kvs k).isSome)) H):rInT K neg (.ref b) (.ref a) H Q:=⟨a,kvs,b,k,rfl,rfl,g,t,d,q⟩
theorem mY{b a:Type}{f:b->a}{l:List b}{i:Nat}{y:a}(h:(l.map f)[i]?=some y):∃x,l[i]?=some x/\y=f x:=by
 rw[zD]at h;cases hx:l[i]? with
 |none=>rw[hx]at h;cases h
 |some x=>rw[hx]at h;exact⟨x,rfl,(zQ h).symm⟩
structure TK(K:Frag)(H H':Hp):Prop where
 k:∀b xs,H b=some (.tup xs)->H' b=some (.tup xs)
 t:∀b xs,SqT K H b xs->SqT K H' b xs
theorem TK.trans{K:Frag}{H d f:Hp}(a:TK K H d)(b:TK K d f):TK K H f:=⟨λc xs e=>b.k _ _ (a.k _ _ e),λc xs e=>b.t _ _ (a.t _ _ e)⟩
theorem TK.off{K:Frag}{H H':Hp}{a:Addr}{o:HO}(e:H a=some o)(g:∀xs,o≠.tup xs)(f:∀d u,o≠.frz d u)(h:∀c,c≠a->H' c=H c):TK K H H':=by
 have k:∀b xs,H b=some (.tup xs)->H' b=some (.tup xs):=λb xs q=>by
  rw[h b λz=>g xs (by rw[z,e]at q;exact zQ q)];exact q
 refine⟨k,λb xs q=>?_⟩;rcases q with(q|⟨d,q⟩)|q
 ·exact .inl (.inl (k _ _ q))
 ·exact .inl (.inr ⟨d,by rw[h b λz=>f _ _ (by rw[z,e]at q;exact zQ q)];exact q⟩)
 ·exact .inr q
theorem MatB.tk{K:Frag}{H H':Hp}{a:Addr}{M:LM}(h:MatB true true K H a M)(s:TK K H H'):MatB true true K H' a M:=let ⟨ps,d,e,c⟩:=h;⟨ps,s.t _ _ d,e,λi p r e1 b=>s.t _ _ (c i p r e1 b)⟩
theorem DdAt.tk{K:Frag}{H H':Hp}{p:Addr}{x:Dd}(h:DdAt K H p x)(s:TK K H H'):DdAt K H' p x:=let ⟨c,pt,b,d,a⟩:=h;⟨c,pt,s.k _ _ b,MatB.tk d s,s.k _ _ a⟩
theorem DdS.tk{K:Frag}{H H':Hp}{p:Addr}{x:Dd}(h:DdS K H p x)(s:TK K H H'):DdS K H' p x:=let ⟨c,pt,b,d,a⟩:=h;⟨c,pt,s.t _ _ b,MatB.tk d s,s.t _ _ a⟩
theorem DTr.tk{K:Frag}{H H':Hp}{a:Addr}{kvs:List (PyData×V)}(h:DTr K H a kvs)(s:TK K H H')(e:H' a=H a):DTr K H' a kvs:=by
 obtain⟨l,y,xs,b,n,r⟩:=h;exact⟨l,y,xs,e.trans b,n,r.keeps s.t⟩
structure CI(K:Frag)(H0:Hp)(qs:LA)(ss:List Dd)(as af aw:Addr)(tb:Tb)(H:Hp):Prop where
 s:∀b o,H0 b=some o->H b=some o
 st:H as=some (.lst (qs.map V.ref))/\Paired (DdAt K H) qs ss
 fo:∃fs,H af=some (.lst (fs.map V.ref))/\Paired (λp(x:Dd×List Nat)=>DdAt K H p x.1) fs tb
 wo:∃kvs,DTr K H aw kvs/\Paired (λ(x:Dd×List Nat)(kv:PyData×V)=>kv.1=dat x.1/\∃p,kv.2=.ref p/\p≠af/\H p=some (.lst (x.2.map λn=>V.int (n:Nat)))) tb kvs
 n1:H0 as=none
 n2:H0 af=none
 n3:H0 aw=none
 x1:as≠af
theorem CI.up{K:Frag}{f H H':Hp}{d:LA}{ss:List Dd}{as c a:Addr}{tb:Tb}(h:CI K f d ss as c a tb H)(s:Same H H'):CI K f d ss as c a tb H':=by
 obtain⟨u,⟨b1,b2⟩,⟨fs,n,l⟩,⟨kvs,x,k⟩,v,y,g,q⟩:=h;exact⟨λb o e=>s _ _ (u _ _ e),⟨s _ _ b1,Paired.mapP b2 λ_ _ z=>z.up s⟩,⟨fs,s _ _ n,Paired.mapP l λ_ _ z=>z.up s⟩,⟨kvs,x.up s,Paired.mapP k λ_ _ z=>let ⟨r,p,j,m,i⟩:=z;⟨r,p,j,m,s _ _ i⟩⟩,v,y,g,q⟩
theorem Kv{H:Hp}{d:Addr}{x:Dd}:∀{tb:Tb}{kvs:List (PyData×V)},Paired (λ(x:Dd×List Nat)(a:PyData×V)=>a.1=dat x.1/\∃p,a.2=.ref p/\p≠d/\H p=some (.lst (x.2.map λn=>V.int (n:Nat)))) tb kvs ->
  (x∉tb.map (·.1)/\vT kvs (dat x)=none)\/∃w p,(x,w)∈tb/\vT kvs (dat x)=some (.ref p)/\p≠d/\H p=some (.lst (w.map λn=>V.int (n:Nat))):=by
 intro tb kvs h
 induction h with
 |nil=>exact .inl ⟨by simp,rfl⟩
 | @cons y a tb kvs g _ j =>
  obtain⟨e1,p,k,i,e⟩:=g
  by_cases z:y.1=x
  ·refine .inr ⟨y.2,p,by rw[←z];exact .head _,?_,i,e⟩;rw[eK (by rw[e1,z]),k]
  ·have f:¬ a.1=dat x:=λq=>z (hJ.mp (e1.symm.trans q));rw[fL f];rcases j with⟨c,b⟩|⟨w,p,c,b⟩
   ·exact .inl ⟨by rw[zK,xE,not_or];exact⟨λq=>z q.symm,c⟩,b⟩
   ·exact .inr ⟨w,p,.tail _ c,b⟩
theorem Ku{d:Nat}{x:Dd}{w:List Nat}{tb:Tb}{c:Dd×Nat}(h:(tb.map (·.1)).Nodup):((nxt d x w tb c).map (·.1)).Nodup:=by
 unfold nxt;split
 ·exact h
 ·next q =>
  rw[yV,List.nodup_append];refine⟨h,by simp,λy b z a=>?_⟩;simp only[List.map_cons,List.map_nil,List.mem_singleton]at a;rw[a];exactλe=>q (e ▸ b)
theorem Kt{d:Nat}{x:Dd}{w:List Nat}:∀(l:List (Dd×Nat))(tb:Tb),(tb.map (·.1)).Nodup->((l.foldl (nxt d x w) tb).map (·.1)).Nodup
 |[],_,h=>h
 |k:: l,tb,h=>Kt l _ (Ku h)
theorem Ks{d:Nat}{x:Dd}{w:List Nat}{tb:Tb}{b:Dd×Nat}{G:Dd->Prop}(h:∀y∈tb,G y.1)(c:G (nD d x b.1)):∀y∈nxt d x w tb b,G y.1:=by
 unfold nxt;split
 ·exact h
 ·intro y a;rcases oA.mp a with a|a
  ·exact h y a
  ·rw[pY.mp a];exact c
theorem Vt{tb:Tb}(h:(tb.map (·.1)).Nodup){i:Nat}{x:Dd}{w b:List Nat}(e:tb[i]?=some (x,w))(m:(x,b)∈tb):w=b:=by
 obtain⟨j,a⟩:=yX m;have e1:(tb.map (·.1))[i]?=some x:=by rw[zD,e];rfl
 have c:(tb.map (·.1))[j]?=some x:=by rw[zD,a];rfl
 have hi:i<(tb.map (·.1)).length:=(zqa e1).1;have:i=j:=(uN hi h).mp (e1.trans c.symm);subst this;rw[e]at a;cases a;rfl
theorem Vs{d:Nat}{ss:List Dd}{n i:Nat}{tb:Tb}(h:tb.length<=i):nZ d ss n i tb=tb:=by
 cases n with
 |zero=>rfl
 |succ n=>unfold nZ;rw[zF ⋯]
theorem Vr{d:Nat}{ss:List Dd}{n i:Nat}{tb:Tb}(h:i<tb.length)(a:0<n):nZ d ss n i tb=nZ d ss (n-1) (i+1) (jD d ss tb i):=by
 obtain⟨m,rfl⟩:∃m,n=m+1:=⟨n-1,⋯⟩;show(if i<tb.length then _ else _)=_;rw[zG h];rfl
theorem Vq{d:Nat}{ss:List Dd}{tb:Tb}{i:Nat}{x:Dd}{w:List Nat}(e:tb[i]?=some (x,w)):jD d ss tb i=ss.zipIdx.foldl (nxt d x w) tb:=by
 unfold jD;rw[e]
def part(d:Nat)(x:Dd)(w:List Nat)(ss:List Dd)(tb:Tb)(i:Nat):Tb:=(ss.zipIdx.take i).foldl (nxt d x w) tb
theorem Aa{d:Nat}{x s:Dd}{w:List Nat}{ss:List Dd}{tb:Tb}{i:Nat}(e:ss[i]?=some s):part d x w ss tb (i+1)=nxt d x w (part d x w ss tb i) (s,i):=by
 unfold part;rw[wY,rJ,e,uL];simp
theorem Vp{d:Nat}{x:Dd}{w:List Nat}{ss:List Dd}{tb:Tb}:part d x w ss tb ss.length=ss.zipIdx.foldl (nxt d x w) tb:=by
 unfold part;rw[xY (by simp)]
theorem Vo{d:Nat}{x:Dd}{w:List Nat}{ss:List Dd}{tb:Tb}(i:Nat):∃r,part d x w ss tb i=tb++r:=cZ ..
theorem Kr{d:Nat}{x:Dd}{w:List Nat}{ss:List Dd}{tb:Tb}(i:Nat):(part d x w ss tb i).length<=(ss.zipIdx.foldl (nxt d x w) tb).length:=by
 have e:ss.zipIdx.foldl (nxt d x w) tb=(ss.zipIdx.drop i).foldl (nxt d x w) (part d x w ss tb i):=by
  unfold part;rw[←uL,xS]
 obtain⟨r,a⟩:=cZ d x w (ss.zipIdx.drop i) (part d x w ss tb i);rw[e,a,zS];omega
def ND(tb:Tb):Prop:=(tb.map (·.1)).Nodup/\∀y∈tb,y.2.length<tb.length
theorem Vn{d:Nat}{x:Dd}{w:List Nat}{tb:Tb}{b:Dd×Nat}(h:ND tb)(e:(x,w)∈tb):ND (nxt d x w tb b):=by
 refine⟨Ku h.1,?_⟩;have c:=h.2 _ e;unfold nxt;split
 ·exact h.2
 ·intro y a;rw[zS];rcases oA.mp a with a|a
  ·have:=h.2 y a;simp only[List.length_cons,List.length_nil];omega
  ·rw[pY.mp a];simp only[List.length_append,List.length_cons,List.length_nil];have f:w.length<tb.length:=c;omega
theorem ok_t(T:Txt K mg t):FnOk P w K mg base CX0 2 t.a_t t.d_t ["most"] sp_t:=by
 apply T.F_t.ok sc_t
 ·obtain⟨n,rfl,c,b,a⟩:=h;refine⟨_,(oP (nT (PW.pt (iC (nL dS (pq 0) oW (nJ _)) (iU (nL bZ (pq 0) (Qa (v:=(.int 200)) rfl T.g_MOST_MEMBERS) (nJ _)))))
   (oP jL)
   nS)),?_⟩
  show tIfS _ _ _ _ [some (.int n)] H;ext;rw[zN (show¬ (n:Int)<1 by omega),zN (show¬ (200:Int)<n by omega)];refine iteF (iteF ?_);exact a
theorem mZ{a b:Type}{F:a->b->Prop}{xs:List a}{ys:List b}(h:Paired F xs ys):∀{i:Nat}{x:a},xs[i]?=some x->∃y,ys[i]?=some y/\F x y:=by
 induction h with
 |nil=>intro i x e;simp at e
 |cons d _ c =>
  intro i x e;cases i with
  |zero=>cases e;exact⟨_,rfl,d⟩
  |succ i=>exact c (by simpa using e)
theorem ok_z(T:Txt K mg t):FnOk P w K mg base CX0 2 t.a_z t.d_z ["d","makers"] (sp_z K):=by
 apply T.F_z.ok sc_z
 ·obtain⟨b,d,a,ps,ms,rfl,C,l,p,hl,n⟩:=h;refine⟨_,(oN (nT (nL aD (pq 0) (mG (oK oW (oK oW oM))) rfl)
   (oP jL)
   nS)
   (oP (lF yD rfl (nH (pq 1)) (nN (i:=2) sc_z.nd rfl (Or.inl rfl))
   (oP (nT (nL kS (nQ T.z_len (oT (pq 2))) (pq 0) (nJ _))
   (oP jL)
   nS))))),?_⟩
  show tSeq _ _ _ [some (.int d),some (.ref a),none] H;right;refine⟨by show 2<=sizeLine;decide,λj r=>?_⟩;have k:Same H (upd H j (.tup [.int 2,.int 3])):=Same.new r;refine⟨j,_,rfl,.inr (SqT.of oQ),rfl,rfl,_,rfl,?_⟩;generalize upd H j (.tup [.int 2,.int 3])=z at k;rw[inV2,zL ⋯];refine iteF ?_;subst e1;refine lH λB eB=>?_;simp only[iSeq];ext;refine⟨b,⟨_,l.up k⟩,?_⟩;refine kZ (g:=oU 2) (tb:=B) (nx:=λ_ H'=>Q .non H') (rt:=Q) (λi g e=>∃v,g=[some (.int d),some (.ref a),v]/\Same H e) ⟨_,rfl,k⟩ (λi g e _⟨_,_,c⟩=>l.up c) ?_ ?_
  ·rintro i x g e f ⟨v,rfl,c⟩;rw[zD]at f;cases hp':ps[i]? with
   |none=>rw[hp']at f;cases f
   |some q =>
    rw[hp']at f;cases f;obtain⟨m,o,u⟩:=mZ p hp';subst eB;show tIfS _ _ _ _ [some (.int d),some (.ref a),some (.ref q)] e;ext;refine iN (DdS.up u c) λx y=>iH y ?_
    try ext
    rw[hl m (zqb o),zL rfl];refine iteF ?_;exact c
  ·rintro g e ⟨v,rfl,c⟩;exact n e c
def offH(a:Addr)(H:Hp):Hp:=λb=>if b=a then none else H b
theorem gN{a:Addr}{H:Hp}:Same (offH a H) H:=λb o e=>by
 unfold offH at e
 by_cases z:b=a
 ·rw[zG z]at e;cases e
 ·rw[zF z]at e;exact e
theorem gO{a:Addr}{c d:Hp}(s:jI a c d):Same (offH a c) (offH a d):=λb o e=>by
 unfold offH at e ⊢
 by_cases z:b=a
 ·rw[zG z]at e;cases e
 ·rw[zF z]at e ⊢;exact s _ _ z e
theorem iQ{K:Frag}{a:Addr}{H:Hp}{xs:List V}(e:H a=some (.lst xs)):TK K H (offH a H):=TK.off e (λ_ z=>by cases z) (λ_ _ z=>by cases z) λc b=>by unfold offH;rw[zF b]
def DdR(K:Frag)(a:Addr)(ms:List Dd)(j:Nat)(y:V)(H:Hp):Prop:=∃q m,y=.ref q/\ms[j]?=some m/\DdAt K (offH a H) q m
theorem DdR.mono{K:Frag}{a:Addr}{ms:List Dd}(i:Nat)(y:V)(b c:Hp)(h:DdR K a ms i y b)(s:jI a b c):DdR K a ms i y c:=let ⟨q,m,e,f,d⟩:=h;⟨q,m,e,f,d.up (gO s)⟩
theorem iR{a:Type}{F:Addr->a->Prop}{D:List a}{ys:List V}(hl:ys.length=D.length)(h:∀(j:Nat) y,ys[j]?=some y->∃p e,y=V.ref p/\D[j]?=some e/\F p e):∃ps:LA,ys=ps.map V.ref/\Paired F ps D:=by
 induction D generalizing ys with
 |nil =>
  obtain rfl:=vA hl;exact⟨[],rfl,.nil⟩
 |cons m ms c =>
  obtain⟨y,ys,rfl⟩:=List.exists_cons_of_length_eq_add_one hl;obtain⟨q,l,rfl,f,d⟩:=h 0 y rfl;cases f;obtain⟨g,rfl,k⟩:=c (rO hl) λj i b=>h (j+1) i b;exact⟨q:: g,rfl,.cons d k⟩
theorem Eo{K:Frag}{a:Addr}{H:Hp}{ms:List Dd}{ys:List V}(hl:ys.length=ms.length)(h:∀j y,ys[j]?=some y->DdR K a ms j y H):∃c:LA,ys=c.map V.ref/\Paired (DdAt K H) c ms:=iR hl λj y e=>by
 obtain⟨q,m,a,b,d⟩:=h j y e;exact⟨q,m,a,b,d.up gN⟩
theorem fS{H:Hp}{p:Addr}{x:V}{xs:List V}{i:Nat}{I:Int}{Q:VK}(e:H p=some (.lst xs))(a:xs[i]?=some x)(hi:I=i)(q:Q x H):rIxB K (.ref p) (.int I) H Q:=⟨false,p,_,_,_,rfl,rfl,SqB.lst e,lQ a hi,q⟩
theorem tyL{H:Hp}{p:Addr}{xs:List V}(e:H p=some (.lst xs)):tyV K "list" (.ref p) H:=.inl ⟨rfl,xs,.inl (.inl e)⟩
def CPv(K:Frag)(H0:Hp)(G:Dd->Prop)(qs:LA)(ss:List Dd)(a as af aw:Addr)(d i most:Nat)(f:Nat->Tb)(k:Nat)(σ:St)(H:Hp):Prop:=
 ∃v7 v8 v9,σ=[some (.int d),some (.ref a),some (.int most),some (.ref as),some (.ref af),some (.ref aw),some (.int i),v7,v8,v9]/\CI K H0 qs ss as af aw (f k) H/\ND (f k)/\(∀y∈f k,G y.1)
theorem ok_1f(T:Txt K mg t):FnOk P w K mg base CX0 10 t.a_1f t.d_1f pt' (sp_1f K):=by
 have j5:=@ok_1t P w K mg base t T;have n6:=@ok_1s P w K mg base t T;have q6:=@ok_1i P w K mg base t T;apply T.F_1f.ok sc_1f
 ·have d7:=hr.units;obtain⟨b,d,a,ps,ms,F,G,N,rfl,n5,h6,h0,t5,q3,r6,k8,r3,o7,s7,q4,n4,q5⟩:=h;refine⟨_,(oN (iX (i:=3) (sc:=oO s_1f) (N:=N_1f) (fr:=[]) (te:=(mC (sp_1t K) [] E0 (oV (tVar 0) tNil))) rfl rfl (nofun) rfl sc_1f.nd rfl rfl (nofun) (nH (pq 1)) (λ_ _ _ s5=>(oS j5 hr.mo T.F_1t (oK (pv 0) oM))))
   (oN (oY (i:=4) sc_1f.nd rfl (Or.inl rfl) (lO (oK (oS n6 hr.mo T.F_1s (oK (pq 0) oM)) oM)))
   (oN (oY (i:=5) sc_1f.nd rfl (Or.inr rfl) (Rh d7 (oT (pq 4)) (lO oM)))
   (oN (oY (i:=6) sc_1f.nd rfl (Or.inl rfl) oW)
   (oN (Bl yD (nL dS (pq 6) (nQ T.z_len (pq 4)) (nJ _))
   (oN (lF yD rfl (eI rfl T.z_enumerate (oK (pq 3) oM)) (lY rfl (nU (nN (i:=7) sc_1f.nd rfl (Or.inl rfl)) (nU (nN (i:=8) sc_1f.nd rfl (Or.inl rfl)) lW)))
   (oN (oY (i:=9) sc_1f.nd rfl (Or.inl rfl) (oS j5 hr.mo T.F_1t (oK (oS q6 hr.mo T.F_1i (oK (mI ix_B (pq 4) (pq 6) (λ_ _=>rfl)) (oK (pq 8) oM))) oM)))
   (oN (nT (nL (Rm d7) (pq 9) (pq 5) rfl)
   (oN (iD (oR dY (mI (ix_T d7) (pq 5) (mI ix_B (pq 4) (pq 6) (λ_ _=>rfl)) (λ_ _=>rfl)) (lO (oK (pq 7) oM))) (bX (pq 5) (pq 9) (Rk d7)))
   (oP (kR (aE uC vV vU dX (pq 4) (oK (pq 9) oM)))))
   nS)
   (oP (nT (nL bZ (nQ T.z_len (pq 4)) (pq 2) (nJ _))
   (oP jL)
   nS)))))
   (oP (Ff (i:=6) sc_1f.nd rfl (Or.inl rfl) oW Fe))))
   (oP (nA (pq 5)))))))),?_⟩
  show tSeq _ _ _ [some (.int d),some (.ref a),some (.int F),none,none,none,none,none,none,none] H;have t4:ps.length=ms.length:=nX h0;right;exfalso;refine⟨b,⟨_,h6⟩,λas h2=>?_⟩;refine nO (DdR K as (ms.map oZ)) h2 h6 (by rw[zqe];omega) DdR.mono ?_ ?_
  ·intro i x i0 zs d0 c5 p0 m0 l3;obtain⟨q,m9,rfl⟩:=mY d0;obtain⟨m,j2,m8⟩:=mZ h0 m9;have f9:=q3 m (zqb j2);subst eB;show mC _ _ _ _ [some (.ref q)] i0 m0;ext;refine⟨q,m.1,m.2.1,m.2.2,rfl,DdS.up m8 c5,by rw[f9.sq.1];omega,by rw[f9.len];omega,f9.pos,λr b4 R e7=>?_⟩;refine l3 _ _ R ⟨r,oZ m,rfl,by rw[zD,j2];rfl,?_⟩;exact DdAt.tk (show DdAt K b4 r (oZ m) from e7) (iQ (R _ _ p0))
  ·intro i0 ys c5 e3 h1 d3;obtain⟨U,rfl,j4⟩:=Eo (by rw[h1,zqe,zqe];omega) d3;left;refine⟨d,rfl,n5,λa3 b4 R g7=>⟨by show 1<=sizeLine;decide,λf a6=>?_⟩⟩;have b9:Same b4 (upd b4 f (.lst [.ref a3])):=Same.new a6;have b0:(upd b4 f (.lst [.ref a3])) f=some (.lst [.ref a3]):=oQ;generalize upd b4 f (.lst [.ref a3])=c7 at*
   have e5:DdAt K c7 a3 (oX d):=DdAt.up g7 b9;have d4:=b9 _ _ (R _ _ e3);have g8:=Paired.mapP j4 λ_ _ z=>z.up (R.trans b9);have f0:=(c5.trans R).trans b9;have q2:H f=none:=by
    cases z:H f with
    |none=>rfl
    |some o=>rw[R _ _ (c5 _ _ z)]at a6;cases a6
   have l2:as≠f:=λz=>by rw[z]at e3;rw[R _ _ e3]at a6;cases a6
   subst e1;refine st λN1 e1=>?_;simp only[Ix];ext;intro g Y;have L:Same c7 (upd c7 g (kD g [])):=Same.new Y;have d8:(upd c7 g (kD g [])) g=some (kD g []):=oQ;have i3:H g=none:=by
    cases z:H g with
    |none=>rfl
    |some o=>rw[f0 _ _ z]at Y;cases Y
   generalize upd c7 g (kD g [])=d5 at*;ext;refine fS (i:=0) (L _ _ b0) rfl rfl ?_;refine⟨yR _,λa5 b6=>?_⟩;have O:Same d5 (upd d5 a5 (.lst [])):=Same.new b6;have ep:(upd d5 a5 (.lst [])) a5=some (.lst []):=oQ;have j7:a5≠f:=λz=>by rw[z,L _ _ b0]at b6;cases b6
   have e0:a5≠g:=λz=>by rw[z,d8]at b6;cases b6
   generalize upd d5 a5 (.lst [])=o1 at*;refine⟨a3,rfl,dat (oX d),kI _,(DdAt.up e5 (L.trans O)).dt,O _ _ d8,λg3 b5 h5=>?_⟩;have k9:∀b o,H b=some o->b≠g:=λb o e z=>by rw[z,i3]at e;cases e
   have e8:TK K o1 g3:=TK.off (O _ _ d8) (λ_ z=>by cases z) (λ_ _ z=>by cases z) b5;have e4:as≠g:=λz=>by rw[z]at d4;rw[d4]at Y;cases Y
   have c8:f≠g:=λz=>by rw[z]at b0;rw[b0]at Y;cases Y
   have S:CI K H U (ms.map oZ) as f g [(oX d,[])] g3:=⟨λb o e=>by rw[b5 b (k9 b o e)];exact O _ _ (L _ _ (f0 _ _ e)),⟨by rw[b5 _ e4];exact O _ _ (L _ _ d4),Paired.mapP g8 λ_ _ z=>DdAt.tk (z.up (L.trans O)) e8⟩,
    ⟨[a3],by rw[b5 _ c8];exact O _ _ (L _ _ b0),.cons (DdAt.tk (DdAt.up e5 (L.trans O)) e8) .nil⟩,⟨_,h5,.cons ⟨rfl,a5,rfl,j7,by rw[b5 _ e0];exact ep⟩ .nil⟩,h2,q2,i3,l2⟩
   clear h5 e8 ep j7 e0 b6 O d8 L Y g8 d4 e5 b0 b9 a6 g7 R j4 d3 h1 e3 c5 f0 c8 e4 k9 b5;left;subst e1;refine st λN1 e1=>Hx λB eB=>?_;refine⟨λm c3 H'=>∃(i:Nat)(tb:Tb)(C v u:Option V),c3=[some (.int d),some (.ref a),some (.int F),some (.ref as),some (.ref f),some (.ref g),some (.int i),C,v,u]/\CI K H U (ms.map oZ) as f g tb H'/\nZ d (ms.map oZ) (N-i) i tb=nZ d (ms.map oZ) N 0 [(oX d,[])]/\ND tb/\(∀y∈tb,G y.1)/\m=N-i,
    ⟨N,0,_,none,none,none,rfl,S,rfl,⟨by simp,λy e6=>by rw[List.mem_singleton.mp e6];exact Nat.zero_lt_one⟩,λy e6=>by rw[pY.mp e6];exact r3,rfl⟩,?_⟩
   clear S;rintro m c3 o0 ⟨i,tb,C,v,u,rfl,S,W,n7,r0,rfl⟩;ext;obtain⟨fs,r1,m5⟩:=S.fo;have fl:fs.length=tb.length:=nX m5;refine⟨false,f,_,rfl,SqB.lst r1,?_⟩
   try ext
   rw[zqe,fl]
   by_cases hi:i<tb.length
   case neg =>
    rw[zN ⋯];refine iteF ?_;symm;rw[Vs ⋯]at W;obtain⟨kvs,c0,a8⟩:=S.wo;refine q5 g kvs o0 S.s S.n3 c0 ?_;rw[←W];exact Paired.mapP a8 λ_ _ z=>let ⟨a1,p,X,_,d1⟩:=z;⟨a1,p,X,d1⟩
   rw[zL (show(i:Int)<tb.length by omega)];obtain⟨⟨x,l⟩,d0⟩:∃e0,tb[i]?=some e0:=⟨_,zqd hi⟩;have l1:=Ab d (ms.map oZ) (N-i) i tb;have m6:0<N-i:=by
    obtain⟨r,c6⟩:=l1;rw[W]at c6;rw[c6,zS]at n4;omega
   rw[Vr hi m6,Vq d0]at W;have s2:((ms.map oZ).zipIdx.foldl (nxt d x l) tb).length<=F:=by
    obtain⟨r,c6⟩:=Ab d (ms.map oZ) (N-i-1) (i+1) ((ms.map oZ).zipIdx.foldl (nxt d x l) tb);rw[W]at c6;rw[c6,zS]at q4;omega
   refine iteT ⟨λh7 H'=>∃(a7:Tb)(C v u:Option V),h7=[some (.int d),some (.ref a),some (.int F),some (.ref as),some (.ref f),some (.ref g),some (.int (i+1:Nat)),C,v,u]/\CI K H U (ms.map oZ) as f g a7 H'/\nZ d (ms.map oZ) (N-(i+1)) (i+1) a7=nZ d (ms.map oZ) N 0 [(oX d,[])]/\ND a7/\(∀y∈a7,G y.1),?_,?_⟩
   ·rintro h7 H' ⟨a7,C,v,u,rfl,k1,k2,k3,l5⟩;exact⟨N-(i+1),⋯,i+1,a7,C,v,u,rfl,k1,k2,k3,l5,rfl⟩
   subst eB;refine st λs0 o5=>lH λB eB=>?_;simp only[fI];ext;refine⟨false,⟨_,SqB.lst S.st.1⟩,?_⟩;refine aU (g:=gTup K 2 (nV (oU 7) (nV (oU 8) gNil))) (tb:=B) (CPv K H G U (ms.map oZ) a as f g d i F (part d x l (ms.map oZ) tb))
    ⟨_,_,_,rfl,S,n7,r0⟩ (λk c3 H' _⟨_,_,_,_,c,_⟩=>SqB.lst c.st.1) ?_ ?_
   ·rintro k y p c3 k0 l6 ⟨C,v,u,rfl,a0,a9,c2⟩ n1;obtain⟨q,l0,rfl⟩:=mY l6;obtain⟨j,b8,_⟩:=mZ a0.st.2 l0;have l8:=Same.new (o:=.tup [.int (k:Int),.ref q]) n1;refine⟨p,[.int k,.ref q],rfl,SqT.of oQ,rfl,_,[.ref q],rfl,_,[],rfl,rfl,?_⟩;have f3:=a0.up l8;generalize upd k0 p (.tup [.int (k:Int),.ref q])=o9 at*
    clear a0;obtain⟨t2,p4⟩:=Vo (d:=d) (x:=x) (w:=l) (ss:=ms.map oZ) (tb:=tb) k;have J:(part d x l (ms.map oZ) tb k)[i]?=some (x,l):=by rw[p4,yT hi];exact d0
    have r8:=Kr (d:=d) (x:=x) (w:=l) (ss:=ms.map oZ) (tb:=tb) k;have p5:=Kr (d:=d) (x:=x) (w:=l) (ss:=ms.map oZ) (tb:=tb) (k+1);have q7:∀C v u H',CI K H U (ms.map oZ) as f g (nxt d x l (part d x l (ms.map oZ) tb k) (j,k)) H'->G (nD d x j)->CPv K H G U (ms.map oZ) a as f g d i F (part d x l (ms.map oZ) tb) (k+1) [some (.int d),some (.ref a),some (.int F),some (.ref as),some (.ref f),some (.ref g),some (.int i),C,v,u] H':=λC v u H' c gs=>⟨C,v,u,rfl,by rw[Aa b8];exact c,by rw[Aa b8];exact Vn a9 (zqb J),by rw[Aa b8];exact Ks c2 gs⟩;rw[Aa b8]at p5;generalize CPv K H G U (ms.map oZ) a as f g d i F (part d x l (ms.map oZ) tb) (k+1)=r9 at*
    generalize part d x l (ms.map oZ) tb k=tk at*;obtain⟨j0,i1,g2⟩:∃m∈ms,oZ m=j:=by
     have:=zqb b8;obtain⟨m,p2,m2⟩:=pS.mp this;exact⟨m,p2,m2⟩
    have i7:G x:=c2 _ (zqb J);have gs:G (nD d x j):=by rw[←g2];exact o7 x j0 i7 i1
    have q1:=k8 x i7;have fs':lC d j:=by rw[←g2];exact r6 j0 i1
    have f5:=k8 _ gs;subst eB;show tSeq _ _ _ [some (.int d),some (.ref a),some (.int F),some (.ref as),some (.ref f),some (.ref g),some (.int i),some (.int k),some (.ref q),u] o9;refine st λs3 q8=>?_;ext;obtain⟨p3,q0,g5⟩:=f3.fo;obtain⟨f2,k5⟩:∃f2,p3[i]?=some f2:=⟨_,zqd (by rw[nX g5];exact(zqa J).1)⟩;obtain⟨t0,k4,p8⟩:=mZ g5 k5;rw[J]at k4;cases k4;obtain⟨t3,i4,n2⟩:=mZ f3.st.2 l0;rw[b8]at i4;cases i4;refine fS (i:=i) q0 (by rw[zD,k5];rfl) rfl ?_;refine⟨f2,q,x.1,j.1,x.2.1,j.2.1,x.2.2,j.2.2,d,rfl,mX.s p8,mX.s n2,q1,fs',⋯,⋯,λj3 m7 n0 d3=>?_⟩;have p9:DdAt K m7 j3 (behD d x j):=d3;refine⟨j3,_,_,_,rfl,mX.s p9,?_,?_,f5.pos,λM a2 l9 e7=>?_⟩
    ·have:=f5.sq.1;show(mulM d j.1 x.1).length<=100;have:(mulM d j.1 x.1).length=d:=this;omega
    ·have:=f5.len;have e:(mJ (behD d x j).2.2 (behD d x j).2.1).length=(behD d x j).2.1.length:=by unfold mJ;simp
     have:(mJ (behD d x j).2.2 (behD d x j).2.1).length=d:=this;omega
    have h9:DdAt K a2 M (nD d x j):=e7;have c9:=f3.up (n0.trans l9);subst q8;show tSeq _ _ _ [some (.int d),some (.ref a),some (.int F),some (.ref as),some (.ref f),some (.ref g),some (.int i),some (.int k),some (.ref q),some (.ref M)] a2;refine st λm3 n8=>?_;have g4:∀H',CI K H U (ms.map oZ) as f g (nxt d x l tk (j,k)) H'->m3 [some (.int d),some (.ref a),some (.int F),some (.ref as),some (.ref f),some (.ref g),some (.int i),some (.int k),some (.ref q),some (.ref M)] H':=by
     intro H' i8;subst n8;ext;obtain⟨t1,o6,n3⟩:=i8.fo;refine⟨false,f,_,rfl,SqB.lst o6,?_⟩
     try ext
     rw[zqe,nX n3,zN ⋯];refine iteF ?_;exact q7 _ _ _ H' i8 gs
    ext;obtain⟨kvs,c0,a8⟩:=c9.wo;refine Vu c0 (kI _) h9.dt ?_;rcases Kv (x:=nD d x j) a8 with⟨a1,X⟩|⟨m4,h8,a1,X,k6,d1⟩
    case inr =>
     rw[X]
     try ext
     refine g4 a2 ?_;have e9:nxt d x l tk (j,k)=tk:=zG (pS.mpr ⟨_,a1,rfl⟩);rw[e9];exact c9
    rw[X]
    try ext
    rw[zG (by rfl)];obtain⟨a4,f7,e2⟩:=c9.fo;obtain⟨j9,j8⟩:∃j9,a4[i]?=some j9:=⟨_,zqd (by rw[nX e2];exact(zqa J).1)⟩;obtain⟨s4,k7,q9⟩:=mZ e2 j8;rw[J]at k7;cases k7;refine fS (i:=i) f7 (by rw[zD,j8];rfl) rfl ?_;rcases Kv (x:=x) a8 with⟨f6,_⟩|⟨m4,h8,f6,o8,s9,r5⟩
    ·exact absurd (pS.mpr ⟨_,zqb J,rfl⟩) f6
    have l7:=Vt a9.1 J f6;subst l7;have s8:l.length<tk.length:=a9.2 _ (zqb J);have s1:tk.length=kvs.length:=nX a8;have hsz:1000<=sizeLine:=∅
    refine Kw c0 (kI _) (DdAt.dt q9) o8 ?_;refine⟨by show 1<=sizeLine;decide,λc1 p7=>?_⟩;have d9:Same a2 (upd a2 c1 (.lst [.int k])):=Same.new p7;have n9:(upd a2 c1 (.lst [.int k])) c1=some (.lst [.int k]):=oQ;generalize upd a2 c1 (.lst [.int k])=d2 at*
    refine⟨h8,c1,_,_,rfl,rfl,d9 _ _ r5,n9,by rw[zqe];show l.length+1<=sizeLine;omega,λD f8=>?_⟩;have j6:Same d2 (upd d2 D (.lst ((l.map λn=>V.int (n:Nat))++[.int k]))):=Same.new f8;have g6:(upd d2 D (.lst ((l.map λn=>V.int (n:Nat))++[.int k]))) D=some (.lst ((l.map λn=>V.int (n:Nat))++[.int k])):=oQ;have I:=c9.up (d9.trans j6);have i9:D≠f:=λz=>by rw[z,d9 _ _ f7]at f8;cases f8
    generalize upd d2 D (.lst ((l.map λn=>V.int (n:Nat))++[.int k]))=f4 at*;have c4:=d9.trans j6;have h3:=c0.up c4;have o2:=Paired.mapP a8 λ_ _ z=>(let ⟨a1,p,X,k6,d1⟩:=z;⟨a1,p,X,k6,c4 _ _ d1⟩:_/\∃p,_/\p≠f/\f4 p=_);have j1:=DdAt.up h9 c4;have f1:=c4 _ _ f7;have r2:=Paired.mapP e2 λ_ _ z=>DdAt.up z c4;simp only[gSub];ext;have e9:nxt d x l tk (j,k)=tk++[(nD d x j,l++[k])]:=zF a1;have r7:pT kvs (dat (nD d x j)) (.ref D)=kvs++[(dat (nD d x j),.ref D)]:=by
     unfold pT;rw[X];rfl
    obtain⟨s6,d6,_,_⟩:=h3.ex;have c8:f≠g:=λz=>by rw[z,d6]at f1;cases f1
    have e4:as≠g:=λz=>by have:=I.st.1;rw[z,d6]at this;cases this
    refine⟨g,kvs,M,dat (nD d x j),rfl,rfl,h3,kI _,j1.dt,⋯,λZ _ b3 i5=>?_⟩;rw[r7]at i5;have p6:DTr K Z g (kvs++[(dat (nD d x j),V.ref D)]):=i5;have o4:TK K f4 Z:=TK.off d6 (λ_ z=>by cases z) (λ_ _ z=>by cases z) b3;have g0:Z f=some (.lst (a4.map V.ref)):=by rw[b3 f c8];exact f1
    refine⟨tyL g0,f,_,_,rfl,rfl,g0,by rw[zqe,nX e2];omega,g4 _ ?_⟩;rw[e9];have b7:∀c,c≠f->upd Z f (.lst (a4.map V.ref++[.ref M])) c=Z c:=λc W=>nC W;have p1:upd Z f (.lst (a4.map V.ref++[.ref M])) f=some (.lst (a4.map V.ref++[.ref M])):=oQ;generalize upd Z f (.lst (a4.map V.ref++[.ref M]))=m1 at*
    have h4:TK K Z m1:=TK.off g0 (λ_ z=>by cases z) (λ_ _ z=>by cases z) b7;have g1:=o4.trans h4;have i6:∀p xs,f4 p=some (.lst xs)->p≠g:=λp xs e z=>by rw[z,d6]at e;cases e
    refine⟨λb o e=>?_,⟨?_,Paired.mapP I.st.2 λ_ _ z=>DdAt.tk z g1⟩,⟨a4++[M],by rw[p1];simp,rV (Paired.mapP r2 λ_ _ z=>DdAt.tk z g1) (DdAt.tk j1 g1)⟩,⟨kvs++[(dat (nD d x j),V.ref D)],DTr.tk p6 h4 (b7 g (yA c8)),rV (Paired.mapP o2 λ_ _ z=>?_) ⟨rfl,D,rfl,i9,?_⟩⟩,I.n1,I.n2,I.n3,I.x1⟩
    ·have b1:b≠f:=λz=>by rw[z,I.n2]at e;cases e
     have b2:b≠g:=λz=>by rw[z,I.n3]at e;cases e
     rw[b7 b b1,b3 b b2];exact I.s b o e
    ·rw[b7 as I.x1,b3 as e4];exact I.st.1
    ·obtain⟨l4,p,r4,g9,i2⟩:=z;refine⟨l4,p,r4,g9,?_⟩;rw[b7 p g9,b3 p (i6 _ _ i2)];exact i2
    ·rw[b7 D i9,b3 D (i6 _ _ g6),g6];simp
   ·rintro c3 k0 ⟨C,v,u,rfl,a0,a9,c2⟩;have o3:(U.map V.ref).length=(ms.map oZ).length:=by rw[zqe];exact nX a0.st.2
    rw[o3,Vp]at a0 a9 c2;subst o5;refine⟨.int i,rfl,?_⟩;unfold tC ipI;refine⟨i,1,rfl,rfl,?_⟩;refine⟨_,C,v,u,rfl,a0,?_,a9,c2⟩;rw[show N-(i+1)=N-i-1 by omega];exact W
theorem En:∀{l a:LI'},l.length=a.length->smA (l.map PyData.int) (a.map PyData.int)=true
 |[],[],_=>rfl
 |_:: l,_:: a,h=>by
  show(sm (.int _) (.int _) && smA (l.map PyData.int) (a.map PyData.int))=true;rw[En (by simpa using h)];rfl
theorem Kq{d:Nat}:∀{M a:LM},M.length=a.length->(∀r∈M,r.length=d)->(∀r∈a,r.length=d)->smA (M.map λr=>PyData.tuple (r.map PyData.int)) (a.map λr=>PyData.tuple (r.map PyData.int))=true
 |[],[],_,_,_=>rfl
 |r:: M,f:: a,h,c,e=>by
  show(smA (r.map PyData.int) (f.map PyData.int) && smA (M.map λr=>PyData.tuple (r.map PyData.int)) (a.map λr=>PyData.tuple (r.map PyData.int)))=true;rw[En ((c r (.head _)).trans (e f (.head _)).symm),Kq (by simpa using h) (λx b=>c x (.tail _ b)) λx b=>e x (.tail _ b)];rfl
theorem Bz{d:Nat}{x y:Dd}(b:lC d x)(a:lC d y):sm (dat x) (dat y)=true:=by
 show(smA (x.1.map λr=>PyData.tuple (r.map PyData.int)) (y.1.map λr=>PyData.tuple (r.map PyData.int)) && (smA (x.2.1.map PyData.int) (y.2.1.map PyData.int) && (sm (.int _) (.int _) && true)))=true;rw[Kq (b.sq.1.trans a.sq.1.symm) b.sq.2 a.sq.2,En (b.len.trans a.len.symm)];rfl
def Vm(d:Nat)(lg lo ls ln:Addr):List (Str×V):=[(Str.ofString "dimension",.int d),(Str.ofString "given",.ref lg),(Str.ofString "ordered",.ref lo),(Str.ofString "shortest",.ref ls),(Str.ofString "numbers",.ref ln)]
abbrev fG1(d:Nat):List (Str×V):=[(Str.ofString "dimension",.int d)]
abbrev fG2(d:Nat)(lg:Addr):List (Str×V):=[(Str.ofString "dimension",.int d),(Str.ofString "given",.ref lg)]
abbrev fG3(d:Nat)(lg lo:Addr):List (Str×V):=[(Str.ofString "dimension",.int d),(Str.ofString "given",.ref lg),(Str.ofString "ordered",.ref lo)]
abbrev fG4(d:Nat)(lg lo ls:Addr):List (Str×V):=[(Str.ofString "dimension",.int d),(Str.ofString "given",.ref lg),(Str.ofString "ordered",.ref lo),(Str.ofString "shortest",.ref ls)]
abbrev fG5(d:Nat)(lg lo ls ln:Addr):List (Str×V):=[(Str.ofString "dimension",.int d),(Str.ofString "given",.ref lg),(Str.ofString "ordered",.ref lo),(Str.ofString "shortest",.ref ls),(Str.ofString "numbers",.ref ln)]
def numT(srt:Tb)(n:Nat):List (PyData×V):=(srt.zipIdx n).map λp=>(dat p.1.1,V.int ((p.2:Nat):Int))
structure GrpF(K:Frag)(t:Adr)(H:Hp)(g:Addr)(d:Nat)(ms:List Dd)(srt:Tb):Prop where
 ex:∃dx lg lo ls ln,H g=some (.ins t.a_3 dx (Vm d lg lo ls ln))/\(∃gs:LA,H lg=some (.lst (gs.map V.ref))/\Paired (DdS K H) gs ms) /\
  (∃os:LA,H lo=some (.lst (os.map V.ref))/\Paired (λp x=>Dt K H (.ref p) (dat x.1)) os srt) /\
  (∃ws:LA,H ls=some (.lst (ws.map V.ref))/\Paired (λp(x:Dd×List Nat)=>H p=some (.lst (x.2.map λn=>V.int (n:Nat)))) ws srt)/\DTr K H ln (numT srt 0)
def Kp(K:Frag)(t:Adr):Sp:=λvs H Q _=>E9 λ(b:Bool)(d:Nat)(a x dx:Addr)(ps:LA)(ms:List Dd)(G:Dd->Prop)(N:Nat)=>A16 (vs=[.ref x,.int d,.ref a,.int 200]) (H x=some (.ins t.a_3 dx [])) ((d=2\/d=3)) (SqB b K H a (ps.map V.ref)) (Paired (DdS K H) ps ms) (ms.length<=200) ((∀s∈ms,lC d s)) ((∀s∈ms,lC d (oZ s))) ((∀x,G x->lC d x)) (G (oX d)) ((∀x s,G x->s∈ms->G (nD d x (oZ s)))) ((nZ d (ms.map oZ) N 0 [(oX d,[])]).length<=200) ((nZ d (ms.map oZ) N 0 [(oX d,[])]).length<=N) ((∀y∈nZ d (ms.map oZ) N 0 [(oX d,[])],lC d y.1)) (((nZ d (ms.map oZ) N 0 [(oX d,[])]).map (·.1)).Nodup) (∀srt H',(∀b o,b≠x->H b=some o->H' b=some o)->GrpF K t H' x d ms srt->srt.Perm (nZ d (ms.map oZ) N 0 [(oX d,[])])->srt.Pairwise (λp q=>lx (fl (dat q.1)) (fl (dat p.1))=false)->Q .non H')
theorem Em{c d:Type}{f:c->d}:∀{l:List d}{tb:List c},l.Perm (tb.map f)->∃srt:List c,srt.Perm tb/\srt.map f=l
 |[],tb,h=>by
  have:=h.length_eq;rw[zqe]at this;exact⟨[],by rw[List.length_eq_zero_iff.mp this.symm],rfl⟩
 | b:: l,tb,h=>by
  obtain⟨a,g,e⟩:=pS.mp (h.mem_iff.mp (zU));obtain⟨s,r,rfl⟩:=List.append_of_mem g;have i:(b:: l).Perm (b:: (s++r).map f):=by
   refine h.trans ?_;rw[yV,zK,e,yV];exact List.perm_middle
  obtain⟨srt,p,q⟩:=Em (List.Perm.cons_inv i);exact⟨a:: srt,(List.Perm.cons a p).trans List.perm_middle.symm,by rw[zK,e,q]⟩
def KX(x:Addr)(H H':Hp):Prop:=∀b o,b≠x->H b=some o->H' b=some o
theorem KX.same{x:Addr}{H H':Hp}(s:Same H H'):KX x H H':=λb o _ e=>s b o e
theorem KX.put{x:Addr}{H:Hp}{o:HO}:KX x H (upd H x o):=λb c a e=>by rw[nC a];exact e
theorem KX.trans{x:Addr}{H f g:Hp}(a:KX x H f)(b:KX x f g):KX x H g:=λc o d e=>b c o d (a c o d e)
theorem KX.tk{K:Frag}{x C c:Addr}{fs:List (Str×V)}{H H':Hp}(k:KX x H H')(e:H x=some (.ins C c fs)):TK K H H':=by
 have a:∀b xs,H b=some (.tup xs)->H' b=some (.tup xs):=λb xs q=>k b _ (λz=>by rw[z,e]at q;cases q) q;refine⟨a,λb xs q=>?_⟩;rcases q with(q|⟨d,q⟩)|q
 ·exact .inl (.inl (a _ _ q))
 ·exact .inl (.inr ⟨d,k b _ (λz=>by rw[z,e]at q;cases q) q⟩)
 ·exact .inr q
theorem Vl{H:Hp}{x:Dd}{w:List Nat}{p:Addr}:∀{tb:Tb}{kvs:List (PyData×V)},TbAt H tb kvs->(tb.map (·.1)).Nodup->(x,w)∈tb->vT kvs (dat x)=some (.ref p)->H p=some (.lst (w.map λn=>V.int (n:Nat))):=by
 intro tb kvs h
 induction h with
 |nil=>intro _ a;cases a
 |@cons y j tb kvs f _ g =>
  intro b a e;obtain⟨e1,q,i,c⟩:=f;rw[zK,rK]at b;rcases xE.mp a with a|a
  ·rw[←a]at e1 c;rw[eK e1,i]at e;cases e;exact c
  ·have d:¬ j.1=dat x:=λq=>b.1 (by rw[hJ.mp (e1.symm.trans q)];exact pS.mpr ⟨_,a,rfl⟩);rw[fL d]at e;exact g b.2 a e
theorem Vk{K:Frag}{H:Hp}{C x d a:Addr}{fs:List (Str×V)}{o:HO}{b:Bool}{xs:List V}(e:H x=some (.ins C d fs))(h:SqB b K H a xs):SqB b K (upd H x o) a xs:=by
 cases b with
 |false =>
  rcases(show SqL K H a xs from h) with(h|⟨c,h⟩)|h
  ·exact(.inl (.inl (by rw[nC (λz=>by rw[z,e]at h;cases h)];exact h)):SqL K (upd H x o) a xs)
  ·exact(.inl (.inr ⟨c,by rw[nC (λz=>by rw[z,e]at h;cases h)];exact h⟩):SqL K (upd H x o) a xs)
  ·exact(.inr h:SqL K (upd H x o) a xs)
 |true =>
  rcases(show SqT K H a xs from h) with(h|⟨c,h⟩)|h
  ·exact(.inl (.inl (by rw[nC (λz=>by rw[z,e]at h;cases h)];exact h)):SqT K (upd H x o) a xs)
  ·exact(.inl (.inr ⟨c,by rw[nC (λz=>by rw[z,e]at h;cases h)];exact h⟩):SqT K (upd H x o) a xs)
  ·exact(.inr h:SqT K (upd H x o) a xs)
theorem Ko{H:Hp}{v:V}{ds:List PyData}(h:Dt K H v (.tuple ds)):∃q,v=V.ref q:=by
 cases h;exact⟨_,rfl⟩
theorem dF{H:Hp}{b:St}{i:Nat}{C x a:Addr}{fs:List (Str×V)}{f:Str}{v:V}{Q:VK}(d:b[i]?=some (some (V.ref x)))(e:H x=some (.ins C a fs))(c:Cls K C)(n:fE K C f)(l:fs.lookup f=some v)(q:Q v H):tFld K (tVar i) f b H Q:=⟨_,d,x,C,a,fs,v,rfl,e,c,n,l,q⟩
theorem Vj{H:Hp}:∀{tb:Tb}{kvs:List (PyData×V)},TbAt H tb kvs->∀y∈tb,∃p,vT kvs (dat y.1)=some (V.ref p):=by
 intro tb kvs h
 induction h with
 |nil=>intro y a;cases a
 | @cons z e tb kvs d _ b =>
  intro y a;obtain⟨e1,p,c,_⟩:=d
  by_cases q:e.1=dat y.1
  ·exact⟨p,by rw[eK q,c]⟩
  ·rw[fL q];rcases xE.mp a with a|a
   ·exact absurd (by rw[e1,a]) q
   ·exact b y a
theorem Vi{K:Frag}{H:Hp}{ps:List (V×PyData)}{zs:List V}{n:Nat}(hl:zs.length=ps.length)(f:∀p∈ps,tT 4 p.2=true/\Dt K H p.1 p.2/\∃q,p.1=V.ref q)(e:∀j y,zs[j]?=some y->∃p m,y=V.ref p/\ps[j]?=some m/\H p=some (.tup [m.1,.int ((n+j:Nat):Int)])):
  ∃ts:List (Addr×PyData×Addr×V),zs=ts.map (λt=>V.ref t.1)/\(ts.map (·.2.1)=ps.map (·.2)/\ts.map (λt=>(t.2.1,t.2.2.2))=(ps.zipIdx n).map λp=>(p.1.2,V.int ((p.2:Nat):Int)))/\∀t∈ts,SqT K H t.1 [.ref t.2.2.1,t.2.2.2]/\tT 4 t.2.1=true/\Dt K H (.ref t.2.2.1) t.2.1:=by
 induction ps generalizing zs n with
 |nil =>
  obtain rfl:=vA hl;exact⟨[],rfl,⟨rfl,rfl⟩,λ_ h=>nomatch h⟩
 | cons p ps r =>
  obtain⟨z,zs,rfl⟩:=List.exists_cons_of_length_eq_add_one hl;obtain⟨a,m,e1,C,c⟩:=e 0 z rfl;cases C;obtain⟨I,d,q,G⟩:=f p (.head _);obtain⟨ts,k,⟨F,D⟩,l⟩:=r (zs:=zs) (n:=n+1) (rO hl) (λx i=>f x (.tail _ i)) λj y u=>by
   obtain⟨g,L,o,v,J⟩:=e (j+1) y u;exact⟨g,L,o,v,by rw[J,show n+(j+1)=n+1+j by omega]⟩
  rw[G]at c d;refine⟨(a,p.2,q,.int ((n+0:Nat):Int)):: ts,by rw[e1,k];rfl,⟨by rw[zK,zK,F],by rw[zK,vY,zK,D];rfl⟩,λt b=>?_⟩;rcases xE.mp b with b|b
  ·rw[b];exact⟨SqT.of c,I,d⟩
  ·exact l t b
theorem ord_of{K:Frag}{H:Hp}:∀{ps:List (V×PyData)}{srt:Tb},(srt.map λy=>dat y.1)=ps.map (·.2)->(∀p∈ps,Dt K H p.1 p.2/\(∃q,p.1=V.ref q))->∃a:LA,ps.map (·.1)=a.map V.ref/\Paired (λp(x:Dd×List Nat)=>Dt K H (.ref p) (dat x.1)) a srt
 |[],[],_,_=>⟨[],rfl,.nil⟩
 |[],_:: _,h,_=>by simp at h
 |_:: _,[],h,_=>by simp at h
 |p:: ps,y:: srt,e,h=>by
  rw[zK,zK,yL]at e;obtain⟨a,e1,d⟩:=ord_of (ps:=ps) (srt:=srt) e.2 λx f=>h x (.tail _ f);obtain⟨c,q,b⟩:=h p (.head _);rw[b,←e.1]at c;exact⟨q:: a,by rw[zK,zK,e1,b],.cons c d⟩
theorem Vh{H:Hp}{kvs:List (PyData×V)}{srt:Tb}{ys:List V}(hl:ys.length=srt.length)(h:∀(j:Nat) y,ys[j]?=some y->∃p m,y=V.ref p/\srt[j]?=some m/\vT kvs (dat m.1)=some (V.ref p))
  (f:∀m∈srt,∀p,vT kvs (dat m.1)=some (V.ref p)->H p=some (.lst (m.2.map λn=>V.int (n:Nat)))):∃d:LA,ys=d.map V.ref/\Paired (λp(x:Dd×List Nat)=>H p=some (.lst (x.2.map λn=>V.int (n:Nat)))) d srt:=iR hl λj y e=>by
 obtain⟨p,m,a,b,c⟩:=h j y e;exact⟨p,m,a,b,f m (zqb b) p c⟩
theorem Kn:∀{srt:Tb}{ps:List (V×PyData)},(srt.map λy=>dat y.1)=ps.map (·.2)->∀n,((srt.zipIdx n).map λp=>(dat p.1.1,V.int ((p.2:Nat):Int)))=(ps.zipIdx n).map λp=>(p.1.2,V.int ((p.2:Nat):Int))
 |[],[],_,_=>rfl
 |[],_:: _,h,_=>by simp at h
 |_:: _,[],h,_=>by simp at h
 |y:: srt,p:: ps,e,n=>by
  rw[zK,zK,yL]at e;rw[vY,vY,zK,zK,Kn e.2 (n+1),e.1]
structure GI(K:Frag)(H0:Hp)(C x dx wd:Addr)(fs:List (Str×V))(tb:Tb)(kvs:List (PyData×V))(H:Hp):Prop where
 hx:H x=some (.ins C dx fs)
 s:∀b o,b≠x->H0 b=some o->H b=some o
 D:DTr K H wd kvs
 T:TbAt H tb kvs
theorem GI.up{K:Frag}{d H H':Hp}{C x a c:Addr}{fs:List (Str×V)}{tb:Tb}{kvs:List (PyData×V)}(h:GI K d C x a c fs tb kvs H)(s:Same H H'):GI K d C x a c fs tb kvs H':=
 ⟨s _ _ h.hx,λb o f e=>s _ _ (h.s b o f e),h.D.up s,Paired.mapP h.T λ_ _ z=>let ⟨j,p,g,i⟩:=z;⟨j,p,g,s _ _ i⟩⟩
theorem By{K:Frag}{H:Hp}{C x a:Addr}{fs fs':List (Str×V)}(e:H x=some (.ins C a fs)):TK K H (upd H x (.ins C a fs')):=TK.off e (λ_ z=>by cases z) (λ_ _ z=>by cases z) λ_ b=>nC b
theorem GI.put{K:Frag}{g H:Hp}{C x a d:Addr}{fs:List (Str×V)}{tb:Tb}{kvs:List (PyData×V)}(h:GI K g C x a d fs tb kvs H)(fs':List (Str×V)):GI K g C x a d fs' tb kvs (upd H x (.ins C a fs')):=by
 have k:d≠x:=λz=>by
  obtain⟨_,_,xs,e,_⟩:=h.D;rw[z,h.hx]at e;cases e
 refine⟨oQ,λb o f e=>?_,DTr.tk h.D (By h.hx) (nC k),Paired.mapP h.T λ_ _ z=>?_⟩
 ·rw[nC f];exact h.s b o f e
 ·obtain⟨j,p,i,c⟩:=z;have:p≠x:=λq=>by rw[q,h.hx]at c;cases c
  exact⟨j,p,i,by rw[nC this];exact c⟩
theorem ok_0(T:Txt K mg t):FnOk P w K mg base CX0 12 t.a_0 t.d_0 pf' (Kp K t):=by
 have j9:=@ok_t P w K mg base t T;have k8:=@ok_z P w K mg base t T;have l7:=@ok_1f P w K mg base t T;apply T.F_0.ok sc_0
 ·have c3:=hr.units;obtain⟨b,d,a,x,g,ps,ms,G,N,rfl,e4,e5,c2,b7,d1,f1,m0,f8,f4,i3,m9,h6,k3,f5,k1⟩:=h;refine⟨_,(oN (kR (oS j9 hr.mo T.F_t (oK (pv 3) oM)))
   (oN (kR (oS k8 hr.mo T.F_z (oK (pv 1) (oK (pv 2) oM))))
   (oN (oY (i:=4) sc_0.nd rfl (Or.inr rfl) (oS l7 hr.mo T.F_1f (oK (pv 1) (oK (pv 2) (oK (pv 3) oM)))))
   (oN (dU (pv 0) (pv 1) rfl)
   (oN (dU (pv 0) (mP fJ rfl T.z_list (nofun) (oK (pv 2) oM)) rfl)
   (oN (dU (pv 0) (mV (Tk (N:=200) bD c3 rfl) rfl T.z_sorted (nofun) (oK (pv 4) oM)) rfl)
   (oN (dU (pv 0) (nR (sc:=oO s_0) (N:=N_0) (fr:=[("words",4)]) (te:=(tOp (Cl K) (tVar 1) (tVar 0))) rfl rfl (nofun) rfl (nofun) (nH (eE (pv 0) rfl)) (λ_ _ _ a2=>(mI (ix_T c3) (pv 1) (pv 0) (λ_ _=>rfl)))) rfl)
   (oP (dU (pv 0) (mP (Ta c3 rfl) rfl T.z_dict (nofun) (oK (kU (xs:=["number","member"]) (fr:=[]) (g:=(gTup K 2 (nV (oU 0) (nV (oU 1) gNil)))) (tt:=(tEl (tTup (oV (tVar 1) (oV (tVar 0) tNil))))) (lD (sc:=oO s_0) (N:=N_0) rfl rfl (nofun)) rfl (eI rfl T.z_enumerate (oK (eE (pv 0) rfl) oM)) (λ_ _ _ a2=>(lY rfl (nU (kX (N:=["number","member"]) (i:=0) a2 rfl (nofun)) (nU (kX (N:=["number","member"]) (i:=1) a2 rfl (nofun)) lW)))) (λ_ _ _ a2=>(lP (mG (oK (pv 1) (oK (pv 0) oM)))))) oM)) rfl))))))))),?_⟩
  show tSeq _ _ _ [some (.ref x),some (.int d),some (.ref a),some (.int 200),none] H;right;refine⟨200,rfl,∅,∅,?_⟩;left;refine⟨b,d,a,ps,ms,rfl,e5,c2,b7,λs j6=>(f1 s j6).sq.1,λm5 d0=>?_⟩;left;refine⟨b,d,a,ps,ms,200,G,N,rfl,e5,c2.up d0,Paired.mapP b7 λ_ _ z=>z.up d0,d1,f1,m0,f8,f4,i3,zE _,⋯,h6,λc0 kvs a1 k7 n0 h8 h1=>?_⟩;generalize nZ d (ms.map oZ) N 0 [(oX d,[])]=tb at*
  have c5:=d0.trans k7;have c6:=c5 _ _ e4;subst e1;refine st λN1 e1=>?_;simp only[sFld];ext;have d6:GI K H t.a_3 x g c0 [] tb kvs a1:=⟨c6,λb o _ e=>c5 _ _ e,h8,h1⟩;refine⟨_,_,_,c6,T.cl_3,T.h_3,∅,?_⟩;have e6:=d6.put (fG1 d);have sq3:SqB b K (upd a1 x (.ins t.a_3 g (fG1 d))) a (ps.map V.ref):=Vk c6 (c2.up c5);show N1 _ (upd a1 x (.ins t.a_3 g (fG1 d)));generalize upd a1 x (.ins t.a_3 g (fG1 d))=a7 at*
  clear d6;subst e1;refine st λN1 e1=>?_;simp only[sFld];ext;refine⟨b,a,_,rfl,sq3,λc c1=>?_⟩;have i1:Same a7 (upd a7 c (.lst (ps.map V.ref))):=Same.new c1;have l4:(upd a7 c (.lst (ps.map V.ref))) c=some (.lst (ps.map V.ref)):=oQ;have i2:c≠x:=λz=>by rw[z,e6.hx]at c1;cases c1
  have e0:=e6.up i1;generalize upd a7 c (.lst (ps.map V.ref))=D at*
  refine⟨_,_,_,e0.hx,T.cl_3,T.h_e,by show 1<1000;decide,?_⟩;have a4:=e0.put (fG2 d c);have m1:KX x D (upd D x (.ins t.a_3 g (fG2 d c))):=KX.put;show N1 _ (upd D x (.ins t.a_3 g (fG2 d c)));generalize upd D x (.ins t.a_3 g (fG2 d c))=m4 at*
  subst e1;refine st λN1 e1=>?_;simp only[sFld];ext;have m8:tb.length=kvs.length:=nX a4.T;have f3:∀C∈kvs,∃y∈tb,C.1=dat y.1:=λC S=>by
   obtain⟨y,O,z⟩:=Ao a4.T C S;exact⟨y,O,z.1⟩
  have i8:=f8 _ f4;refine⟨c0,kvs,[.tuple ((List.replicate d (0:Int)).map PyData.int),.int 1],(idM d).map (λr=>PyData.tuple (r.map PyData.int)),rfl,⋯,a4.D,λC S=>?_,λlo ps' R d4 m7 a5 a9 a8 k2=>?_⟩
  ·obtain⟨y,O,e⟩:=f3 C S;rw[e];exact Bz i8 (k3 y O)
  have a6:=a4.up d4;have k5:=m1.trans (KX.same d4);refine⟨_,_,_,a6.hx,T.cl_3,T.h_8,by show 2<1000;decide,?_⟩;have pl:ps'.length<=200:=by
   have:=a8.length_eq;rw[zqe,zqe]at this;omega
  have m2:=a5;have X:=a6.put (fG3 d c lo);have c9:lo≠x:=λz=>by rw[z,a6.hx]at a5;cases a5
  have j4:KX x D (upd R x (.ins t.a_3 g (fG3 d c lo))):=k5.trans KX.put;have b5:(upd R x (.ins t.a_3 g (fG3 d c lo))) lo=some (.lst (ps'.map (·.1))):=by rw[nC c9];exact a5
  have I:∀p∈ps',tT 4 p.2=true/\Dt K (upd R x (.ins t.a_3 g (fG3 d c lo))) p.1 p.2:=λp f=>⟨(a9 p f).1,kE (By a6.hx).t 4 (a9 p f).1 (kE (mL d4) 4 (a9 p f).1 (a9 p f).2)⟩;show N1 _ (upd R x (.ins t.a_3 g (fG3 d c lo)));generalize upd R x (.ins t.a_3 g (fG3 d c lo))=m3 at*
  -- every member is a reference to one of the dict's keys
  have mem:∀p∈ps',∃y∈tb,p.2=dat y.1:=λp f=>by
   have:p.2∈kvs.map (·.1):=a8.mem_iff.mp (pS.mpr ⟨p,f,rfl⟩);obtain⟨C,S,e⟩:=pS.mp this;obtain⟨y,O,c4⟩:=f3 C S;exact⟨y,O,by rw[←e,c4]⟩
  have e2:kvs.map (·.1)=tb.map λy=>dat y.1:=by
   have:∀{H':Hp}{tb:Tb}{kvs:List (PyData×V)},TbAt H' tb kvs->kvs.map (·.1)=tb.map λy=>dat y.1:=by
    intro H' tb kvs h
    induction h with
    |nil=>rfl
    |cons c7 _ g3=>rw[zK,zK,g3,c7.1]
   exact this X.T
  obtain⟨srt,e9,W⟩:=Em (f:=λy:Dd×List Nat=>dat y.1) (l:=ps'.map (·.2)) (tb:=tb) (by rw[←e2];exact a8);have g6:srt.length=ps'.length:=by have:=wF List.length W;simpa using this
  have b0:∀p∈ps',∃q,p.1=V.ref q:=λp f=>by
   obtain⟨y,_,e⟩:=mem p f;have f6:=(I p f).2;rw[e]at f6;exact Ko f6
  subst e1;refine st λN1 e1=>?_;simp only[sFld];refine nF λB eB=>?_;simp only[iSeq];refine dF rfl X.hx T.cl_3 T.h_8 rfl ?_;refine⟨false,lo,rfl,⟨_,SqB.lst b5⟩,λk b2=>?_⟩;refine nO (λj y _=>∃(p:Addr)(m:Dd×List Nat),y=V.ref p/\srt[j]?=some m/\vT kvs (dat m.1)=some (V.ref p)) b2 (SqB.lst b5) (by rw[zqe];omega) (λ_ _ _ _ h _=>h) ?_ ?_
  ·intro i y v zs b4 F e8 b6 b3;obtain⟨p,f,rfl⟩:=mY b4;have b8:=zqb f;obtain⟨q,k0⟩:=b0 p b8;obtain⟨j3,h7,l5⟩:=mem p b8;obtain⟨d7,f2⟩:=I p b8;subst eB;show tOp _ _ _ [some p.1,some (.ref c0)] v b6;ext;rw[k0]at f2 ⊢;have L:=X.up F;obtain⟨h3,b1⟩:=Vj L.T j3 h7;rw[←l5]at b1;refine Kw L.D d7 (kE (mL F) 4 d7 f2) b1 ?_;have i7:∃m,srt[i]?=some m/\dat m.1=p.2:=by
    have e:=wF (λl=>l[i]?) W;simp only[List.getElem?_map,f,Option.map_some]at e;cases hm2:srt[i]? with
    |none=>rw[hm2]at e;cases e
    |some m=>rw[hm2]at e;exact⟨m,rfl,zQ e⟩
   obtain⟨m,c8,h0⟩:=i7;exact b3 _ _ (Same.refl _) ⟨h3,m,rfl,c8,by rw[h0];exact b1⟩
  ·intro v ys F k9 i9 h4;have L:=X.up F;have e7:k≠x:=λz=>by rw[z,X.hx]at b2;cases b2
   have g4:=j4.trans (KX.same F);have j1:KX x D (upd v x (.ins t.a_3 g (fG4 d c lo k))):=g4.trans KX.put;have i0:(upd v x (.ins t.a_3 g (fG4 d c lo k))) k=some (.lst ys):=by rw[nC e7];exact k9
   refine⟨.ref x,rfl,x,_,_,_,rfl,L.hx,T.cl_3,T.h_4,by show 3<1000;decide,?_⟩;have e3:=L.put (fG4 d c lo k);have d3:(upd v x (.ins t.a_3 g (fG4 d c lo k))) lo=some (.lst (ps'.map (·.1))):=by rw[nC c9];exact F _ _ b5
   have M:∀p∈ps',tT 4 p.2=true/\Dt K (upd v x (.ins t.a_3 g (fG4 d c lo k))) p.1 p.2:=λp f=>⟨(I p f).1,kE (By L.hx).t 4 (I p f).1 (kE (mL F) 4 (I p f).1 (I p f).2)⟩;show N1 _ (upd v x (.ins t.a_3 g (fG4 d c lo k)));generalize upd v x (.ins t.a_3 g (fG4 d c lo k))=m6 at*
   subst e1;simp only[sFld];ext;refine nF λB eB=>?_;simp only[fI];ext;refine dF rfl e3.hx T.cl_3 T.h_8 rfl ?_;refine⟨false,lo,rfl,⟨_,SqB.lst d3⟩,λd9 g5=>?_⟩;refine Qi (λj y H=>∃p m,y=V.ref p/\p≠d9/\ps'[j]?=some m/\H p=some (.tup [m.1,.int (j:Int)])) g5 (SqB.lst d3) (by rw[zqe];omega) (λ_ _ _ _⟨p,m,e,n,c8,h⟩i5=>⟨p,m,e,n,c8,i5 _ _ n h⟩) ?_ ?_
   ·intro i y b9 zs b4 a0 e8 b6 b3;obtain⟨p,f,rfl⟩:=mY b4;subst eB;show tTup _ [some (.int i),some p.1] b9 b6;ext;refine⟨by show 2<=sizeLine;decide,λq d2=>?_⟩;refine b3 _ _ (Same.new d2) ⟨q,p,rfl,(λz=>by rw[z,e8]at d2;cases d2),f,oQ⟩
   ·intro b9 zs a0 j7 j8 c7;obtain⟨ts,j2,⟨i4,g9⟩,g2⟩:=Vi (K:=K) (H:=b9) (ps:=ps') (zs:=zs) (n:=0) (by rw[j8,zqe]) (λp f=>⟨(M p f).1,kE (mL a0) 4 (M p f).1 (M p f).2,b0 p f⟩) λj y g7=>by
     obtain⟨p,m,l2,_,g8,l9⟩:=c7 j y g7;exact⟨p,m,l2,g8,by rw[wO];exact l9⟩
    have l3:=e3.up a0;have h5:(ps'.map (·.2)).Nodup:=a8.nodup_iff.mpr (by
     rw[e2,show(tb.map λy=>dat y.1)=(tb.map (·.1)).map dat by rw[yI];rfl];exact List.Pairwise.map dat (λa b h e=>h (hJ.mp e)) f5)
    refine⟨d9,ts,rfl,by rw[←j2];exact .inl (.inl j7),g2,by rw[i4];exact h5,λu J d8 _ d5=>?_⟩;have Y:=l3.up d8;refine⟨_,_,_,Y.hx,T.cl_3,T.h_9,by show 4<1000;decide,?_⟩;have Z:=a0.trans d8;have f0:=By (K:=K) (fs':=(fG5 d c lo k u)) Y.hx;have a3:=Y.put (fG5 d c lo k u);show Q .non (upd J x (.ins t.a_3 g (fG5 d c lo k u)));have k4:KX x J (upd J x (.ins t.a_3 g (fG5 d c lo k u))):=KX.put;have k6:(upd J x (.ins t.a_3 g (fG5 d c lo k u))) k=some (.lst ys):=by rw[nC e7];exact Z _ _ i0
    have l8:u≠x:=λz=>by
     obtain⟨_,_,xs,e,_⟩:=d5;rw[z,Y.hx]at e;cases e
    have h2:=DTr.tk d5 f0 (nC l8);have j5:(upd J x (.ins t.a_3 g (fG5 d c lo k u))) lo=some (.lst (ps'.map (·.1))):=by rw[nC c9];exact Z _ _ d3
    generalize upd J x (.ins t.a_3 g (fG5 d c lo k u))=U at*;have i6:KX x D U:=((j1.trans (KX.same Z)).trans k4);have j0:TK K H U:=KX.tk (λb o h9 e=>a3.s b o h9 e) e4;refine k1 srt U a3.s ⟨g,c,lo,k,u,a3.hx,⟨ps,i6 _ _ i2 l4,Paired.mapP b7 λ_ _ z=>DdS.tk z j0⟩,?_,?_,?_⟩ e9 ?_
    ·obtain⟨l0,l1,f9⟩:=ord_of (K:=K) (H:=U) (ps:=ps') (srt:=srt) W λp f=>⟨kE f0.t 4 (M p f).1 (kE (mL Z) 4 (M p f).1 (M p f).2),b0 p f⟩;exact⟨l0,by rw[j5,l1],f9⟩
    ·obtain⟨g0,g1,l6⟩:=Vh (H:=U) (srt:=srt) (kvs:=kvs) (ys:=ys) (by rw[i9,zqe,g6]) h4 λm d1 p e=>Vl (x:=m.1) (w:=m.2) a3.T f5 (e9.mem_iff.mp d1) e;exact⟨g0,by rw[←g1];exact k6,l6⟩
    ·have c4:numT srt 0=ts.map λt=>(t.2.1,t.2.2.2):=by
      rw[g9];unfold numT;exact Kn W 0
     rw[c4];exact h2
    ·have f7:(ps'.map (·.2)).Pairwise λp q=>lx (fl q) (fl p)=false:=pZ.mpr k2;rw[←W]at f7;exact pZ.mp f7
theorem GrpF.up{H H':Hp}{g:Addr}{d:Nat}{ms:List Dd}{srt:Tb}(h:GrpF K t H g d ms srt)(s:Same H H'):GrpF K t H' g d ms srt:=by
 obtain⟨a,n,lo,f,i,c,⟨gs,k,b⟩,⟨p,j,m⟩,⟨e,l,o⟩,q⟩:=h;exact⟨a,n,lo,f,i,s _ _ c,⟨gs,s _ _ k,Paired.mapP b λ_ _ z=>DdS.up z s⟩,⟨p,s _ _ j,Paired.mapP m λ_ x z=>kE (mL s) 4 (kI x.1) z⟩,⟨e,s _ _ l,Paired.mapP o λ_ _ z=>s _ _ z⟩,q.up s⟩
def sp_1(K:Frag)(t:Adr):Sp:=λvs H Q _=>E4 λ(g:Addr)(d:Nat)(ms:List Dd)(srt:Tb)=>A3 (vs=[.ref g]) (GrpF K t H g d ms srt) (∀l os H',Same H H'->H l=none->H' l=some (.lst (os.map V.ref))->Paired (λp x=>Dt K H' (.ref p) (dat x.1)) os srt->Q (.ref l) H')
theorem ok_1(T:Txt K mg t):FnOk P w K mg base CX0 2 t.a_1 t.d_1 pL' (sp_1 K t):=by
 apply T.F_1.ok sc_1
 ·obtain⟨g,d,ms,srt,rfl,⟨i,m,lo,k,j,a,_,⟨f,c,e⟩,_⟩,b⟩:=h;refine⟨_,(oP (nA (mP fJ rfl T.z_list (nofun) (oK (eE (pv 0) rfl) oM)))),?_⟩;show tRet _ _ [some (.ref g)] H;simp only[tRet,tCB,oV,tNil];refine dF rfl a T.cl_3 T.h_8 rfl ?_;refine⟨false,lo,_,rfl,SqB.lst c,λl hl=>?_⟩;exact b l f _ (Same.new hl) hl oQ (Paired.mapP e λ_ x z=>kE (mL (Same.new hl)) 4 (kI x.1) z)
def sp_6(K:Frag)(t:Adr):Sp:=λvs H Q _=>E4 λ(g:Addr)(d:Nat)(ms:List Dd)(srt:Tb)=>A3 (vs=[.ref g]) (GrpF K t H g d ms srt) (Q (.int d) H)
def sp_e(K:Frag)(t:Adr):Sp:=λvs H Q _=>E4 λ(g:Addr)(d:Nat)(ms:List Dd)(srt:Tb)=>A3 (vs=[.ref g]) (GrpF K t H g d ms srt) (∀l gs H',Same H H'->H l=none->H' l=some (.lst (gs.map V.ref))->Paired (DdS K H') gs ms->Q (.ref l) H')
def sp_f(K:Frag)(t:Adr):Sp:=λvs H Q _=>E6 λ(g p:Addr)(d:Nat)(ms:List Dd)(srt:Tb)(x:Dd)=>A7 (vs=[.ref g,.ref p]) (GrpF K t H g d ms srt) (jC K H p x.1 x.2.1 x.2.2) (x.1.length<=100) (x.2.1.length<=100) (0<x.2.2) (∀H',Same H H'->Q ((vT (numT srt 0) (dat (oZ x))).getD .non) H')
theorem ok_6(T:Txt K mg t):FnOk P w K mg base CX0 2 t.a_6 t.d_6 pL' (sp_6 K t):=by
 apply T.F_6.ok sc_6
 ·obtain⟨g,d,ms,srt,rfl,⟨c,i,lo,f,e,a,_⟩,b⟩:=h;refine⟨_,(oP (nA (eE (pv 0) rfl))),?_⟩;show tRet _ _ [some (.ref g)] H;simp only[tRet];exact dF rfl a T.cl_3 T.h_3 rfl b
theorem ok_e(T:Txt K mg t):FnOk P w K mg base CX0 2 t.a_e t.d_e pL' (sp_e K t):=by
 apply T.F_e.ok sc_e
 ·obtain⟨g,d,ms,srt,rfl,⟨i,f,lo,k,j,b,⟨gs,e,a⟩,_⟩,c⟩:=h;refine⟨_,(oP (nA (mP fJ rfl T.z_list (nofun) (oK (eE (pv 0) rfl) oM)))),?_⟩;show tRet _ _ [some (.ref g)] H;simp only[tRet,tCB,oV,tNil];refine dF rfl b T.cl_3 T.h_e rfl ?_;refine⟨false,f,_,rfl,SqB.lst e,λl hl=>?_⟩;exact c l gs _ (Same.new hl) hl oQ (Paired.mapP a λ_ _ z=>DdS.up z (Same.new hl))
theorem ok_f(T:Txt K mg t):FnOk P w K mg base CX0 3 t.a_f t.d_f pE' (sp_f K t):=by
 have j:=@ok_1t P w K mg base t T;apply T.F_f.ok sc_f
 ·have u:=hr.units;obtain⟨g,p,d,ms,srt,x,rfl,⟨v,z,lo,y,a,k,_,_,_,e⟩,q,m,i,f,l⟩:=h;refine⟨_,(oP (nA (Rf (T:= "") PySem.F.plainAttrs_dict PySem.F.slot_dict_get PySem.F.type_dict_get (Rc u) (eE (pv 0) rfl) (oK (oS j hr.mo T.F_1t (oK (pv 1) oM)) oM)))),?_⟩;show tRet _ _ [some (.ref g),some (.ref p)] H;simp only[tRet,tBMR];refine dF rfl k T.cl_3 T.h_9 rfl ?_;refine⟨⟨a,_,rfl,e⟩,?_⟩;ext;refine⟨p,x.1,x.2.1,x.2.2,rfl,q,m,i,f,λr c b o=>?_⟩;have n:DdAt K c r (oZ x):=o;exact⟨a,_,r,dat (oZ x),rfl,rfl,e.up b,kI _,n.dt,l c b⟩
theorem sq1{b:LM}(h:Sq 1 b):∃a,b=[[a]]:=by
 obtain⟨hl,hr⟩:=h
 match b,hl with
 |[r],_ =>
  have:=hr r (by simp)
  match r,this with
  |[a],_=>exact⟨a,rfl⟩
theorem len2{r:LI'}(h:r.length=2):∃a b,r=[a,b]:=by match r,h with|[a,b],_=>exact⟨a,b,rfl⟩
theorem len3{r:LI'}(h:r.length=3):∃a b c,r=[a,b,c]:=by match r,h with|[a,b,c],_=>exact⟨a,b,c,rfl⟩
theorem len4{r:LI'}(h:r.length=4):∃a b c d,r=[a,b,c,d]:=by match r,h with|[a,b,c,d],_=>exact⟨a,b,c,d,rfl⟩
theorem sq2{e:LM}(h:Sq 2 e):∃a b c d,e=[[a,b],[c,d]]:=by
 obtain⟨hl,hr⟩:=h
 match e,hl with
 |[r,s],_ =>
  obtain⟨a,b,rfl⟩:=len2 (hr r (by simp));obtain⟨c,d,rfl⟩:=len2 (hr s (by simp));exact⟨a,b,c,d,rfl⟩
theorem sq3{k:LM}(h:Sq 3 k):∃a b c d e f g i j,k=[[a,b,c],[d,e,f],[g,i,j]]:=by
 obtain⟨hl,hr⟩:=h
 match k,hl with
 |[r,s,t],_ =>
  obtain⟨a,b,c,rfl⟩:=len3 (hr r (by simp));obtain⟨d,e,f,rfl⟩:=len3 (hr s (by simp));obtain⟨g,i,j,rfl⟩:=len3 (hr t (by simp));exact⟨a,b,c,d,e,f,g,i,j,rfl⟩
theorem sq4{v:LM}(h:Sq 4 v):∃a b c d e f g i j k l m n o p q,v=[[a,b,c,d],[e,f,g,i],[j,k,l,m],[n,o,p,q]]:=by
 obtain⟨hl,hr⟩:=h
 match v,hl with
 |[r,s,t,u],_ =>
  obtain⟨a,b,c,d,rfl⟩:=len4 (hr r (by simp));obtain⟨e,f,g,i,rfl⟩:=len4 (hr s (by simp));obtain⟨j,k,l,m,rfl⟩:=len4 (hr t (by simp));obtain⟨n,o,p,q,rfl⟩:=len4 (hr u (by simp));exact⟨a,b,c,d,e,f,g,i,j,k,l,m,n,o,p,q,rfl⟩
theorem id2:idM 2=[[1,0],[0,1]]:=nofun
theorem id3:idM 3=[[1,0,0],[0,1,0],[0,0,1]]:=nofun
theorem Vg(a b v:Int)(c:0<v):gcdI (a*v) (b*v)=gcdI a b*v:=by
 unfold gcdI;rw[Int.gcd_mul_right];have:((v.natAbs:Nat):Int)=v:=⋯
 rw[Int.natCast_mul,this]
theorem Vf{u v:Int}(b:0<v)(ts:LI'):gl (u*v) (ts.map (·*v))=gl u ts*v:=by
 have e:∀(ts:LI')(a:Int),(ts.map (·*v)).foldl gcdI (a*v)=ts.foldl gcdI a*v:=by
  intro ts
  induction ts with
  |nil=>intro a;rfl
  |cons t r d=>intro a;rw[zK,wL,wL,Vg _ _ _ b,d]
 unfold gl;have:absI (u*v)=absI u*v:=by
  unfold absI;rcases Int.lt_or_le u 0 with l|l
  ·have c:u*v<0:=Int.mul_neg_of_neg_of_pos l b;rw[zG l,zG c,pK]
  ·have c:0<=u*v:=Int.mul_nonneg l (uU b);rw[zF ⋯,zF ⋯]
 rw[this,e]
def Cong(u:Int)(xs ys:LI'):Prop:=xs.length=ys.length/\∀(i:Nat)(x y:Int),xs[i]?=some x->ys[i]?=some y->u∣x-y
theorem Ve{u x y:Int}(a:0<u)(h:u∣x-y):x.fmod u=y.fmod u:=by
 rw[xV _ (uU a),xV _ (uU a)];exact Int.emod_eq_emod_iff_emod_sub_eq_zero.mpr (Int.emod_eq_zero_of_dvd h)
theorem Cong.rest{u:Int}(b:0<u)(ns:LI'):Cong u ns (mJ u ns):=by
 refine⟨by simp[mJ],λi x y e1 a=>?_⟩;unfold mJ at a;rw[zD,e1]at a;cases zQ a;have:=Ug b x;have d:=xV (x.fmod u-x) (uU b);rw[d]at this;have c:=Int.dvd_of_emod_eq_zero this;have:=oB.mpr c
 rwa[Int.neg_sub]at this
theorem Cong.gl{u:Int}{xs ys:LI'}(h:Cong u xs ys):Cw.gl u xs=Cw.gl u ys:=by
 have c:∀{xs ys:LI'}{d:Int},Cong u xs ys->d∣u->(∀t∈xs,d∣t)->∀t∈ys,d∣t:=λ{xs ys d}h m l t n=>by
  obtain⟨i,hi,e⟩:=wM n;have f:i<xs.length:=by rw[h.1];exact hi
  have a:=h.2 i xs[i] t (by simp[f]) (by simp[hi,e]);have b:=l _ (xD f);have g:=pM b (Int.dvd_trans m a)
  rwa[show xs[i]-(xs[i]-t)=t by omega]at g
 have j:Cong u ys xs:=⟨h.1.symm,λi x y e1 k=>by
  have:=oB.mpr (h.2 i y x k e1)
  rwa[Int.neg_sub]at this⟩
 exact Jl λd=>⟨λ⟨a,b⟩=>⟨a,c h a b⟩,λ⟨a,b⟩=>⟨a,c j a b⟩⟩
theorem Cong.red{u:Int}{xs ys:LI'}(q:0<u)(h:Cong u xs ys):redU u xs=redU u ys/\mJ (redU u xs) (redT u xs)=mJ (redU u ys) (redT u ys):=by
 have k:=h.gl;have f:cs u xs=cs u ys:=by unfold cs;rw[k]
 have a:=dB xs (show u≠0 by omega);have e:redU u xs=redU u ys:=by unfold redU;rw[f]
 refine⟨e,?_⟩;have g:0<redU u xs:=cV xs ⋯;have j:redU u xs*cs u xs=u:=iM a (jW (gl_u u xs));rw[←e];unfold mJ redT;refine xP (by simp[h.1]) λi b c=>?_;simp at b c;simp only[List.getElem_map];have n:=h.2 i xs[i] ys[i] (by simp[b]) (by simp[c]);have m:∀x y:Int,u∣x-y->cs u xs∣x->cs u ys∣y->redU u xs∣x.fdiv (cs u xs)-y.fdiv (cs u ys):=λx y p o d=>by
  have e1:x.fdiv (cs u xs)*cs u xs=x:=iM a o;rw[←f]at d ⊢;have l:y.fdiv (cs u xs)*cs u xs=y:=iM a d;refine Int.dvd_of_mul_dvd_mul_right a ?_;rw[j,Int.sub_mul,e1,l];exact p
 exact Ve g (m _ _ n (jW (cU (xD b))) (jW (cU (xD c))))
theorem El{u:Int}:∀(r ts c:LI'),Cong u ts c->u∣dotI r ts-dotI r c
 |[],ts,c,_=>by simp[dotI]
 |x:: r,[],c,h=>by
  have:c=[]:=vA h.1.symm;subst this;simp[dotI]
 |x:: r,t:: ts,[],h=>by have:=h.1;simp at this
 |x:: r,t:: ts,t':: c,h=>by
  have f:=El r ts c ⟨by have:=h.1;simpa using this,λi a b e1 d=>h.2 (i+1) a b (by simpa using e1) (by simpa using d)⟩;have e:=h.2 0 t t' rfl rfl;have e1:dotI (x:: r) (t:: ts)=x*t+dotI r ts:=by simp[dotI]
  have d:dotI (x:: r) (t':: c)=x*t'+dotI r c:=by simp[dotI]
  rw[e1,d,show x*t+dotI r ts-(x*t'+dotI r c)=x*(t-t')+(dotI r ts-dotI r c) by rw[Int.mul_sub];omega];exact pL (Int.dvd_mul_of_dvd_right e) f
theorem Vd{N:LM}{ns ts c b:LI'}{v u:Int}(d:Cong v ns c)(f:Cong u ts b):Cong (v*u) (movT N ns v ts u) (movT N c v b u):=by
 refine⟨by unfold movT;rw[xC,xC,d.1],λi x y e1 a=>?_⟩;unfold movT at e1 a;rw[xB]at e1 a;cases en:N[i]? with
 |none=>rw[en]at e1;cases e1
 | some r =>
  rw[en]at e1 a;cases e3:ns[i]? with
  |none=>rw[e3]at e1;cases e1
  | some n =>
   cases e4:c[i]? with
   |none=>rw[e4]at a;cases a
   |some e =>
    rw[e3]at e1;rw[e4]at a;cases zQ e1;cases zQ a;obtain⟨k,l⟩:=El r ts b f;obtain⟨m,o⟩:=d.2 i n e e3 e4;refine⟨k+m,?_⟩;have g:dotI r ts=dotI r b+u*k:=⋯
    have j:n=e+v*m:=⋯
    rw[g,j];grind
theorem Sq.mul{n:Nat}{A B:LM}(a:Sq n A):Sq n (mulM n A B):=by
 refine⟨by simp[mulM,a.1],λr hr=>?_⟩;obtain⟨z,_,rfl⟩:=pS.mp hr;simp
theorem nM{d:Nat}:Sq d (idM d):=⟨by simp[idM],λr hr=>by
 obtain⟨i,_,rfl⟩:=pS.mp hr;simp⟩
theorem mul2(a b c d f e g d':Int):mulM 2 [[a,b],[c,d]] [[f,e],[g,d']]=[[a*f+b*g,a*e+b*d'],[c*f+d*g,c*e+d*d']]:=by simp[mulM,dotI,colI,List.range,List.range.loop]
theorem mul3(a b c d e f g i j k q n d' p o g' l m:Int):mulM 3 [[a,b,c],[d,e,f],[g,i,j]] [[k,q,n],[d',p,o],[g',l,m]]=[[a*k+(b*d'+c*g'),a*q+(b*p+c*l),a*n+(b*o+c*m)],[d*k+(e*d'+f*g'),d*q+(e*p+f*l),d*n+(e*o+f*m)],[g*k+(i*d'+j*g'),g*q+(i*p+j*l),g*n+(i*o+j*m)]]:=by
 simp[mulM,dotI,colI,List.range,List.range.loop]
theorem mul_assoc{d:Nat}(o:d=2\/d=3){A B C:LM}(m:Sq d A)(k:Sq d B)(l:Sq d C):mulM d (mulM d A B) C=mulM d A (mulM d B C):=by
 rcases o with e|e <;> subst e
 ·obtain⟨a,b,c,d,rfl⟩:=sq2 m;obtain⟨q,p,n,d',rfl⟩:=sq2 k;obtain⟨u,b2,v,r,rfl⟩:=sq2 l;simp only[mul2,List.cons.injEq,and_true];refine⟨⟨?_,?_⟩,?_,?_⟩ <;> grind
 ·obtain⟨a,b,c,d,e,f,g,i,j,rfl⟩:=sq3 m;obtain⟨q,p,n,d',L,I,g',z,D,rfl⟩:=sq3 k;obtain⟨u,b2,v,r,G,F,x,J,y,rfl⟩:=sq3 l;simp only[mul3,List.cons.injEq,and_true];refine⟨⟨?_,?_,?_⟩,⟨?_,?_,?_⟩,?_,?_,?_⟩ <;> grind
theorem jE{d:Nat}(l:d=2\/d=3){A:LM}(k:Sq d A):mulM d (idM d) A=A/\mulM d A (idM d)=A:=by
 rcases l with e|e <;> subst e
 ·obtain⟨a,b,c,d,rfl⟩:=sq2 k;rw[id2,mul2,mul2];simp
 ·obtain⟨a,b,c,d,e,f,g,i,j,rfl⟩:=sq3 k;rw[id3,mul3,mul3];simp
theorem v2{v:LI'}(h:v.length=2):∃x y,v=[x,y]:=len2 h
theorem v3{v:LI'}(h:v.length=3):∃x y z,v=[x,y,z]:=len3 h
def mv(M:LM)(v:LI'):LI':=M.map λr=>dotI r v
def va(v w:LI'):LI':=List.zipWith (·+·) v w
theorem lE{d:Nat}{A:LM}{v:LI'}(h:Sq d A):(mv A v).length=d:=by unfold mv;rw[zqe];exact h.1
theorem mv2(a b c e x y:Int):mv [[a,b],[c,e]] [x,y]=[a*x+b*y,c*x+e*y]:=by simp[mv,dotI]
theorem mv3(a b c d g e i j f x y z:Int):mv [[a,b,c],[d,g,e],[i,j,f]] [x,y,z]=[a*x+(b*y+c*z),d*x+(g*y+e*z),i*x+(j*y+f*z)]:=by simp[mv,dotI]
theorem va2(a b c e:Int):va [a,b] [c,e]=[a+c,b+e]:=rfl
theorem va3(a b c x y z:Int):va [a,b,c] [x,y,z]=[a+x,b+y,c+z]:=rfl
theorem bE{d:Nat}(j:d=2\/d=3){A B:LM}(i:Sq d A)(f:Sq d B){v:LI'}(g:v.length=d):mv (mulM d A B) v=mv A (mv B v):=by
 rcases j with rfl|rfl
 ·obtain⟨a,b,c,e,rfl⟩:=sq2 i;obtain⟨p,o,m,O,rfl⟩:=sq2 f;obtain⟨x,y,rfl⟩:=v2 g;rw[mul2,mv2,mv2,mv2];simp only[List.cons.injEq,and_true];refine⟨?_,?_⟩ <;> grind
 ·obtain⟨l,D,L,u,q,F,C,M,r,rfl⟩:=sq3 i;obtain⟨b1,b2,G,R,k,N,I,J,n,rfl⟩:=sq3 f;obtain⟨x,y,z,rfl⟩:=v3 g;rw[mul3,mv3,mv3,mv3];simp only[List.cons.injEq,and_true];refine⟨?_,?_,?_⟩ <;> grind
theorem Km{d:Nat}(k:d=2\/d=3){A:LM}(g:Sq d A){v w:LI'}(i:v.length=d)(f:w.length=d):mv A (va v w)=va (mv A v) (mv A w):=by
 rcases k with rfl|rfl
 ·obtain⟨a,b,c,e,rfl⟩:=sq2 g;obtain⟨x,y,rfl⟩:=v2 i;obtain⟨j,l,rfl⟩:=v2 f;rw[va2,mv2,mv2,mv2,va2];simp only[List.cons.injEq,and_true];refine⟨?_,?_⟩ <;> grind
 ·obtain⟨q,C,F,r,n,D,u,m,o,rfl⟩:=sq3 g;obtain⟨x,y,z,rfl⟩:=v3 i;obtain⟨j,l,p,rfl⟩:=v3 f;rw[va3,mv3,mv3,mv3,va3];simp only[List.cons.injEq,and_true];refine⟨?_,?_,?_⟩ <;> grind
theorem bF{d:Nat}(b:d=2\/d=3){v:LI'}(a:v.length=d):mv (idM d) v=v:=by
 rcases b with rfl|rfl
 ·obtain⟨x,y,rfl⟩:=v2 a;rw[id2,mv2];simp
 ·obtain⟨x,y,z,rfl⟩:=v3 a;rw[id3,mv3];simp
def smul(k:Int)(T:LI'):LI':=T.map λt=>k*t
theorem jY{k:Int}{T:LI'}:(smul k T).length=T.length:=by unfold smul;rw[zqe]
theorem Kl(c a b:Int):smul c [a,b]=[c*a,c*b]:=rfl
theorem Kk(c a b e:Int):smul c [a,b,e]=[c*a,c*b,c*e]:=rfl
theorem bG{d:Nat}(i:d=2\/d=3){A:LM}(f:Sq d A){v:LI'}(g:v.length=d)(c:Int):mv A (smul c v)=smul c (mv A v):=by
 rcases i with rfl|rfl
 ·obtain⟨a,b,c,e,rfl⟩:=sq2 f;obtain⟨x,y,rfl⟩:=v2 g;rw[Kl,mv2,mv2,Kl];simp only[List.cons.injEq,and_true];refine⟨?_,?_⟩ <;> grind
 ·obtain⟨n,q,r,o,l,k,p,j,m,rfl⟩:=sq3 f;obtain⟨x,y,z,rfl⟩:=v3 g;rw[Kk,mv3,mv3,Kk];simp only[List.cons.injEq,and_true];refine⟨?_,?_,?_⟩ <;> grind
structure Chg(d:Nat)(P P':LM):Prop where
 p:Sq d P
 q:Sq d P'
 l:mulM d P' P=idM d
 r:mulM d P P'=idM d
theorem Chg.id{d:Nat}(a:d=2\/d=3):Chg d (idM d) (idM d):=⟨nM,nM,(jE a nM).1,(jE a nM).1⟩
theorem Chg.then{d:Nat}(a:d=2\/d=3){P b R c:LM}(h:Chg d P b)(g:Chg d R c):Chg d (mulM d R P) (mulM d b c):=by
 refine⟨g.p.mul,h.q.mul,?_,?_⟩
 ·rw[mul_assoc a h.q g.q g.p.mul,←mul_assoc a g.q g.p h.p,g.l,(jE a h.p).1,h.l]
 ·rw[mul_assoc a g.p h.p h.q.mul,←mul_assoc a h.p h.q g.q,h.r,(jE a g.q).1,g.r]
def cjM(d:Nat)(P P' M:LM):LM:=mulM d (mulM d P M) P'
theorem gP{d:Nat}{P a:LM}(h:Chg d P a)(M:LM):Sq d (cjM d P a M):=h.p.mul.mul
theorem Vc{d:Nat}(c:d=2\/d=3){P a R b M:LM}(h:Chg d P a)(g:Chg d R b)(e:Sq d M):cjM d R b (cjM d P a M)=cjM d (mulM d R P) (mulM d a b) M:=by
 unfold cjM;rw[mul_assoc c g.p h.p e,←mul_assoc c (g.p.mul) h.q g.q,mul_assoc c g.p (h.p.mul) h.q]
theorem Vb{d:Nat}(a:d=2\/d=3){P b M:LM}(h:Chg d P b)(e:Sq d M){v:LI'}(c:v.length=d):mv (cjM d P b M) (mv P v)=mv P (mv M v):=by
 unfold cjM;rw[←bE a (h.p.mul.mul) h.p c,mul_assoc a h.p.mul h.q h.p,h.l,(jE a h.p.mul).2,bE a h.p e c]
def vs(v w:LI'):LI':=List.zipWith (· - ·) v w
theorem vs2(a b c e:Int):vs [a,b] [c,e]=[a-c,b-e]:=rfl
theorem vs3(a b c x y z:Int):vs [a,b,c] [x,y,z]=[a-x,b-y,c-z]:=rfl
theorem Ek{d:Nat}{v w:LI'}(a:v.length=d)(b:w.length=d):(va v w).length=d:=by unfold va;rw[xC,a,b,rE]
theorem Va{d:Nat}{v w:LI'}(a:v.length=d)(b:w.length=d):(vs v w).length=d:=by unfold vs;rw[xC,a,b,rE]
theorem Wz{d:Nat}(j:d=2\/d=3){A:LM}(f:Sq d A){v w:LI'}(i:v.length=d)(g:w.length=d):mv A (vs v w)=vs (mv A v) (mv A w):=by
 rcases j with rfl|rfl
 ·obtain⟨a,b,c,e,rfl⟩:=sq2 f;obtain⟨x,y,rfl⟩:=v2 i;obtain⟨p,q,rfl⟩:=v2 g;rw[vs2,mv2,mv2,mv2,vs2];congr 1
  ·grind
  ·congr 1;grind
 ·obtain⟨a,b,c,k,n,l,o,u,m,rfl⟩:=sq3 f;obtain⟨x,y,z,rfl⟩:=v3 i;obtain⟨p,q,r,rfl⟩:=v3 g;rw[vs3,mv3,mv3,mv3,vs3];congr 1
  ·grind
  ·congr 1
   ·grind
   ·congr 1;grind
def cjT(d:Nat)(P P' M:LM)(ts S:LI'):LI':=vs (va (mv P ts) S) (mv (cjM d P P' M) S)
theorem Ej{d:Nat}{P b M:LM}(h:Chg d P b){ts a:LI'}(c:a.length=d):(cjT d P b M ts a).length=d:=Va (Ek (lE h.p) c) (lE h.p.mul.mul)
theorem Kj{d:Nat}(a:d=2\/d=3){P c A B:LM}(h:Chg d P c)(b:Sq d A)(e:Sq d B):mulM d (cjM d P c B) (cjM d P c A)=cjM d P c (mulM d B A):=by
 unfold cjM;rw[mul_assoc a h.p.mul h.q h.p.mul.mul,mul_assoc a h.p b h.q,←mul_assoc a h.q h.p b.mul,h.l,(jE a b.mul).1,←mul_assoc a h.p.mul b h.q,mul_assoc a h.p e b]
def stE(i j:Nat)(m:Int)(a b:Nat):Int:=if a=b then 1 else if a=i/\b=j then m else 0
def stM(d i j:Nat)(m:Int):LM:=(List.range d).map λa=>(List.range d).map λb=>if a=b then 1 else if a=i/\b=j then m else 0
def vst(i j:Nat)(m:Int)(v:LI'):LI':=v.set i (v.getD i 0+m*v.getD j 0)
def mixR(d:Nat)(x y:LI')(m:Int):LI':=(List.range d).map λk=>x.getD k 0+m*y.getD k 0
def colR(d i j:Nat)(m:Int)(row:LI'):LI':=(List.range d).map λk=>row.getD k 0-(if k=j then 1 else 0)*m*row.getD i 0
def bH(d i j:Nat)(m:Int)(A:LM):LM:=(A.set i (mixR d (A.getD i []) (A.getD j []) m)).map (colR d i j m)
theorem dG{d i j:Nat}{m:Int}:Sq d (stM d i j m):=⟨by simp[stM],λr hr=>by
 obtain⟨a,_,rfl⟩:=pS.mp hr;simp⟩
theorem Ei{a:Type}{d k:Nat}{f:Nat->a}{z:a}(h:k<d):((List.range d).map f).getD k z=f k:=by
 rw[zqc,zD,yP h];rfl
theorem bJ{a:Type}{d:Nat}{l:List a}{z:a}(h:l.length=d):l=(List.range d).map λk=>l.getD k z:=by
 refine xP (by simp[h]) λk b c=>?_;rw[wH,uF,zqc,zqd b];rfl
theorem Ki{b:Type}{d i:Nat}{f:Nat->b}{v:b}:((List.range d).map f).set i v=(List.range d).map λa=>if a=i then v else f a:=by
 refine xP (by simp) λk c g=>?_;rw[wH,uF,List.getElem_set]
 by_cases e:i=k
 ·rw[zG e,zG e.symm]
 ·rw[zF e,zF (yA e),wH,uF]
theorem jZ{b:Type}{d:Nat}{f g:Nat->b}(h:∀k,k<d->f k=g k):(List.range d).map f=(List.range d).map g:=xR λk a=>h k (pO.mp a)
theorem dH{x y:Int}{r c:LI'}:dotI (x:: r) (y:: c)=x*y+dotI r c:=by simp[dotI]
theorem Eh{n:Int}{a:Nat}:∀{c:LI'}{s:Nat},dotI ((List.range' s c.length).map λb=>if a=b then n else 0) c=if s<=a then n*c.getD (a-s) 0 else 0
 |[],s=>by simp[dotI]
 | x:: c,s=>by
  rw[zW,List.range'_succ,zK,dH,Eh]
  by_cases h:a=s
  ·subst h;rw[zG rfl,zF ⋯,zG (zE _),uQ,wV];rfl
  ·rw[zF h,wW,rC]
   by_cases d:s<=a
   ·rw[zG d,zG ⋯,show a-s=(a-(s+1))+1 by omega];rfl
   ·rw[zF d,zF ⋯]
theorem Kh{f g:Nat->Int}:∀{l:List Nat}{c:LI'},dotI (l.map λb=>f b+g b) c=dotI (l.map f) c+dotI (l.map g) c
 |[],c=>by simp[dotI]
 |b:: l,[]=>by simp[dotI]
 |b:: l,x:: c=>by
  rw[zK,zK,zK,dH,dH,dH,Kh,Int.add_mul];omega
theorem Eg{d a i j:Nat}(l:i≠j){m:Int}{c:LI'}(n:c.length=d):dotI ((List.range d).map (stE i j m a)) c=c.getD a 0+if a=i then m*c.getD j 0 else 0:=by
 have e:stE i j m a=λb=>(if a=b then(1:Int) else 0)+if j=b then(if a=i then m else 0) else 0:=funext λb=>by
  unfold stE
  by_cases k:a=b
  ·subst k;rw[zG rfl,zG rfl]
   by_cases f:j=a
   ·rw[zG f,zF (λz=>l ⋯),wV]
   ·rw[zF f,wV]
  ·rw[zF k,zF k,rC]
   by_cases f:j=b
   ·by_cases g:a=i
    ·rw[zG ⟨g,f.symm⟩,zG f,zG g]
    ·rw[zF (λz=>g z.1),zG f,zF g]
   ·rw[zF (λz=>f z.2.symm),zF f]
 subst n;rw[e,Kh,List.range_eq_range',Eh,Eh,zG (yR _),zG (yR _),tI];show c.getD a 0+_*c.getD j 0=_
 by_cases h:a=i
 ·rw[zG h,zG h]
 ·rw[zF h,zF h,wW]
theorem Kg{A:LM}{a k:Nat}:(colI k A).getD a 0=(A.getD a []).getD k 0:=by
 unfold colI;rw[zqc,zD,zqc (l:=A)];cases A[a]? <;> rfl
theorem Kf:∀{r c:LI'},dotI r c=dotI c r
 |[],c=>by cases c <;> rfl
 |x:: r,[]=>rfl
 |x:: r,y:: c=>by rw[dH,dH,Kf,uB]
theorem Wy{i j a k:Nat}{n:Int}:stE i j n a k=stE j i n k a:=by
 unfold stE
 by_cases h:a=k
 ·rw[zG h,zG h.symm]
 ·rw[zF h,zF (yA h)]
  by_cases z:a=i/\k=j
  ·rw[zG z,zG z.symm]
  ·rw[zF z,zF (λw=>z w.symm)]
theorem Ke{d i j:Nat}{m:Int}(c:i≠j){A:LM}(b:A.length=d):mulM d (stM d i j m) A=(List.range d).map λa=>(List.range d).map λk=>(A.getD a []).getD k 0+if a=i then m*(A.getD j []).getD k 0 else 0:=by
 unfold mulM stM;rw[yI];refine jZ λa _=>jZ λk _=>?_;have e:(colI k A).length=d:=by unfold colI;rw[zqe,b]
 have:=Eg (a:=a) (m:=m) c e;rw[Kg,Kg]at this;exact this
theorem Wx{d i j:Nat}{n:Int}(c:i≠j){B:LM}(f:∀r∈B,r.length=d):mulM d B (stM d i j n)=B.map λr=>(List.range d).map λk=>r.getD k 0+if k=j then n*r.getD i 0 else 0:=by
 unfold mulM;refine xR λr hr=>jZ λk b=>?_;have e:colI k (stM d i j n)=(List.range d).map (stE j i n k):=by
  unfold colI stM;rw[yI];refine jZ λa _=>?_;show((List.range d).map (stE i j n a)).getD k 0=_;rw[Ei b,Wy]
 rw[e,Kf,Eg (yA c) (f r hr)]
theorem Kd{d i j:Nat}{m:Int}(n:i≠j)(o:j<d):mulM d (stM d i j m) (stM d i j (-m))=idM d:=by
 rw[Ke n dG.1];unfold idM;refine jZ λa g=>jZ λk l=>?_;have e:∀a,a<d->(((stM d i j (-m)).getD a []).getD k 0)=stE i j (-m) a k:=λa g=>by
  unfold stM;rw[Ei g];exact Ei l
 rw[e a g,e j o];unfold stE
 by_cases f:a=k
 ·rw[zG f,zG f]
  by_cases b:a=i
  ·rw[zG b,zF ⋯,zF ⋯,pG,wV]
  ·rw[zF b,wV]
 ·rw[zF f,zF f]
  by_cases b:a=i
  ·rw[zG b]
   by_cases c:k=j
   ·rw[zG ⟨b,c⟩,zG c.symm,uK,Int.add_left_neg]
   ·rw[zF (λz=>c z.2),zF (yA c),zF (λz=>c z.2),pG,wV]
  ·rw[zF (λz=>b z.1),zF b,wV]
theorem Ef{d i j:Nat}{m:Int}(n:d=2\/d=3)(hi:i<d)(g:j<d)(c:i≠j):Chg d (stM d i j m) (stM d i j (-m))/\(∀v:LI',v.length=d->mv (stM d i j m) v=vst i j m v)/\∀A,Sq d A->bH d i j m A=cjM d (stM d i j m) (stM d i j (-m)) A:=by
 refine⟨⟨dG,dG,?_,Kd c g⟩,λv f=>?_,λA b=>?_⟩
 ·have:=Kd (d:=d) (m:=-m) c g;rw[Int.neg_neg]at this;exact this
 ·unfold mv stM vst;rw[yI]
  conv=>rhs;rw[bJ (z:=0) f,Ki,←bJ f]
  refine jZ λa _=>?_;show dotI ((List.range d).map (stE i j m a)) v=_;rw[Eg c f]
  by_cases h:a=i
  ·rw[zG h,zG h,h]
  ·rw[zF h,zF h,wV]
 ·unfold cjM;rw[Wx c dG.mul.2,Ke c b.1];unfold bH;have e:A.set i (mixR d (A.getD i []) (A.getD j []) m)=(List.range d).map λa=>(List.range d).map λk=>(A.getD a []).getD k 0+if a=i then m*(A.getD j []).getD k 0 else 0:=by
   conv=>lhs;rw[bJ (l:=A) (z:=[]) b.1,Ki,←bJ b.1]
   refine jZ λa l=>?_
   by_cases h:a=i
   ·rw[zG h];unfold mixR;refine jZ λk _=>?_;rw[zG h,h]
   ·rw[zF h];have hr:(A.getD a []).length=d:=b.2 _ (by rw[zqc,zqd (by rw[b.1];exact l)];exact xD _)
    conv=>lhs;rw[bJ (z:=0) hr]
    exact jZ λk _=>by rw[zF h,wV]
  rw[e];refine xR λr _=>jZ λk _=>?_
  by_cases h:k=j
  ·rw[zG h,zG h,tI,pK,Int.sub_eq_add_neg]
  ·rw[zF h,zF h,wW,wW,Int.sub_zero,wV]
structure Stp where
 i:Nat
 j:Nat
 m:Int
structure Stp.Ok(d:Nat)(s:Stp):Prop where
 hi:s.i<d
 hj:s.j<d
 ne:s.i≠s.j
 m2:s.m.natAbs<=2
def chP(d:Nat):List Stp->LM
 |[]=>idM d
 |s:: L=>mulM d (stM d s.i s.j s.m) (chP d L)
def chQ(d:Nat):List Stp->LM
 |[]=>idM d
 |s:: L=>mulM d (chQ d L) (stM d s.i s.j (-s.m))
theorem iA{d:Nat}(a:d=2\/d=3):∀{L:List Stp},(∀s∈L,s.Ok d)->Chg d (chP d L) (chQ d L)
 |[],_=>Chg.id a
 |s:: L,h=>by
  have o:=h s (zU ..);exact(iA a λz b=>h z (zM _ b)).then a (Ef a o.hi o.hj o.ne).1
theorem Ww{d:Nat}(a:d=2\/d=3){L:List Stp}(h:∀s∈L,s.Ok d){s:Stp}(o:s.Ok d){A:LM}(b:Sq d A):bH d s.i s.j s.m (cjM d (chP d L) (chQ d L) A)=cjM d (chP d (s:: L)) (chQ d (s:: L)) A:=by
 have g:=(Ef (m:=s.m) a o.hi o.hj o.ne);rw[g.2.2 _ (gP (iA a h) A),Vc a (iA a h) g.1 b];rfl
theorem Wv{d:Nat}(a:d=2\/d=3){L:List Stp}(h:∀s∈L,s.Ok d){s:Stp}(o:s.Ok d){v:LI'}(b:v.length=d):vst s.i s.j s.m (mv (chP d L) v)=mv (chP d (s:: L)) v:=by
 have g:=(Ef (m:=s.m) a o.hi o.hj o.ne);have c:=iA a h;rw[←g.2.1 _ (lE c.p),←bE a dG c.p b];rfl
theorem Kc{d:Nat}(a:d=2\/d=3){A:LM}(b:Sq d A){v:LI'}(c:v.length=d):cjM d (chP d []) (chQ d []) A=A/\mv (chP d []) v=v:=by
 refine⟨?_,bF a c⟩;unfold chP chQ cjM;rw[(jE a b).1,(jE a b).2]
def LeM(N:Nat)(A:LM):Prop:=∀r∈A,∀z∈r,z.natAbs<=N
theorem Kb{d i j:Nat}{m:Int}{N:Nat}(h:m.natAbs<=N)(e:1<=N):LeM N (stM d i j m):=λr hr z c=>by
 obtain⟨a,_,rfl⟩:=pS.mp hr;obtain⟨b,_,rfl⟩:=pS.mp c;split
 ·exact e
 ·split
  ·exact h
  ·omega
theorem Ee{A B:Nat}:∀(r ns:LI'),(∀z∈r,z.natAbs<=A)->(∀z∈ns,z.natAbs<=B)->(dotI r ns).natAbs<=r.length*(A*B)
 |[],ns,_,_=>by simp[dotI]
 |_:: _,[],_,_=>by simp[dotI]
 |a:: r,b:: ns,d,e=>by
  have i:=Ee r ns (λz c=>d z (zM _ c)) λz c=>e z (zM _ c);unfold dotI at i ⊢;rw[yW,List.sum_cons,zW,sF];have e1:(a*b).natAbs<=A*B:=by rw[xT];exact vD (d a zU) (e b zU)
  have j:=sJ (a*b) (List.zipWith (λg f=>g*f) r ns).sum;omega
theorem Wu{N:Nat}{A:LM}(h:LeM N A)(k:Nat):∀z∈colI k A,z.natAbs<=N:=λz a=>by
 unfold colI at a;obtain⟨r,hr,rfl⟩:=pS.mp a;rw[zqc];cases e:r[k]? with
 |none=>exact yR _
 |some y=>exact h r hr y (zqb e)
theorem Bx{d A B:Nat}{M N:LM}(c:Sq d M)(b:LeM A M)(e:LeM B N):LeM (d*(A*B)) (mulM d M N):=λr hr z f=>by
 obtain⟨x,a,rfl⟩:=pS.mp hr;obtain⟨k,_,rfl⟩:=pS.mp f;have:=Ee x (colI k N) (b x a) (Wu e k);rw[c.2 x a]at this;exact this
theorem Ka{c:Int}:∀{r v:LI'},dotI r (smul c v)=c*dotI r v
 |[],v=>by simp[dotI]
 |_:: _,[]=>by simp[dotI,smul]
 |a:: r,x:: v=>by
  have:=Ka (c:=c) (r:=r) (v:=v);unfold dotI smul at this ⊢;simp only[List.map_cons,List.zipWith_cons_cons,List.sum_cons];rw[this];grind
def canD(M:LM)(ts:LI')(U:Int):Dd:=(M,mJ (redU U ts) (redT U ts),redU U ts)
theorem Lz{M:LM}{ts b:LI'}{U:Int}(c:0<U)(h:Cong U ts b):canD M ts U=canD M b U:=by
 obtain⟨a,d⟩:=h.red c;unfold canD;rw[a,←a,d,a]
theorem Bw{U:Int}{ts:LI'}(a:0<U):cs U ts=gl U ts/\0<cs U ts:=by
 have:=Ae ts (show U≠0 by omega);unfold cs;rw[zF ⋯];exact⟨rfl,this⟩
theorem Ly{U:Int}{ts:LI'}(b:0<U):∃c,0<c/\ts=smul c (redT U ts)/\U=c*redU U ts/\0<redU U ts:=by
 obtain⟨e,d⟩:=Bw (ts:=ts) b;refine⟨cs U ts,d,?_,?_,cV ts ⋯⟩
 ·unfold smul redT;rw[yI]
  conv=>lhs;rw[←sQ ts]
  refine xR λt a=>?_;show t=cs U ts*t.fdiv (cs U ts);rw[uB];exact(iM ⋯ (jW (cU a))).symm
 ·rw[uB];exact(iM ⋯ (jW (gl_u U ts))).symm
theorem Ws{U k:Int}{ts:LI'}(b:0<U)(a:0<k):redT (k*U) (smul k ts)=redT U ts/\redU (k*U) (smul k ts)=redU U ts:=by
 have d:0<k*U:=xF a b;have c:cs (k*U) (smul k ts)=k*cs U ts:=by
  rw[(Bw d).1,(Bw b).1,uB k U,uB k (gl U ts),←Vf a];unfold smul;congr 1;exact xR λt _=>uB k t
 have f:=(Bw (ts:=ts) b).2;refine⟨?_,?_⟩
 ·unfold redT;rw[c];unfold smul;rw[yI];exact xR λt e=>by
   show(k*t).fdiv (k*cs U ts)=_;exact Int.mul_fdiv_mul_of_pos _ _ a
 ·unfold redU;rw[c];exact Int.mul_fdiv_mul_of_pos _ _ a
theorem Ed{M:LM}{U k:Int}{ts:LI'}(b:0<U)(a:0<k):canD M (smul k ts) (k*U)=canD M ts U:=by
 obtain⟨d,c⟩:=Ws (ts:=ts) b a;unfold canD;rw[d,c]
theorem Wr{N:LM}{ns ts:LI'}{c e u v:Int}:movT N (smul e ns) (e*v) (smul c ts) (c*u)=smul (e*c) (movT N ns v ts u):=by
 unfold movT
 induction N generalizing ns with
 |nil=>rfl
 | cons r N b =>
  cases ns with
  |nil=>rfl
  |cons n ns =>
   have:=b (ns:=ns);unfold smul at this ⊢;rw[zK,yW,yW,zK,this];have a:=Ka (c:=c) (r:=r) (v:=ts);unfold smul at a;rw[a];congr 1;grind
theorem gQ{d:Nat}{M N:LM}{ts ns:LI'}{U V:Int}(m:0<U)(l:0<V):nD d (canD M ts U) (canD N ns V)=canD (mulM d N M) (movT N ns V ts U) (V*U):=by
 obtain⟨c,n,e1,g,a⟩:=Ly (ts:=ts) m;obtain⟨e,j,i,f,b⟩:=Ly (ts:=ns) l;have k1:canD (mulM d N M) (movT N ns V ts U) (V*U)=canD (mulM d N M) (movT N (redT V ns) (redU V ns) (redT U ts) (redU U ts)) (redU V ns*redU U ts):=by
  have hh:V*U=(e*c)*(redU V ns*redU U ts):=by
   conv=>lhs;rw[g,f]
   grind
  have k:movT N ns V ts U=smul (e*c) (movT N (redT V ns) (redU V ns) (redT U ts) (redU U ts)):=by
   rw[←Wr,←e1,←g,←i,←f]
  rw[hh,k,Ed (xF b a) (xF j n)]
 rw[k1];exact Lz (xF b a) (Vd (Cong.rest b _) (Cong.rest a _)) |>.symm
def frD(d:Nat)(P P':LM)(s:LI')(su p:Int)(R:LM)(t:LI'):Dd:=canD (cjM d P P' R) (cjT d P P' R (smul su t) (smul p s)) (p*su)
theorem Wq{d:Nat}(q:d=2\/d=3){A B C D g:LI'}(j:A.length=d)(k:B.length=d)(i:C.length=d)(l:D.length=d)(m:g.length=d):va (vs (va A B) C) (vs (va D g) B)=vs (va (va A D) g) C:=by
 rcases q with rfl|rfl
 ·obtain⟨a,n,rfl⟩:=v2 j;obtain⟨b,u,rfl⟩:=v2 k;obtain⟨c,o,rfl⟩:=v2 i;obtain⟨e,r,rfl⟩:=v2 l;obtain⟨f,p,rfl⟩:=v2 m;simp only[va2,vs2,List.cons.injEq,and_true];omega
 ·obtain⟨a,n,z,rfl⟩:=v3 j;obtain⟨b,u,b2,rfl⟩:=v3 k;obtain⟨c,o,v,rfl⟩:=v3 i;obtain⟨e,r,y,rfl⟩:=v3 l;obtain⟨f,p,x,rfl⟩:=v3 m;simp only[va3,vs3,List.cons.injEq,and_true];omega
theorem Wp{N:LM}{ns ts:LI'}{U:Int}:movT N ns U ts U=smul U (va (mv N ts) ns):=by
 unfold movT va mv
 induction N generalizing ns with
 |nil=>rfl
 | cons r N a =>
  cases ns with
  |nil=>rfl
  |cons n ns =>
   have:=a (ns:=ns);unfold smul at this ⊢;rw[yW,zK,yW,zK,this];congr 1;grind
theorem Lx{c:Int}:∀{v w:LI'},smul c (va v w)=va (smul c v) (smul c w)
 |[],_=>by simp[smul,va]
 |_:: _,[]=>by simp[smul,va]
 |a:: v,b:: w=>by
  have:=Lx (c:=c) (v:=v) (w:=w);unfold smul va at this ⊢;simp only[List.map_cons,List.zipWith_cons_cons];rw[this,Int.mul_add]
theorem fr_step{d:Nat}(a:d=2\/d=3){P j:LM}(h:Chg d P j){s:LI'}(v:s.length=d){b p:Int}(r:0<b)(u:0<p){f R2:LM}(m:Sq d f)(c:Sq d R2){l i:LI'}(l1:l.length=d)(l2:i.length=d):
  nD d (frD d P j s b p f l) (frD d P j s b p R2 i)=frD d P j s b p (mulM d R2 f) (va (mv R2 l) i):=by
 have k:0<p*b:=xF u r;have g:(smul p s).length=d:=by rw[jY];exact v
 have q:(smul b l).length=d:=by rw[jY];exact l1
 have o:(smul b i).length=d:=by rw[jY];exact l2
 have n:=gP h f;have e:=gP h R2;unfold frD;rw[gQ k k,Wp,Ed k k,Kj a h m c];congr 1;unfold cjT;rw[Wz a e (Ek (lE h.p) g) (lE n),Km a e (lE h.p) g,Vb a h c q,Wq a (lE h.p) (lE e) (lE e) (lE h.p) g,←bE a e n g,Kj a h m c,Lx,Km a h.p (by rw[jY];exact lE c) o,bG a c l1]
theorem Wo{u:Int}{a e b f:LI'}(j:Cong u a e)(k:Cong u b f):Cong u (va a b) (va e f):=by
 refine⟨by unfold va;rw[xC,xC,j.1,k.1],λi x y d c=>?_⟩;unfold va at d c;rw[xB]at d c;cases ea:a[i]? <;> cases eb:b[i]? <;> simp[ea,eb]at d;cases ea':e[i]? <;> cases eb':f[i]? <;> simp[ea',eb']at c;rename_i p q g l;have m:=j.2 i _ _ ea ea';have n:=k.2 i _ _ eb eb';rw[←d,←c,show p+q-(g+l)=(p-g)+(q-l) by omega];exact pL m n
theorem Wn{u:Int}{a e b f:LI'}(j:Cong u a e)(k:Cong u b f):Cong u (vs a b) (vs e f):=by
 refine⟨by unfold vs;rw[xC,xC,j.1,k.1],λi x y d c=>?_⟩;unfold vs at d c;rw[xB]at d c;cases ea:a[i]? <;> cases eb:b[i]? <;> simp[ea,eb]at d;cases ea':e[i]? <;> cases eb':f[i]? <;> simp[ea',eb']at c;rename_i p q g l;have m:=j.2 i _ _ ea ea';have n:=k.2 i _ _ eb eb';rw[←d,←c,show p-q-(g-l)=(p-g)-(q-l) by omega];exact pM m n
theorem Lw{u:Int}(a:LI'):Cong u a a:=⟨rfl,λi x y c b=>by rw[c]at b;cases b;rw[Int.sub_self];exact Int.dvd_zero u⟩
theorem Wm{u:Int}{M:LM}{a d:LI'}(h:Cong u a d):Cong u (mv M a) (mv M d):=by
 refine⟨by unfold mv;rw[zqe,zqe],λi x y c b=>?_⟩;unfold mv at c b;rw[zD]at c b;cases e:M[i]? <;> simp[e]at c b;rw[←c,←b];exact El _ _ _ h
theorem Wl{u c:Int}{a f:LI'}(h:Cong u a f):Cong (u*c) (smul c a) (smul c f):=by
 refine⟨by rw[jY,jY,h.1],λi x y d b=>?_⟩;unfold smul at d b;rw[zD]at d b;cases e:a[i]? <;> simp[e]at d;cases e':f[i]? <;> simp[e']at b;rw[←d,←b,←Int.mul_sub,uB c];exact qQ (h.2 i _ _ e e') (uA c)
theorem Wk{d:Nat}{P b:LM}{s:LI'}{a p:Int}(c:0<a)(e:0<p){R:LM}{t t':LI'}(h:Cong p t t'):frD d P b s a p R t=frD d P b s a p R t':=
 Lz (xF e c) (Wn (Wo (Wm (Wl h)) (Lw _)) (Lw _))
theorem bK{g:Type}:∀{l L:List g},l.Nodup->(∀x∈l,x∈L)->l.length<=L.length
 |[],L,_,_=>yR _
 | a:: l,L,f,h=>by
  obtain⟨s,t,e⟩:=List.append_of_mem (h a zU);have c:=rK.mp f;have:=bK (L:=s++t) c.2 λx d=>by
   have b:=h x (zM _ d);rw[e]at b;rcases oA.mp b with b|b
   ·exact xN _ b
   ·rcases xE.mp b with rfl|b
    ·exact absurd d c.1
    ·exact yK _ b
  rw[e];simp only[List.length_append,List.length_cons]at this ⊢;omega
theorem Lv{d:Nat}{x:Dd}{w:List Nat}{G:Dd->Prop}:∀(l:List (Dd×Nat))(tb:Tb),(∀k∈l,G (nD d x k.1))->(∀y∈tb,G y.1)->∀y∈l.foldl (nxt d x w) tb,G y.1
 |[],_,_,h=>h
 |k:: l,tb,a,h=>Lv l _ (λc b=>a c (zM _ b)) (Ks h (a k zU))
theorem Lu{ss:List Dd}{k:Dd×Nat}(h:k∈ss.zipIdx):k.1∈ss/\ss[k.2]?=some k.1:=by
 obtain⟨i,hi⟩:=yX h;rw[rJ]at hi;cases e:ss[i]? with
 |none=>rw[e]at hi;cases hi
 |some s =>
  rw[e]at hi;cases hi;exact⟨zqb e,by simpa using e⟩
theorem Wj{d:Nat}{ss:List Dd}{G:Dd->Prop}(b:∀x,G x->∀s∈ss,G (nD d x s)){tb:Tb}{i:Nat}(h:∀y∈tb,G y.1):∀y∈jD d ss tb i,G y.1:=by
 unfold jD;cases e:tb[i]? with
 |none=>exact h
 |some c=>exact Lv _ _ (λk a=>b _ (h _ (zqb e)) _ (Lu a).1) h
theorem Ls{d:Nat}{ss:List Dd}{G:Dd->Prop}(a:∀x,G x->∀s∈ss,G (nD d x s)):∀(n i:Nat)(tb:Tb),(∀y∈tb,G y.1)->∀y∈nZ d ss n i tb,G y.1
 |0,_,_,h=>h
 |n+1,i,tb,h=>by
  unfold nZ;split
  ·exact Ls a n (i+1) _ (Wj a h)
  ·exact h
theorem Wi{d:Nat}{ss:List Dd}{tb:Tb}{i:Nat}(h:(tb.map (·.1)).Nodup):((jD d ss tb i).map (·.1)).Nodup:=by
 unfold jD;split
 ·exact h
 ·exact Kt _ _ h
theorem Lr{d:Nat}{ss:List Dd}:∀(n i:Nat)(tb:Tb),(tb.map (·.1)).Nodup->((nZ d ss n i tb).map (·.1)).Nodup
 |0,_,_,h=>h
 |n+1,i,tb,h=>by
  unfold nZ;split
  ·exact Lr n (i+1) _ (Wi h)
  ·exact h
abbrev tab(d:Nat)(ss:List Dd)(N:Nat):Tb:=nZ d ss N 0 [(oX d,[])]
theorem bL{d:Nat}{ss:List Dd}{N:Nat}:((tab d ss N).map (·.1)).Nodup:=Lr N 0 _ (by simp)
theorem Bv{d:Nat}{ss:List Dd}{N:Nat}{G:Dd->Prop}(b:G (oX d))(c:∀x,G x->∀s∈ss,G (nD d x s)):∀y∈tab d ss N,G y.1:=Ls c N 0 _ λy a=>by rw[pY.mp a];exact b
theorem Wh{d:Nat}{ss:List Dd}{N:Nat}{G:Dd->Prop}{L:List Dd}(c:G (oX d))(f:∀x,G x->∀s∈ss,G (nD d x s))(a:∀x,G x->x∈L):(tab d ss N).length<=L.length:=by
 rw[←zqe (f:=(·.1))];exact bK bL λx e=>by
  obtain⟨y,b,rfl⟩:=pS.mp e;exact a _ (Bv c f y b)
theorem Lq{d:Nat}{x:Dd}{w:List Nat}:∀(l:List (Dd×Nat))(tb:Tb),∀k∈l,nD d x k.1∈(l.foldl (nxt d x w) tb).map (·.1)
 | k:: l,tb,a,b=>by
  rw[wL];rcases xE.mp b with rfl|b
  ·have h:nD d x a.1∈(nxt d x w tb a).map (·.1):=by
    unfold nxt;split
    ·assumption
    ·simp
   obtain⟨r,e⟩:=cZ d x w l (nxt d x w tb a);rw[e,yV];exact xN _ h
  ·exact Lq l _ a b
theorem Wg{d:Nat}{ss:List Dd}{tb:Tb}{i:Nat}{a:Dd×List Nat}(e:tb[i]?=some a){s:Dd}(c:s∈ss):nD d a.1 s∈(jD d ss tb i).map (·.1):=by
 unfold jD;rw[e];obtain⟨j,b⟩:=yX c;exact Lq ss.zipIdx tb (s,j) (zqb (i:=j) (by rw[rJ,b];simp))
theorem Lp{d:Nat}{ss:List Dd}:∀(n i:Nat)(tb:Tb),(∀j,j<i->∀a,tb[j]?=some a->∀s∈ss,nD d a.1 s∈tb.map (·.1))->(nZ d ss n i tb).length<=n+i->∀a∈nZ d ss n i tb,∀s∈ss,nD d a.1 s∈(nZ d ss n i tb).map (·.1)
 |0,i,tb,h,hl=>λa g s c=>by
  obtain⟨j,b⟩:=yX g;have:=(zqa b).1;unfold nZ at hl this b ⊢;exact h j ⋯ _ b s c
 | n+1,i,tb,h,hl=>by
  unfold nZ at hl ⊢;split
  ·next q =>
   rw[zG q]at hl;obtain⟨r,f⟩:=Kx d ss tb i;refine Lp n (i+1) _ (λj b a e s c=>?_) ⋯;rcases uT j i with l|l
   ·rw[f,yT ⋯]at e;rw[f,yV];exact xN _ (h j l a e s c)
   ·have:j=i:=⋯
    subst this;rw[f,yT ⋯]at e;exact Wg e c
  ·next q =>
   intro a g s c;obtain⟨j,b⟩:=yX g;have:=(zqa b).1;exact h j ⋯ _ b s c
theorem Eb{d:Nat}{ss:List Dd}{N:Nat}(h:(tab d ss N).length<=N):∀a∈tab d ss N,∀s∈ss,nD d a.1 s∈(tab d ss N).map (·.1):=Lp N 0 _ (λj b=>absurd b (tN j)) h
theorem Bu{d:Nat}{ss:List Dd}{N:Nat}:(oX d,[])∈tab d ss N:=by
 obtain⟨r,e⟩:=Ab d ss N 0 [(oX d,[])];unfold tab;rw[e];simp
def Bt(d:Nat)(ss:List Dd)(w:List Nat):Dd:=w.foldl (λx k=>nD d x (ss.getD k (oX d))) (oX d)
def WdOk(d:Nat)(ss:List Dd)(y:Dd×List Nat):Prop:=y.1=Bt d ss y.2/\∀k∈y.2,k<ss.length
theorem Lo{d:Nat}{ss:List Dd}{x:Dd}{w:List Nat}(c:WdOk d ss (x,w)):∀(l:List (Dd×Nat))(tb:Tb),(∀k∈l,ss[k.2]?=some k.1)->(∀y∈tb,WdOk d ss y)->∀y∈l.foldl (nxt d x w) tb,WdOk d ss y
 |[],_,_,h=>h
 | k :: l,tb,hl,h=>by
  refine Lo c l _ (λg f=>hl g (zM _ f)) λy a=>?_;unfold nxt at a;split at a
  ·exact h y a
  ·rcases oA.mp a with a|a
   ·exact h y a
   ·rw[pY.mp a];have e:=hl k zU;refine⟨?_,λj b=>?_⟩
    ·show nD d x k.1=Bt d ss (w++[k.2]);unfold Bt;rw[uL,wL,List.foldl_nil];show _=nD d (Bt d ss w) _;rw[←c.1,zqc,e];rfl
    ·rcases oA.mp b with b|b
     ·exact c.2 j b
     ·rw[pY.mp b];exact(zqa e).1
theorem Ln{d:Nat}{ss:List Dd}:∀(n i:Nat)(tb:Tb),(∀y∈tb,WdOk d ss y)->∀y∈nZ d ss n i tb,WdOk d ss y
 |0,_,_,h=>h
 | n+1,i,tb,h=>by
  unfold nZ;split
  ·refine Ln n (i+1) _ ?_;unfold jD;cases e:tb[i]? with
   |none=>exact h
   |some b=>exact Lo (h _ (zqb e)) _ _ (λk a=>(Lu a).2) h
  ·exact h
theorem Wf{d:Nat}{ss:List Dd}{N:Nat}:∀y∈tab d ss N,WdOk d ss y:=Ln N 0 _ λy b=>by rw[pY.mp b];exact⟨rfl,λk a=>by cases a⟩
theorem fms(x y:Int)(h:0<y):0<=x.fmod y/\x.fmod y<y:=⟨uI x h,tR x h⟩
theorem mO.le{B C:Nat}{ts:LI'}(h:mO B ts)(a:B<=C):mO C ts:=λx b=>zI (h x b) (zX ∅ a)
def gR(H:Hp)(l:Addr)(L:List Stp):Prop:=∃ps:LA,H l=some (.lst (ps.map V.ref))/\ps.length=L.length/\∀(k:Nat) p s,ps[k]?=some p->L[k]?=some s->H p=some (.tup [.int s.i,.int s.j,.int s.m])
theorem gR.up{H H':Hp}{l:Addr}{L:List Stp}(h:gR H l L)(s:Same H H'):gR H' l L:=by
 obtain⟨ps,c,d,b⟩:=h;exact⟨ps,s _ _ c,d,λk p x e1 a=>s _ _ (b k p x e1 a)⟩
def sp_n:Sp:=λvs H Q _=>E3 λ(c b:Int)(m:Nat)=>A5 (vs=[.int c,.int b,.int m]) (1<=b) (b<=10000000000) (m<=40) (∀r H'(ns:LI'),Same H H'->H r=none->H' r=some (.lst (ns.map V.int))->ns.length=m->(∀x∈ns,0<=x/\x<b)->Q (.ref r) H')
def sp_y:Sp:=λvs H Q _=>E2 λ(a b:Int)=>A3 (vs=[.int a,.int b]) (0<=a) (Q (.int (gcdI a b)) H)
def sp_s(K:Frag):Sp:=λvs H Q _=>E4 λ(b:Bool)(a:Addr)(ns:LI')(u:Int)=>A6 (vs=[.ref a,.int u]) (SqB b K H a (ns.map V.int)) (ns.length<=100) (0<u) (jB u) (∀p H',Same H H'->nP H' p (redT u ns) (redU u ns)->Q (.ref p) H')
def sp_1d(K:Frag):Sp:=λvs H Q _=>E8 λ(b1 b2 b3:Bool)(a l:Addr)(A:LM)(ns:LI')(d:Nat)=>A9 (vs=[.ref a,.ref l]) (MatB b1 b2 K H a A) (SqB b3 K H l (ns.map V.int)) (Sq d A) ((d=2\/d=3)) (ns.length=d) (nY 1700 A) (mO 9000000 ns) (∀r H',Same H H'->H r=none->H' r=some (.lst ((mv A ns).map V.int))->Q (.ref r) H')
def sp_19:Sp:=λvs H Q _=>E2 λ(c:Int)(d:Nat)=>A3 (vs=[.int c,.int d]) ((d=2\/d=3)) (∀r H'(s:Stp),Same H H'->H' r=some (.tup [.int s.i,.int s.j,.int s.m])->s.Ok d->Q (.ref r) H')
def sp_b(K:Frag):Sp:=λvs H Q _=>E7 λ(b:Bool)(a l:Addr)(ns:LI')(L:List Stp)(d C:Nat)=>A10 (vs=[.ref a,.ref l]) (SqB b K H a (ns.map V.int)) (gR H l L) (ns.length=d) ((d=2\/d=3)) ((∀s∈L,s.Ok d)) (L.length<=40) (mO C ns) (C<=9000000) (∀r H',Same H H'->H r=none->H' r=some (.lst ((mv (chP d L.reverse) ns).map V.int))->mO (C+2*L.length) (mv (chP d L.reverse) ns)->Q (.ref r) H')
def sp_5(K:Frag):Sp:=λvs H Q _=>E8 λ(b1 b2:Bool)(a l:Addr)(A:LM)(L:List Stp)(d B:Nat)=>A10 (vs=[.ref a,.ref l]) (MatB b1 b2 K H a A) (gR H l L) (Sq d A) ((d=2\/d=3)) ((∀s∈L,s.Ok d)) (L.length<=40) (nY B A) (B<=1000) (∀r H',Same H H'->MatL H' r (cjM d (chP d L.reverse) (chQ d L.reverse) A)->nY (B+4*L.length) (cjM d (chP d L.reverse) (chQ d L.reverse) A)->Q (.ref r) H')
def sp_9(K:Frag):Sp:=λvs H Q _=>E9 λ(b1 b2 b3 b4:Bool)(a b:Addr)(A B:LM)(d:Nat)=>A9 (vs=[.ref a,.ref b]) (MatB b1 b2 K H a A) (MatB b3 b4 K H b B) (Sq d A) (Sq d B) ((d=2\/d=3)) (nY 1000 A) (nY 1000 B) (∀r H',Same H H'->MatL H' r (mulM d A B)->Q (.ref r) H')
def sp_1a(K:Frag):Sp:=λvs H Q _=>E3 λ(p:Addr)(ns:LI')(u:Int)=>A5 (vs=[.ref p]) (PlS K H p ns u) (ns.length<=100) (0<u) (∀p' H',Same H H'->nP H' p' (mJ u ns) u->Q (.ref p') H')
theorem We(a b:Int):gcdI (b.fmod a) a=gcdI a b:=by
 unfold gcdI;have:=Ji b a;rw[pI,this,pI]
theorem Wd{u:Int}(a:0<u)(ns:LI'){i:Nat}{n:Int}(h:ns[i]?=some n):gl u (ns.take (i+1))=gcdI (gl u (ns.take i)) n:=by
 unfold gl;rw[Jd h,uL];rfl
theorem ok_y(T:Txt K mg t):FnOk P w K mg base CX0 1 t.a_y t.d_y pg' sp_y:=by
 apply T.F_y.ok sc_y
 ·obtain⟨a,b,rfl,k,i⟩:=h;refine⟨_,(oN (Bl yD (nL kS (pq 0) oW (nJ _))
   (oP (Nn (i:=0) (j:=1) rfl sc_y.nd rfl rfl ∅ rfl rfl (oK (oR lA (pq 1) (pq 0)) (oK (pq 0) oM)) rfl)))
   (oP (nA (mV eA rfl T.z_abs (nofun) (oK (pq 1) oM))))),?_⟩
  show tSeq _ _ _ [some (.int a),some (.int b)] H;refine st λN1 e1=>Hx λB eB=>?_;refine⟨λm f c=>∃x y,f=[some (.int x),some (.int y)]/\c=H/\gcdI x y=gcdI a b/\0<=x/\m=x.natAbs,⟨_,a,b,rfl,rfl,rfl,k,rfl⟩,?_⟩;rintro m f c ⟨x,y,rfl,rfl,e,n,rfl⟩;ext
  by_cases z:x=0
  ·rw[zL z];refine iteF ?_;symm;have j:(if y<0 then -y else y)=gcdI a b:=by
    rw[←e,z];unfold gcdI;rw[Int.gcd_zero_left];split <;> omega
   rw[j];exact i
  ·rw[zN z];refine iteT ⟨λd H'=>d=[some (.int (y.fmod x)),some (.int x)]/\H'=c,?_,?_⟩
   ·rintro d H' ⟨rfl,rfl⟩;have g:=uI y (show 0<x by omega);have l:=tR y (show 0<x by omega);exact⟨(y.fmod x).natAbs,⋯,_,_,rfl,rfl,by rw[We];exact e,g,rfl⟩
   ·subst eB;ext;exact z
theorem ok_s(T:Txt K mg t):FnOk P w K mg base CX0 2 t.a_s t.d_s ph' (sp_s K):=by
 have O:=@ok_y P w K mg base t T;apply T.F_s.ok sc_s
 ·obtain⟨b,a,ns,u,rfl,d,hl,N,F,W⟩:=h;refine⟨_,(oN (oY (i:=2) sc_s.nd rfl (Or.inr rfl) (pq 1))
   (oN (lF yD rfl (nH (pq 0)) (nN (i:=3) sc_s.nd rfl (Or.inl rfl))
   (oP (oY (i:=2) sc_s.nd rfl (Or.inr rfl) (oS O hr.mo T.F_y (oK (pq 2) (oK (pq 3) oM))))))
   (oP (nA (mG (oK (mP kL rfl T.z_tuple (nofun) (oK (nR (sc:=oO Aj) (N:=N_s) (fr:=[("_law_by",2)]) (te:=(tOp (rI jH λi j=>.int (i.fdiv j)) (tVar 0) (tVar 1))) rfl rfl (nofun) rfl (nofun) (nH (pq 0)) (λ_ _ _ Y=>(oR kG (pv 0) (pv 1)))) oM)) (oK (oR kG (pq 1) (pq 2)) oM))))))),?_⟩
  show tSeq _ _ _ [some (.ref a),some (.int u),none,none] H;have M:gl u []=u:=by unfold gl absI;rw[zF ⋯];rfl
  right;subst e1;refine st λN1 e1=>lH λB eB=>?_;simp only[iSeq];ext;refine⟨b,⟨_,d⟩,?_⟩;refine kZ (b:=b) (g:=oU 3) (tb:=B) (λi f c=>∃v3,f=[some (.ref a),some (.int u),some (.int (gl u (ns.take i))),v3]/\c=H) ⟨none,by rw[vR,M],rfl⟩ (λi f c _⟨_,_,e⟩=>e ▸ d) ?_ ?_
  ·rintro i x f c k ⟨v3,rfl,rfl⟩;obtain⟨n,g,rfl⟩:=mS k;subst eB;show tAsg _ _ _ [some (.ref a),some (.int u),some (.int (gl u (ns.take i))),some (.int n)] c;ext;refine⟨_,_,rfl,dA _ _,?_⟩;rw[Wd N ns g];exact⟨rfl,rfl⟩
  ·rintro f c ⟨v3,rfl,rfl⟩;rw[zqe,vS];have Z:=Ae ns (show u≠0 by omega);have l:cs u ns=gl u ns:=by unfold cs;rw[zF ⋯]
   have o:∀x,jH x (gl u ns):=λx=>⟨⋯,Jf (Je F ⋯ (gl_u u ns)) ⋯⟩;symm;refine nF λa0 J=>?_;simp only[iSeq];ext;refine⟨b,⟨_,d⟩,λG D=>?_⟩;refine nO (λj y _=>∃n,ns[j]?=some n/\y=.int (n.fdiv (gl u ns))) D d (by rw[zqe];omega) (λ_ _ _ _ r _=>r) ?_ ?_
   ·intro i x z zs k m C R I;obtain⟨n,g,rfl⟩:=mS k;subst J;show tOp _ _ _ [some (.int n),some (.int (gl u ns))] z R;ext;exact⟨o _,I _ _ (Same.refl _) ⟨n,g,rfl⟩⟩
   ·intro z zs m C U X;have L:zs=(redT u ns).map V.int:=by
     unfold redT;rw[yI,l];exact mD (by simpa using U) X
    subst L;refine⟨G,_,rfl,.inl ⟨SqL.of C,λq S=>⟨o _,by show 2<=sizeLine;decide,λp v=>W p _ (m.trans ((Same.new S).trans (Same.new v))) ⟨q,?_,(Same.new v) _ _ oQ⟩⟩⟩⟩;rw[oQ];unfold redU;rw[l]
theorem ok_1d(T:Txt K mg t):FnOk P w K mg base CX0 1 t.a_1d t.d_1d pm' (sp_1d K):=by
 apply T.F_1d.ok sc_1d
 ·obtain⟨b1,b2,a2,a,l,z,ns,d,rfl,a0,U,F,a8,hl,W,O,a3⟩:=h;refine⟨_,(oP (nA (kU (xs:=["_law_row"]) (fr:=[("_law_tops",1)]) (g:=(oU 0)) (tt:=(tEl (tCB (λxs H Q=>∃(p:Addr)(ns:LI'),xs=[.ref p]/\SqL K H p (ns.map V.int)/\Q (.int ns.sum) H) (oV (nW (mH (oV (tCB (kY K) (oV (tVar 0) tNil)) tNil)) (oU 0) (tEl (tOp (rI (λi j=>IntMulOk i j) λi j=>.int (i*j)) (tOp (rIxB K) (tVar 1) (tVar 0)) (tOp (rIxB K) (tVar 2) (tVar 0)))) 1 [("_law_row",0),("_law_tops",1)]) tNil)))) (lD (sc:=oO s_1d) (N:=N_1d) rfl rfl (nofun)) rfl (nH (pq 0)) (λ_ _ _ f=>(jO (N:=["_law_row","_law_tops"]) (i:=0) f rfl (nofun) rfl)) (λ_ _ _ f=>(lP (mV (Cp rfl) rfl T.z_sum (nofun) (oK (nR (N:=["_law_row","_law_tops"]) (fr:=[("_law_row",0),("_law_tops",1)]) (te:=(tOp (rI (λi j=>IntMulOk i j) λi j=>.int (i*j)) (tOp (rIxB K) (tVar 1) (tVar 0)) (tOp (rIxB K) (tVar 2) (tVar 0)))) f rfl (nofun) rfl (nofun) (lJ rfl T.z_range (oK (nQ T.z_len (pv 0)) oM)) (λ_ _ _ b4=>(oR mF (mI ix_B (pv 1) (pv 0) (λ_ _=>rfl)) (mI ix_B (pv 2) (pv 0) (λ_ _=>rfl))))) oM))))))),?_⟩;show tRet _ _ [some (.ref a),some (.ref l)] H;ext;exfalso;obtain⟨xs,C,a4,a7⟩:=a0.walk;refine⟨b1,⟨_,C⟩,λL v=>?_⟩;refine nO (λj y _=>∃r,z[j]?=some r/\y=.int (dotI r ns)) v C (by rw[a4,F.1];omega) (λ_ _ _ _ r _=>r) ?_ ?_
  ·intro i x u zs m b b6 Y R;obtain⟨p,r,rfl,q,D⟩:=a7 i x m;have a6:r.length=d:=F.2 r (zqb q);subst eB;show tCB _ _ [some (.ref p),some (.ref l)] u Y;ext;refine nF λb3 eB=>?_;simp only[mH];ext;refine kM (D.up b) ⟨_,rfl,⋯,⋯,λX a5=>?_⟩;rw[zV,a6];refine kC (λk y _=>∃x,(List.zipWith (·*·) r ns)[k]?=some x/\y=.int x) a5 ⋯ (λ_ _ _ _ r _=>r) ?_ ?_
   ·intro k G b0 a9 c b5 J Z;have o:k<r.length:=⋯
    have g:k<ns.length:=⋯
    subst eB;show tOp _ _ _ [some (.int (0+(k:Int))),some (.ref p),some (.ref l)] G J;ext;refine⟨b2,p,_,_,_,rfl,rfl,(D.up b).up c,lQ (jJ (getD_at o)) ⋯,?_⟩;refine⟨a2,l,_,_,_,rfl,rfl,(U.up b).up c,lQ (jJ (getD_at g)) ⋯,?_⟩
    try ext
    refine⟨yC (nK (W r (zqb q) _ (L2.getD_mem o))) (nK (O _ (L2.getD_mem g))) ∅,Z _ _ (Same.refl _) ⟨_,?_,rfl⟩⟩;rw[xB,L2.getD_at o,L2.getD_at g]
   ·intro G ys c I S M;have n:ys=(List.zipWith (·*·) r ns).map V.int:=by
     refine mD (by simp;omega) λk y e=>?_;obtain⟨x,m,rfl⟩:=M k y e;exact⟨x,m,rfl⟩
    subst n;exact⟨X,rfl,_,SqL.of I,R _ _ c ⟨r,q,rfl⟩⟩
  ·intro u ys b a1 S N;have n:ys=(mv z ns).map V.int:=by
    unfold mv;rw[yI];exact mD ⋯ N
   subst n;exact a3 L u b v a1
theorem ok_19(T:Txt K mg t):FnOk P w K mg base CX0 1 t.a_19 t.d_19 pr' sp_19:=by
 apply T.F_19.ok sc_19
 ·obtain⟨c,d,rfl,k,n⟩:=h;refine⟨_,(oN (oY (i:=2) sc_19.nd rfl (Or.inl rfl) (oR lA (pq 0) (pq 1)))
   (oP (nA (mG (oK (pq 2) (oK (oR lA (oR lK (oR lK (pq 2) oW) (oR lA (oR kG (pq 0) (pq 1)) (oR fB (pq 1) oW))) (pq 1)) (oK (oR fB (oR lA (oR lK (oR kG (pq 0) (oR mF (pq 1) (oR fB (pq 1) oW))) oW) oW) oW) oM))))))),?_⟩
  show tSeq _ _ _ [some (.int c),some (.int d),none] H;have g:∀x y:Int,y≠0->y.natAbs<1073741824->jH x y:=λx y m u=>⟨m,zI ((qU ⋯).mpr (show y.natAbs<2^30 from u)) ∅⟩;right;refine⟨⋯,?_⟩;have f:=fms c d ⋯;obtain⟨i,v⟩:=xK f.1;rw[v]at f ⊢;symm;refine⟨g c d ⋯ ⋯,⋯,⋯,?_⟩;have r:=fms (c.fdiv d) ((d:Int)-1) ⋯;have a:=fms ((i:Int)+1+(c.fdiv d).fmod ((d:Int)-1)) d ⋯;have l:(i:Int)≠((i:Int)+1+(c.fdiv d).fmod ((d:Int)-1)).fmod d:=by
   generalize (c.fdiv d).fmod ((d:Int)-1)=z at r a;rw[xV _ ⋯]at a ⊢;rcases k with e|e <;> subst e <;> omega
  generalize ((i:Int)+1+(c.fdiv d).fmod ((d:Int)-1)).fmod d=C at a l;obtain⟨j,o⟩:=xK a.1;subst o;have b:(d:Int)*((d:Int)-1)≠0/\((d:Int)*((d:Int)-1)).natAbs<1073741824:=by rcases k with e|e <;> subst e <;> decide
  refine⟨vZ (uD ⋯ ⋯),g c _ b.1 b.2,∅,?_⟩;have D:=fms (c.fdiv ((d:Int)*((d:Int)-1))+2) 5 ∅;refine⟨by show 3<=sizeLine;decide,λp q=>n p _ ⟨i,j,_⟩ (Same.new q) oQ ⟨by show i<d;omega,by show j<d;omega,λe=>l (by rw[show i=j from e]),by show((c.fdiv ((d:Int)*((d:Int)-1))+2).fmod 5-2).natAbs<=2;omega⟩⟩
theorem Lm{n k:Nat}(h:k<n):ixN n (k:Int)=some k:=by
 unfold ixN;rw[zG ⋯,zG ⋯];simp
theorem fT{B:Nat}{v:LI'}(h:∀z∈v,z.natAbs<2^B)(k:Nat):(v.getD k 0).natAbs<2^B:=by
 by_cases a:k<v.length
 ·exact h _ (L2.getD_mem a)
 ·rw[zqc,vG ⋯];exact wU B
theorem Ea{x y m:Int}{B:Nat}(j:x.natAbs<2^B)(i:y.natAbs<2^B)(g:m.natAbs<=2):(x+m*y).natAbs<2^(B+2):=by
 have e:=sJ x (m*y);have f:=wE y.natAbs g;rw[←xT]at f;rw[vE,qO];refine yZ e ?_;generalize x.natAbs=a at*
 generalize y.natAbs=b at*;generalize (m*y).natAbs=c at*
 generalize 2^B=d at*;clear e;omega
theorem Wc{i j c:Nat}{m:Int}{v:LI'}(h:mO c v)(b:m.natAbs<=2):mO (c+2) (vst i j m v):=λx d=>by
 rcases tO d with a|a
 ·exact zI (h x a) (zX ∅ ⋯)
 ·rw[a];exact Ea (fT h i) (fT h j) b
theorem Ll{L:List Stp}{k:Nat}{s:Stp}(h:L[k]?=some s):(L.take (k+1)).reverse=s:: (L.take k).reverse:=by
 obtain⟨a,rfl⟩:=zqa h;rw[List.take_succ_eq_append_getElem a,List.reverse_append];rfl
theorem ok_b(T:Txt K mg t):FnOk P w K mg base CX0 1 t.a_b t.d_b pj' (sp_b K):=by
 apply T.F_b.ok sc_b
 ·obtain⟨b,a,l,ns,L,d,C,rfl,R,Y,G,F,ok,a2,X,a3,a0⟩:=h;obtain⟨ps,I,O,U⟩:=Y;refine⟨_,(oN (oY (i:=0) sc_b.nd rfl (Or.inl rfl) (mP fJ rfl T.z_list (nofun) (oK (pq 0) oM)))
   (oN (lF yD rfl (nH (pq 1)) (lY rfl (nU (nN (i:=2) sc_b.nd rfl (Or.inl rfl)) (nU (nN (i:=3) sc_b.nd rfl (Or.inl rfl)) (nU (nN (i:=4) sc_b.nd rfl (Or.inl rfl)) lW))))
   (oP (iD (oR lK (mI ix_B (pq 0) (pq 2) (λ_ _=>rfl)) (oR mF (pq 4) (mI ix_B (pq 0) (pq 3) (λ_ _=>rfl)))) (bX (pq 0) (pq 2) Gm))))
   (oP (nA (pq 0))))),?_⟩
  show tSeq _ _ _ [some (.ref a),some (.ref l),none,none,none] H;right;refine⟨b,a,_,rfl,R,λr z=>?_⟩;have D:Same H (upd H r (.lst (ns.map V.int))):=Same.new z;have M:(upd H r (.lst (ns.map V.int))) r=some (.lst (ns.map V.int)):=oQ;generalize upd H r (.lst (ns.map V.int))=a4 at D M;subst e1;refine st λN1 e1=>lH λB eB=>?_;simp only[iSeq];ext;refine⟨false,⟨_,SqB.lst (D _ _ I)⟩,?_⟩;have N:mv (chP d []) ns=ns:=bF F G;refine kZ (g:=gTup K 3 (nV (oU 2) (nV (oU 3) (nV (oU 4) gNil)))) (tb:=B) (xs:=ps.map V.ref) (λk u e=>∃o n y,u=[some (.ref r),some (.ref l),o,n,y]/\Same H e/\e r=some (.lst ((mv (chP d (L.take k).reverse) ns).map V.int))/\mO (C+2*k) (mv (chP d (L.take k).reverse) ns)) ⟨none,none,none,rfl,D,by rw[vR,sZ,N];exact M,by rw[vR,sZ,N];exact X⟩ ?_ ?_ ?_
  ·rintro k u e _ ⟨o,n,y,rfl,f,_,_⟩;exact SqB.lst (f _ _ I)
  ·rintro k x u e i ⟨o,n,y,rfl,f,c,j⟩;rw[zD]at i;cases ep:ps[k]? with
   |none=>rw[ep]at i;cases i
   |some p =>
   rw[ep]at i;cases i;have S:k<L.length:=by rw[←O];exact(zqa ep).1
   have m:L[k]?=some L[k]:=zqd S;generalize L[k]=q at m;have g:=ok q (zqb m);have J:∀s∈(L.take k).reverse,s.Ok d:=λs W=>ok s (rQ (oH.mp W));have Z:=f _ _ (U k p q ep m);have a1:(mv (chP d (L.take k).reverse) ns).length=d:=lE (iA F J).p;have nx:=Wv F J g G;rw[←Ll m]at nx;unfold vst at nx;rw[←nx];generalize mv (chP d (L.take k).reverse) ns=v at c j a1;refine⟨p,_,rfl,SqT.of Z,rfl,?_⟩;simp only[nV,gNil,oU];subst eB;have hi:=g.hi;have a5:=g.hj;refine⟨_,_,rfl,_,_,rfl,_,_,rfl,rfl,?_⟩;show tAsg _ _ _ [some (.ref r),some (.ref l),some (.int q.i),some (.int q.j),some (.int q.m)] e;simp only[tAsg,gSub,Bc];ext;refine⟨false,r,_,_,_,rfl,rfl,SqB.lst c,Es ⋯ ⋯,?_⟩;refine⟨false,r,_,_,_,rfl,rfl,SqB.lst c,Es ⋯ ⋯,?_⟩;rw[zV,zV];refine⟨_,_,rfl,rfl,vZ (uD (by have:=g.m2;omega) (by have:=g.m2;omega)),?_⟩;refine⟨_,_,rfl,rfl,_,c,q.i,Lm (by rw[zqe];omega),Same.over z f,?_,?_⟩
   ·rw[oQ,List.map_set]
   ·exact Wc (i:=q.i) (j:=q.j) j g.m2
  ·rintro u e ⟨o,n,y,rfl,f,c,j⟩;symm;rw[zqe,O,vS]at c j;exact a0 r e f z c j
theorem ok_n(T:Txt K mg t):FnOk P w K mg base CX0 1 t.a_n t.d_n pd' sp_n:=by
 apply T.F_n.ok sc_n
 ·obtain⟨c,b,m,rfl,F,I,D,q⟩:=h;refine⟨_,(oN (oY (i:=3) sc_n.nd rfl (Or.inl rfl) (lO oM))
   (oN (lF yD rfl (lJ rfl T.z_range (oK (pq 2) oM)) (nN (i:=4) sc_n.nd rfl (Or.inl rfl))
   (oN (kR (aE uC vV vU dX (pq 3) (oK (oR lA (pq 0) (pq 1)) oM)))
   (oP (oY (i:=0) sc_n.nd rfl (Or.inl rfl) (oR kG (pq 0) (pq 1))))))
   (oP (nA (pq 3))))),?_⟩
  show tSeq _ _ _ [some (.int c),some (.int b),some (.int m),none,none] H;have u:∀x,jH x b:=λx=>⟨⋯,zI ((qU ⋯).mpr (show b.natAbs<2^40 by omega)) ∅⟩;right;refine⟨by show 0<=sizeLine;decide,λr f=>?_⟩;have n:Same H (upd H r (.lst [])):=Same.new f;have o:(upd H r (.lst [])) r=some (.lst ([]:List V)):=oQ;generalize upd H r (.lst [])=G at n o;subst e1;refine st λN1 e1=>lH λB eB=>?_;simp only[mH];ext;refine⟨⋯,⋯,?_⟩;rw[zV];refine Hm (g:=oU 4) (tb:=B) (λk l a=>∃(x:Int)(ns:LI')(v:Option V),l=[some (.int x),some (.int b),some (.int m),some (.ref r),v]/\Same H a/\a r=some (.lst (ns.map V.int))/\ns.length=k/\∀y∈ns,0<=y/\y<b) ⟨c,[],none,rfl,n,o,rfl,λ_ h=>by cases h⟩ ?_ ?_
  ·rintro k l a C ⟨x,ns,v,rfl,i,e,g,j⟩;subst eB;show tSeq _ _ _ [some (.int x),some (.int b),some (.int m),some (.ref r),some (.int (0+(k:Int)))] a;refine st λz p=>?_;ext;refine⟨.inl ⟨rfl,_,SqL.of e⟩,⋯,r,_,_,rfl,rfl,e,by rw[zqe];exact yH (show ns.length+1<=1000 by omega) ∅,?_⟩;subst p;ext;refine⟨u x,Same.over f i,ns++[x.fmod b],by rw[oQ,yV];rfl,by rw[zS,g];rfl,λy d=>?_⟩;rcases oA.mp d with d|d
   ·exact j y d
   ·rw[pY.mp d];exact fms x b ⋯
  ·rintro l a ⟨x,ns,v,rfl,i,e,g,j⟩;symm;exact q r a ns i f e g j
theorem ok_9(T:Txt K mg t):FnOk P w K mg base CX0 1 t.a_9 t.d_9 pl' (sp_9 K):=by
 apply T.F_9.ok sc_9
 ·obtain⟨b1,b2,d9,e3,a,b,f,c,d,rfl,c0,a4,W,u,d3,a9,a7,c6⟩:=h;refine⟨_,(oP (nA (kU (xs:=["_law_row"]) (fr:=[("_law_other",1)]) (g:=(oU 0)) (tt:=(tEl (nW (mH (oV (tCB (kY K) (oV (tVar 0) tNil)) tNil)) (oU 0) (tEl (tCB (λxs H Q=>∃(p:Addr)(ns:LI'),xs=[.ref p]/\SqL K H p (ns.map V.int)/\Q (.int ns.sum) H) (oV (nW (mH (oV (tCB (kY K) (oV (tVar 1) tNil)) tNil)) (oU 0) (tEl (tOp (rI (λi j=>IntMulOk i j) λi j=>.int (i*j)) (tOp (rIxB K) (tVar 2) (tVar 0)) (tOp (rIxB K) (tOp (rIxB K) (tVar 3) (tVar 0)) (tVar 1)))) 1 [("_law_j",0),("_law_row",1),("_law_other",2)]) tNil))) 1 [("_law_row",0),("_law_other",1)]))) (lD (sc:=oO s_9) (N:=N_9) rfl rfl (nofun)) rfl (nH (pq 0)) (λ_ _ _ q=>(jO (N:=["_law_row","_law_other"]) (i:=0) q rfl (nofun) rfl)) (λ_ _ _ q=>(lP (kU (xs:=["_law_j"]) (fr:=[("_law_row",0),("_law_other",1)]) (g:=(oU 0)) (tt:=(tEl (tCB (λxs H Q=>∃(p:Addr)(ns:LI'),xs=[.ref p]/\SqL K H p (ns.map V.int)/\Q (.int ns.sum) H) (oV (nW (mH (oV (tCB (kY K) (oV (tVar 1) tNil)) tNil)) (oU 0) (tEl (tOp (rI (λi j=>IntMulOk i j) λi j=>.int (i*j)) (tOp (rIxB K) (tVar 2) (tVar 0)) (tOp (rIxB K) (tOp (rIxB K) (tVar 3) (tVar 0)) (tVar 1)))) 1 [("_law_j",0),("_law_row",1),("_law_other",2)]) tNil)))) (lD (N:=["_law_row","_law_other"]) q rfl (nofun)) rfl (lJ rfl T.z_range (oK (nQ T.z_len (pv 0)) oM)) (λ_ _ _ G=>(jO (N:=["_law_j","_law_row","_law_other"]) (i:=0) G rfl (nofun) rfl)) (λ_ _ _ G=>(lP (mV (Cp rfl) rfl T.z_sum (nofun) (oK (nR (N:=["_law_j","_law_row","_law_other"]) (fr:=[("_law_j",0),("_law_row",1),("_law_other",2)]) (te:=(tOp (rI (λi j=>IntMulOk i j) λi j=>.int (i*j)) (tOp (rIxB K) (tVar 2) (tVar 0)) (tOp (rIxB K) (tOp (rIxB K) (tVar 3) (tVar 0)) (tVar 1)))) G rfl (nofun) rfl (nofun) (lJ rfl T.z_range (oK (nQ T.z_len (pv 1)) oM)) (λ_ _ _ d4=>(oR mF (mI ix_B (pv 2) (pv 0) (λ_ _=>rfl)) (mI ix_B (mI ix_B (pv 3) (pv 0) (λ_ _=>rfl)) (pv 1) (λ_ _=>rfl))))) oM)))))))))),?_⟩;show tRet _ _ [some (.ref a),some (.ref b)] H;ext;refine nF λd8 eB=>?_;simp only[iSeq];ext;obtain⟨xs,R,U,d0⟩:=c0.walk;refine⟨b1,⟨_,R⟩,λz a1=>?_⟩;refine nO (RowR z λi=>(List.range d).map λk=>dotI (f.getD i []) (colI k c)) a1 R (by rw[U,W.1];omega) (RowR.mono (a:=z)) ?_ ?_
  ·intro i x L zs C l c8 b5 a8;obtain⟨p,r,rfl,I,b9⟩:=d0 i x C;have a0:r.length=d:=W.2 r (zqb I);have Y:=b9.up l;subst eB;show nW _ _ _ _ _ [some (.ref p),some (.ref b)] L b5;refine nF λd6 c7=>?_;simp only[mH];ext;refine kM Y ⟨_,rfl,⋯,⋯,λO Z=>?_⟩;rw[zV,a0];refine kC (λj y _=>j<d/\y=.int (dotI r (colI j c))) Z ⋯ (λ_ _ _ _ r _=>r) ?_ ?_
   ·intro j J d5 c2 g e0 a3 b7;have N:=Y.up g;subst c7;show tCB _ _ [some (.int (0+(j:Int))),some (.ref p),some (.ref b)] J a3;ext;refine nF λe2 b3=>?_;simp only[mH];ext;refine kM N ⟨_,rfl,⋯,⋯,λc3 b4=>?_⟩;rw[zV,a0];refine kC (λk y _=>∃x,(List.zipWith (·*·) r (colI j c))[k]?=some x/\y=.int x) b4 ⋯ (λ_ _ _ _ r _=>r) ?_ ?_
    ·intro k X d7 M n e4 c5 c4;have F:k<r.length:=⋯
     have o:c[k]?=some (c.getD k []):=by have:=u.1;simp[show k<c.length by omega]
     have d2:(c.getD k []).length=d:=u.2 _ (zqb o);have bk:=a7 _ (zqb o);subst b3;show tOp _ _ _ [some (.int (0+(k:Int))),some (.int (0+(j:Int))),some (.ref p),some (.ref b)] X c5;ext;refine⟨b2,p,_,_,_,rfl,rfl,N.up n,lQ (jJ (getD_at F)) ⋯,?_⟩;refine aV (((a4.up l).up g).up n) o (getD_at (k:=j) ⋯) ⋯ ⋯ ?_
     try ext
     refine⟨yC (nK (a9 r (zqb I) _ (L2.getD_mem F))) (nK (bk _ (L2.getD_mem ⋯))) ∅,c4 _ _ (Same.refl _) ⟨_,?_,rfl⟩⟩;unfold colI;rw[xB,L2.getD_at F,zD,o];rfl
    ·intro X ys n b0 m b8;have D:ys=(List.zipWith (·*·) r (colI j c)).map V.int:=by
      refine mD (by have:=u.1;simp[colI];omega) λk y e=>?_;obtain⟨x,C,rfl⟩:=b8 k y e;exact⟨x,C,rfl⟩
     subst D;exact⟨c3,rfl,_,SqL.of b0,b7 _ _ n ⟨c2,rfl⟩⟩
   ·intro J ys g a2 m a6;have D:ys=((List.range d).map λk=>dotI r (colI k c)).map V.int:=by
     refine mD (by rw[m];simp) λk y e=>?_;obtain⟨M,rfl⟩:=a6 k y e;exact⟨_,by rw[zD,yP M];rfl,rfl⟩
    subst D;have b6:f.getD i []=r:=by rw[zqc,I];rfl
    exact a8 _ _ g ⟨O,rfl,yA (mE c8 Z),by show J O=some (.lst (((List.range d).map λk=>dotI (f.getD i []) (colI k c)).map V.int));rw[b6];exact a2⟩
  ·intro L ys l c1 m a5;have v:=MatL.of c1 a5;rw[m,U]at v;have c9:(List.range f.length).map (λi=>(List.range d).map λk=>dotI (f.getD i []) (colI k c))=mulM d f c:=by
    unfold mulM;refine xP (by simp) λi S d1=>?_;simp at S;simp[zqc,S]
   rw[c9]at v;exact c6 z L l v
theorem ok_1a(T:Txt K mg t):FnOk P w K mg base CX0 1 t.a_1a t.d_1a pJ' (sp_1a K):=by
 apply T.F_1a.ok sc_1a
 ·obtain⟨p,ns,u,rfl,c,hl,I,q⟩:=h;refine⟨_,(oP (nA (mG (oK (mP kL rfl T.z_tuple (nofun) (oK (nR (sc:=oO s_1a) (N:=N_1a) (fr:=[("_law_spot",0)]) (te:=(tOp (rI (λ_ j=>j≠0) λi j=>.int (i.fmod j)) (tVar 0) (tOp (rIxB K) (tVar 1) (tC (.int 1))))) rfl rfl (nofun) rfl (nofun) (nH (oT (pq 0))) (λ_ _ _ G=>(oR lA (pv 0) (oT (pv 1))))) oM)) (oK (oT (pq 0)) oM))))),?_⟩;show tRet _ _ [some (.ref p)] H;ext;exfalso;refine Et c λx b=>⟨true,x,rfl,⟨_,(b:SqB true K H x _)⟩,λz o=>nO (λj y _=>∃n,ns[j]?=some n/\y=.int (n.fmod u)) o (b:SqB true K H x _) (by rw[zqe];omega) (λ_ _ _ _ r _=>r) ?_ ?_⟩
  ·intro i x d zs b a _ k D;obtain⟨n,v,rfl⟩:=mS b;subst eB;show tOp _ _ _ [some (.int n),some (.ref p)] d k;ext;refine cW (c.up a) ?_
   try ext
   exact⟨⋯,D _ d (Same.refl _) ⟨n,v,rfl⟩⟩
  ·intro d ys a e1 F C;have g:ys=(mJ u ns).map V.int:=by
    unfold mJ;rw[yI];exact mD (by simpa using F) C
   subst g;refine⟨z,_,rfl,.inl ⟨SqL.of e1,λl f=>?_⟩⟩;refine cW ((c.up a).up (Same.new f)) ?_;refine⟨(by show 2<=sizeLine;decide),λm e=>q m _ ((a.trans (Same.new f)).trans (Same.new e)) ⟨l,oQ,?_⟩⟩;rw[nC (mE oQ e)];exact oQ
def sumT(xs:LI')(u:Int)(ys:LI')(v:Int):LI':=List.zipWith (λm n=>m*v+n*u) xs ys
def sp_1b(K:Frag):Sp:=λvs H Q _=>E3 λ(p:Addr)(ns:LI')(u:Int)=>A4 (vs=[.ref p]) (nP H p ns u) (ns.length<=100) (∀r H',Same H H'->nP H' r (ns.map (-·)) u->Q (.ref r) H')
def sp_12(K:Frag):Sp:=λvs H Q _=>E7 λ(p q:Addr)(xs ys:LI')(u v:Int)(d:Nat)=>A13 (vs=[.ref p,.ref q]) (nP H p xs u) (nP H q ys v) (xs.length=d) (ys.length=d) ((d=2\/d=3)) (mO 2100 xs) (mO 2100 ys) (0<u) (u<2^400) (0<v) (v<2^400) (∀r H',Same H H'->nP H' r (redT (u*v) (sumT xs u ys v)) (redU (u*v) (sumT xs u ys v))->Q (.ref r) H')
def sp_10(K:Frag):Sp:=λvs H Q _=>E7 λ(p q:Addr)(xs ys:LI')(u v:Int)(d:Nat)=>A13 (vs=[.ref p,.ref q]) (nP H p xs u) (nP H q ys v) (xs.length=d) (ys.length=d) ((d=2\/d=3)) (mO 2100 xs) (mO 2100 ys) (0<u) (u<2^400) (0<v) (v<2^400) (∀r H',Same H H'->nP H' r (redT (u*v) (sumT xs u (ys.map (-·)) v)) (redU (u*v) (sumT xs u (ys.map (-·)) v))->Q (.ref r) H')
theorem nP.upS{H H':Hp}{p:Addr}{ns:LI'}{u:Int}(h:nP H p ns u)(s:Same H H'):nP H' p ns u:=let ⟨q,a,b⟩:=h;⟨q,s _ _ a,s _ _ b⟩
theorem ok_1b(T:Txt K mg t):FnOk P w K mg base CX0 1 t.a_1b t.d_1b pM' (sp_1b K):=by
 apply T.F_1b.ok sc_1b
 ·obtain⟨p,ns,u,rfl,c,hl,I⟩:=h;refine⟨_,(oP (nA (mG (oK (mP kL rfl T.z_tuple (nofun) (oK (nR (sc:=oO s_1b) (N:=N_1b) (fr:=[]) (te:=(tUn (rU λi=>.int (-i)) (tVar 0))) rfl rfl (nofun) rfl (nofun) (nH (oT (pq 0))) (λ_ _ _ L=>(fA fC (pv 0)))) oM)) (oK (oT (pq 0)) oM))))),?_⟩;show tRet _ _ [some (.ref p)] H
  try ext
  refine nF λB eB=>?_;simp only[iSeq]
  try ext
  refine jP c λF e=>⟨true,F,rfl,⟨_,SqB.tup e⟩,λm k=>nO (λj y _=>∃n,ns[j]?=some n/\y=.int (-n)) k (SqB.tup e) (by rw[zqe];omega) (λ_ _ _ _ r _=>r) ?_ ?_⟩
  ·intro i v a zs C _ _ D q;obtain⟨n,G,rfl⟩:=mS C;subst eB;show tUn _ _ [some (.int n)] a D
   try ext
   exact q _ a (Same.refl _) ⟨n,G,rfl⟩
  ·intro a ys b e1 x o;have z:ys=(ns.map (-·)).map V.int:=by
    rw[yI];exact mD (by simpa using x) o
   subst z;refine⟨m,_,rfl,.inl ⟨SqL.of e1,λl J=>?_⟩⟩
   try ext
   have d:Same a (upd a l (.tup ((ns.map (-·)).map V.int))):=Same.new J;refine iP (c.upS (b.trans d)) ?_;refine⟨(by show 2<=sizeLine;decide),λg f=>I g _ ((b.trans d).trans (Same.new f)) ⟨l,oQ,?_⟩⟩;rw[nC (mE oQ f)];exact oQ
theorem ok_12(T:Txt K mg t):FnOk P w K mg base CX0 3 t.a_12 t.d_12 pB' (sp_12 K):=by
 have a3:=@ok_11 P w K mg base t T;apply T.F_12.ok sc_12
 ·obtain⟨p,q,xs,ys,u,v,d,rfl,l,k,lx,D,a8,L,U,Z,b0,Y,a5,a4⟩:=h;refine⟨_,(oN (fH (i:=2) (xs:=["left","right"]) (fr:=[("one",0),("other",1)]) (g:=(gTup K 2 (nV (oU 0) (nV (oU 1) gNil)))) (tt:=(tEl (tOp (rI0 λi j=>.int (i+j)) (tOp (rI (λi j=>IntMulOk i j) λi j=>.int (i*j)) (tVar 0) (tOp (rIxB K) (tVar 3) (tC (.int 1)))) (tOp (rI (λi j=>IntMulOk i j) λi j=>.int (i*j)) (tVar 1) (tOp (rIxB K) (tVar 2) (tC (.int 1))))))) (lD (sc:=oO s_12) (N:=N_12) rfl rfl (nofun)) rfl sc_12.nd rfl rfl (Cq rfl T.z_zip (oK (oT (pq 0)) (oK (oT (pq 1)) oM))) (λ_ _ _ g=>(lY rfl (nU (kX (N:=["left","right","one","other"]) (i:=0) g rfl (nofun)) (nU (kX (N:=["left","right","one","other"]) (i:=1) g rfl (nofun)) lW)))) (λ_ _ _ g=>(lP (oR lK (oR mF (pv 0) (oT (pv 3))) (oR mF (pv 1) (oT (pv 2)))))))
   (oP (nA (kK a3 hr.mo rfl T.F_11.m T.F_11.kp T.F_11.b .nil jG (oK (pq 2) (oK (oR mF (oT (pq 0)) (oT (pq 1))) oM)))))),?_⟩
  show tSeq _ _ _ [some (.ref p),some (.ref q),none] H;have o:u.natAbs<2^400:=⋯
  have y:v.natAbs<2^400:=⋯
  refine st λN1 e1=>?_
  try ext
  refine nF λB eB=>?_;simp only[iZip]
  try ext
  refine jP l λa0 R=>?_
  try ext
  refine jP k λa6 J=>?_
  try ext
  have F:SqB true K H a0 (xs.map V.int):=SqB.tup R;have C:SqB true K H a6 (ys.map V.int):=SqB.tup J;refine⟨true,⟨_,F⟩,true,⟨_,C⟩,λa X=>?_⟩;refine Co (λj z _=>∃m n,xs[j]?=some m/\ys[j]?=some n/\z=.int (m*v+n*u)) X F C (by simp[lx,D]) (by simp[lx];omega) (λ_ _ _ _ r _=>r) ?_ ?_
  ·intro i a5 v2 G zs O x b I W N;obtain⟨m,f,rfl⟩:=mS O;obtain⟨n,c,rfl⟩:=mS x;subst eB;show tOp _ _ _ [some (.int m),some (.int n),some (.ref p),some (.ref q)] G W
   try ext
   refine iP (k.upS b) ?_
   try ext
   refine⟨yC (nK (L m (zqb f))) (nK y) ∅,iP (l.upS b) ?_⟩
   try ext
   exact⟨yC (nK (U n (zqb c))) (nK o) ∅,N _ _ (Same.refl _) ⟨m,n,f,c,rfl⟩⟩
  ·intro G zs b I a2 S;have x:zs=(sumT xs u ys v).map V.int:=by
    unfold sumT;refine mD (by simp at a2 ⊢;omega) λj z e=>?_;obtain⟨m,n,f,c,rfl⟩:=S j z e;exact⟨_,by rw[xB,f,c],rfl⟩
   subst x;subst e1
   try ext
   refine iP (l.upS b) ?_
   try ext
   refine iP (k.upS b) ?_
   try ext
   have a9:0<u*v:=xF Z Y;have hl:(sumT xs u ys v).length=d:=by unfold sumT;rw[xC,lx,D,rE]
   have sm:jB (u*v):=iO (B:=800) (by rw[xT];exact zI (qM o y) (by rw[←vE];exact zE _)) ∅;refine⟨yC (nK o) (nK y) ∅,?_⟩;refine⟨false,a,_,u*v,rfl,SqB.lst I,⋯,sm,λz=>?_,λ_ _ r a7 M a1=>?_⟩
   ·rcases z with z|z
    ·omega
    ·rw[z]at hl;simp at hl;omega
   ·exact a4 r a7 (b.trans M) a1
theorem ok_10(T:Txt K mg t):FnOk P w K mg base CX0 4 t.a_10 t.d_10 pB' (sp_10 K):=by
 have f:=@ok_12 P w K mg base t T;have l:=@ok_1b P w K mg base t T;apply T.F_10.ok sc_10
 ·obtain⟨p,q,xs,ys,u,v,d,rfl,i,e,lx,D,j,g,o,C,n,x,I,G⟩:=h;refine⟨_,(oP (nA (oS f hr.mo T.F_12 (oK (pq 0) (oK (oS l hr.mo T.F_1b (oK (pq 1) oM)) oM))))),?_⟩;show tRet _ _ [some (.ref p),some (.ref q)] H
  try ext
  refine⟨q,ys,v,rfl,e,⋯,λr L b m=>?_⟩;refine⟨p,r,xs,ys.map (-·),u,v,d,rfl,i.upS b,m,lx,by rw[zqe];exact D,j,g,λz a=>?_,C,n,x,I,λF J k a=>G F J (b.trans k) a⟩;obtain⟨y,c,rfl⟩:=pS.mp a;rw[Int.natAbs_neg];exact o y c
theorem Wb{H b:Hp}{r c:Addr}{C:LM}{x:LI'}{i:Nat}(h:MatL H r C)(s:Same H b)(d:c≠r)(e:b c=some (.lst (x.map V.int))):∃zs,b r=some (.lst zs)/\zs.length=C.length/\MatL (upd b r (.lst (zs.set i (.ref c)))) r (C.set i x):=by
 obtain⟨ps,m,k,l⟩:=h;refine⟨_,s _ _ m,by rw[zqe,k],ps.set i c,by rw[oQ,List.map_set],by simp[k],λj p row ep a=>?_⟩;rw[List.getElem?_set]at ep a
 by_cases f:i=j
 ·subst f;rw[zG rfl]at ep a;split at ep
  ·cases ep;split at a
   ·cases a;exact⟨d,by rw[nC d];exact e⟩
   ·cases a
  ·cases ep
 ·rw[zF f]at ep a;obtain⟨g,n⟩:=l j p row ep a;exact⟨g,by rw[nC g];exact s _ _ n⟩
theorem Wa{d B:Nat}{x y:LI'}{m:Int}(a:∀z∈x,z.natAbs<2^B)(b:∀z∈y,z.natAbs<2^B)(e:m.natAbs<=2):∀z∈mixR d x y m,z.natAbs<2^(B+2):=λz c=>by
 obtain⟨t,_,rfl⟩:=pS.mp c;exact Ea (fT a t) (fT b t) e
theorem Xz{d i j B:Nat}{m:Int}{x:LI'}(a:∀z∈x,z.natAbs<2^B)(c:m.natAbs<=2):∀z∈colR d i j m x,z.natAbs<2^(B+2):=λz b=>by
 obtain⟨t,_,rfl⟩:=pS.mp b;split
 ·rw[tI,Int.sub_eq_add_neg,←pK];exact Ea (fT a t) (fT a i) (by rw[Int.natAbs_neg];exact c)
 ·rw[wW,wW,Int.sub_zero];exact zI (fT a t) (zX ∅ ⋯)
theorem Xy{d i j k:Nat}{m:Int}{x:LI'}(a:k<d):(colR d i j m x)[k]?=some (x.getD k 0-(if k=j then 1 else 0)*m*x.getD i 0):=by
 unfold colR;rw[zD,yP a];rfl
theorem ok_5(T:Txt K mg t):FnOk P w K mg base CX0 1 t.a_5 t.d_5 pi' (sp_5 K):=by
 apply T.F_5.ok sc_5
 ·obtain⟨b1,b2,a,l,U,L,d,B,rfl,d5,i1,X,Z,ok,j6,h6,k4,h1⟩:=h;obtain⟨ps,d3,d6,e8⟩:=i1;refine⟨_,(oN (oY (i:=0) sc_5.nd rfl (Or.inr rfl) (nR (sc:=oO s_5) (N:=N_5) (fr:=[]) (te:=(tCB (cG K) (oV (tVar 0) tNil))) rfl rfl (nofun) rfl (nofun) (nH (pq 0)) (λ_ _ _ N=>(mP fJ rfl T.z_list (nofun) (oK (pv 0) oM)))))
   (oN (lF yD rfl (nH (pq 1)) (lY rfl (nU (nN (i:=2) sc_5.nd rfl (Or.inr rfl)) (nU (nN (i:=3) sc_5.nd rfl (Or.inr rfl)) (nU (nN (i:=4) sc_5.nd rfl (Or.inr rfl)) lW))))
   (oN (iD (nR (sc:=oO s_5) (N:=N_5) (fr:=[("_law_rows",0),("_law_i",2),("_law_j",3),("_law_many",4)]) (te:=(tOp (rI0 λi j=>.int (i+j)) (tOp (rIxB K) (tOp (rIxB K) (tVar 1) (tVar 2)) (tVar 0)) (tOp (rI (λi j=>IntMulOk i j) λi j=>.int (i*j)) (tVar 4) (tOp (rIxB K) (tOp (rIxB K) (tVar 1) (tVar 3)) (tVar 0))))) rfl rfl (nofun) rfl (nofun) (lJ rfl T.z_range (oK (nQ T.z_len (pq 0)) oM)) (λ_ _ _ N=>(oR lK (mI ix_B (mI ix_B (pv 1) (pv 2) (λ_ _=>rfl)) (pv 0) (λ_ _=>rfl)) (oR mF (pv 4) (mI ix_B (mI ix_B (pv 1) (pv 3) (λ_ _=>rfl)) (pv 0) (λ_ _=>rfl)))))) (bX (pq 0) (pq 2) Gm))
   (oP (oY (i:=0) sc_5.nd rfl (Or.inr rfl) (kU (xs:=["_law_row"]) (fr:=[("_law_i",2),("_law_j",3),("_law_many",4)]) (g:=(oU 0)) (tt:=(tEl (nW (mH (oV (tCB (kY K) (oV (tVar 0) tNil)) tNil)) (oU 0) (tEl (tOp (rI0 λi j=>.int (i-j)) (tOp (rIxB K) (tVar 1) (tVar 0)) (tOp (rI (λi j=>IntMulOk i j) λi j=>.int (i*j)) (tOp (rI (λi j=>IntMulOk i j) λi j=>.int (i*j)) (tCB (λxs H Q=>(∃i,xs=[.int i]/\Q (.int i) H)\/∃k,xs=[.bl k]/\Q (.int (if k then 1 else 0)) H) (oV (tOp (rI0 λi j=>.bl (decide (i=j))) (tVar 0) (tVar 3)) tNil)) (tVar 4)) (tOp (rIxB K) (tVar 1) (tVar 2))))) 1 [("_law_row",0),("_law_i",1),("_law_j",2),("_law_many",3)]))) (lD (sc:=oO s_5) (N:=N_5) rfl rfl (nofun)) rfl (nH (pq 0)) (λ_ _ _ N=>(jO (N:=["_law_row","_law_i","_law_j","_law_many"]) (i:=0) N rfl (nofun) rfl)) (λ_ _ _ N=>(lP (nR (N:=["_law_row","_law_i","_law_j","_law_many"]) (fr:=[("_law_row",0),("_law_i",1),("_law_j",2),("_law_many",3)]) (te:=(tOp (rI0 λi j=>.int (i-j)) (tOp (rIxB K) (tVar 1) (tVar 0)) (tOp (rI (λi j=>IntMulOk i j) λi j=>.int (i*j)) (tOp (rI (λi j=>IntMulOk i j) λi j=>.int (i*j)) (tCB (λxs H Q=>(∃i,xs=[.int i]/\Q (.int i) H)\/∃k,xs=[.bl k]/\Q (.int (if k then 1 else 0)) H) (oV (tOp (rI0 λi j=>.bl (decide (i=j))) (tVar 0) (tVar 3)) tNil)) (tVar 4)) (tOp (rIxB K) (tVar 1) (tVar 2))))) N rfl (nofun) rfl (nofun) (lJ rfl T.z_range (oK (nQ T.z_len (pv 0)) oM)) (λ_ _ _ k7=>(oR fB (mI ix_B (pv 1) (pv 0) (λ_ _=>rfl)) (oR mF (oR mF (mP Bi rfl T.z_int (nofun) (oK (jR jM (pv 0) (pv 3) (nJ _)) oM)) (pv 4)) (mI ix_B (pv 1) (pv 2) (λ_ _=>rfl)))))))))))))
   (oP (nA (pq 0))))),?_⟩
  show tSeq _ _ _ [some (.ref a),some (.ref l),none,none,none] H;have j0:d<=3:=⋯
  right;refine nF λk1 eB=>?_;simp only[iSeq];ext;obtain⟨xs,g3,k2,k9⟩:=d5.walk;refine⟨b1,⟨_,g3⟩,λr O=>?_⟩;subst eB;refine Rz d5 (by rw[X.1];omega) O λj4 d8 f8=>?_;subst e1;refine st λN1 e1=>lH λh0 eB=>?_;simp only[iSeq];ext;refine⟨false,⟨_,SqB.lst (d8 _ _ d3)⟩,?_⟩;refine kZ (g:=gTup K 3 (nV (oU 2) (nV (oU 3) (nV (oU 4) gNil)))) (tb:=h0) (xs:=ps.map V.ref) (λk a0 D=>∃r a5 a7 a8,a0=[some (.ref r),some (.ref l),a5,a7,a8]/\Same H D/\H r=none/\MatL D r (cjM d (chP d (L.take k).reverse) (chQ d (L.take k).reverse) U)/\nY (B+4*k) (cjM d (chP d (L.take k).reverse) (chQ d (L.take k).reverse) U)) ⟨r,none,none,none,rfl,d8,O,?_,?_⟩ ?_ ?_ ?_
  ·rw[vR,sZ,(Kc Z X (v:=List.replicate d 0) (by simp)).1];exact f8.l
  ·rw[vR,sZ,(Kc Z X (v:=List.replicate d 0) (by simp)).1];exact h6
  ·rintro k a0 D _ ⟨r,a5,a7,a8,rfl,J,_⟩;exact SqB.lst (J _ _ d3)
  ·rintro k x a0 D F ⟨r,a5,a7,a8,rfl,J,O,m,I⟩;rw[zD]at F;cases ep:ps[k]? with
   |none=>rw[ep]at F;cases F
   |some p =>
   rw[ep]at F;cases F;have f9:k<L.length:=by rw[←d6];exact(zqa ep).1
   have a4:L[k]?=some L[k]:=zqd f9;generalize L[k]=q at a4;have e0:=ok q (zqb a4);have d4:∀s∈(L.take k).reverse,s.Ok d:=λs g9=>ok s (rQ (oH.mp g9));have i2:=J _ _ (e8 k p q ep a4);have nx:=Ww Z d4 e0 X;rw[←Ll a4]at nx;rw[←nx];have g:Sq d (cjM d (chP d (L.take k).reverse) (chQ d (L.take k).reverse) U):=gP (iA Z d4) U;clear nx;generalize cjM d (chP d (L.take k).reverse) (chQ d (L.take k).reverse) U=C at m I g;obtain⟨b,c,f⟩:=q;obtain⟨hi,v,k6,W⟩:=e0;replace hi:b<d:=hi;replace v:c<d:=v;replace W:f.natAbs<=2:=W;refine⟨p,_,rfl,SqT.of i2,rfl,?_⟩;simp only[nV,gNil,oU];refine⟨_,_,rfl,_,_,rfl,_,_,rfl,rfl,?_⟩;subst eB;show tSeq _ _ _ [some (.ref r),some (.ref l),some (.int b),some (.int c),some (.int f)] D;refine st λi8 g4=>?_;have a2:C[b]?=some (C.getD b []):=by have:=g.1;simp[show b<C.length by omega]
   have Y:C[c]?=some (C.getD c []):=by have:=g.1;simp[show c<C.length by omega]
   generalize hx:C.getD b []=x at a2;generalize hy:C.getD c []=y at Y;have j8:x.length=d:=g.2 x (zqb a2);have i9:y.length=d:=g.2 y (zqb Y);have h5:∀z∈x,z.natAbs<2^(B+4*k):=I x (zqb a2);have d9:∀z∈y,z.natAbs<2^(B+4*k):=I y (zqb Y);ext;refine nF λk8 g8=>?_;simp only[mH];ext;refine iH (m.b (K:=K)) ?_;rw[g.1];refine⟨_,rfl,⋯,⋯,λc1 b5=>?_⟩;rw[zV];have f3:f.natAbs<2^20:=by have:(2:Nat)^20=1048576:=rfl;omega
   have i0:∃o,D r=some o:=let ⟨_,h,_⟩:=m;⟨_,h⟩
   have h3:c1≠r:=λe=>by obtain⟨o,f6⟩:=i0;rw[e,f6]at b5;cases b5
   refine kC (λj z _=>j<d/\z=.int (x.getD j 0+f*y.getD j 0)) b5 ⋯ (λ_ _ _ _ r _=>r) ?_ ?_
   ·intro j M k0 v a1 j5 b6 a9;subst g8;have e2:MatB false false K M r C:=m.b.up a1;show tOp _ _ _ [some (.int (0+(j:Int))),some (.ref r),some (.int b),some (.int c),some (.int f)] M b6;ext;refine aV e2 a2 (getD_at (k:=j) ⋯) rfl ⋯ ?_;refine aV e2 Y (getD_at (k:=j) ⋯) rfl ⋯ ?_;ext;exact⟨yC (nK f3) (nK (d9 _ (L2.getD_mem ⋯))) ⋯,a9 _ _ (Same.refl _) ⟨v,rfl⟩⟩
   ·intro M ys a1 g0 h8 g2;have e7:ys=(mixR d x y f).map V.int:=by
     refine mD (by rw[h8];simp[mixR]) λj z e=>?_;obtain⟨v,rfl⟩:=g2 j z e;exact⟨_,by unfold mixR;rw[zD,yP v];rfl,rfl⟩
    subst e7;obtain⟨zs,G,g5,b0⟩:=Wb (i:=b) m a1 h3 g0;have b8:Same H (upd M r (.lst (zs.set b (.ref c1)))):=Same.over O (J.trans a1);simp only[gSub,Bc];ext;refine⟨_,G,b,Lm (by rw[g5,g.1];exact hi),?_⟩;generalize upd M r (.lst (zs.set b (.ref c1)))=j2 at b8 b0;have c0:Sq d (C.set b (mixR d x y f)):=by
     refine⟨by simp[g.1],λz G=>?_⟩;rcases tO G with h|h
     ·exact g.2 z h
     ·rw[h];simp[mixR]
    have b3:nY (B+4*k+2) (C.set b (mixR d x y f)):=by
     intro z G;rcases tO G with h|h
     ·exactλu g1=>zI (I z h u g1) (zX ∅ ⋯)
     ·rw[h];exact Wa h5 d9 W
    have b7:bH d b c f C=(C.set b (mixR d x y f)).map (colR d b c f):=by unfold bH;rw[hx,hy]
    generalize C.set b (mixR d x y f)=R at b0 c0 b3 b7;subst g4;ext;refine nF λj3 f7=>?_;simp only[iSeq];ext;obtain⟨i7,c8,e3,e9⟩:=(b0.b (K:=K)).walk;refine⟨false,⟨_,c8⟩,λS c7=>?_⟩;have f0:H S=none:=by
     cases h:H S with
     |none=>rfl
     |some o=>have:=b8 _ _ h;rw[c7]at this;cases this
    refine nO (RowR S λi=>colR d b c f (R.getD i [])) c7 c8 (by rw[e3,c0.1];omega) (RowR.mono (a:=S)) ?_ ?_
    ·intro i x c5 j1 F a6 i4 f1 e6;obtain⟨a3,rt,rfl,c2,d1⟩:=e9 i x F;have h2:rt.length=d:=c0.2 rt (zqb c2);have f5:=b3 rt (zqb c2);subst f7;show nW _ _ _ _ _ [some (.ref a3),some (.int b),some (.int c),some (.int f)] c5 f1;refine nF λj9 h7=>?_;simp only[mH];ext;refine kM (d1.up a6) ⟨_,rfl,⋯,⋯,λc9 d2=>?_⟩;rw[zV,h2];refine kC (λj z _=>∃n,(colR d b c f rt)[j]?=some n/\z=.int n) d2 ⋯ (λ_ _ _ _ r _=>r) ?_ ?_
     ·intro j b4 k3 v c4 k5 b6 a9;subst h7;have d7:=(d1.up a6).up c4;show tOp _ _ _ [some (.int (0+(j:Int))),some (.ref a3),some (.int b),some (.int c),some (.int f)] b4 b6;ext;refine⟨false,a3,_,_,_,rfl,rfl,d7,lQ (jJ (getD_at (k:=j) ⋯)) ⋯,?_⟩;refine .inr ⟨vZ (uD (by split <;> omega) (by split <;> omega)),?_⟩;refine⟨false,a3,_,_,_,rfl,rfl,d7,lQ (jJ (getD_at (k:=b) ⋯)) rfl,?_⟩;ext;have sm:(((if 0+(j:Int)=(c:Int) then(1:Int) else 0)*f)).natAbs<2^20:=by
       have:(2:Nat)^20=1048576:=rfl;split <;> omega
      have f4:=nK sm;have g6:=nK (f5 _ (L2.getD_mem (show b<rt.length by omega)));have c6:IntMulOk ((if 0+(j:Int)=(c:Int) then(1:Int) else 0)*f) (rt.getD b 0):=yC f4 g6 ⋯;refine⟨by first|exact c6|simpa using c6,a9 _ _ (Same.refl _) ⟨_,Xy v,?_⟩⟩;have d0:(0+(j:Int)=(c:Int))↔j=c:=⋯
      by_cases q:j=c
      ·rw[zG q,zG (zL (d0.mpr q))]
      ·rw[zF q,zF λh=>q (d0.mp (yM h))]
     ·intro b4 zs c4 i3 b9 f2;have g7:zs=(colR d b c f rt).map V.int:=mD (by rw[b9];simp[colR]) f2;subst g7;have i6:R.getD i []=rt:=by rw[zqc,c2];rfl
      exact e6 _ _ c4 ⟨c9,rfl,yA (mE i4 d2),by show b4 c9=some (.lst ((colR d b c f (R.getD i [])).map V.int));rw[i6];exact i3⟩
    ·intro c5 zs a6 i5 b9 h4;have c3:=MatL.of i5 h4;rw[b9,e3]at c3;have h9:(List.range R.length).map (λi=>colR d b c f (R.getD i []))=R.map (colR d b c f):=by
      refine xP (by simp) λi e4 j7=>?_;simp at e4;simp[zqc,e4]
     rw[h9]at c3;refine⟨S,rfl,b8.trans a6,f0,by rw[b7];exact c3,?_⟩;rw[b7];intro z G;obtain⟨rt,e5,rfl⟩:=pS.mp G;exact Xz (b3 rt e5) W
  ·rintro a0 D ⟨r,a5,a7,a8,rfl,J,O,m,I⟩;symm;rw[zqe,d6,vS]at m I;exact h1 r D J m I
def sp_k(K:Frag):Sp:=λvs H Q _=>E6 λ(p q:Addr)(x:Dd)(ns:LI')(v:Int)(d:Nat)=>A15 (vs=[.ref p,.ref q]) (DdS K H p x) (PlS K H q ns v) (Sq d x.1) ((d=2\/d=3)) (x.2.1.length=d) (ns.length=d) (nY 1000 x.1) (mO 1000 x.2.1) (mO 1000 ns) (0<x.2.2) (x.2.2<2^150) (0<v) (v<2^150) (∀r H',Same H H'->nP H' r (redT (x.2.2*v) (movT x.1 x.2.1 x.2.2 ns v)) (redU (x.2.2*v) (movT x.1 x.2.1 x.2.2 ns v))->Q (.ref r) H')
theorem Lk{B C:Nat}{r ns:LI'}(hr:∀z∈r,z.natAbs<2^B)(b:∀z∈ns,z.natAbs<2^C)(hl:r.length<=3):(dotI r ns).natAbs<2^(B+C+2):=by
 have h:=Ee (A:=2^B) (B:=2^C) r ns (λz a=>wA (hr z a)) λz a=>wA (b z a);have e:(2:Nat)^(B+C+2)=4*(2^B*2^C):=by rw[vE,vE,qO]
 have p:0<2^B*2^C:=Nat.mul_pos (wU B) (wU C);have c:=wE (2^B*2^C) hl;omega
theorem ok_k(T:Txt K mg t):FnOk P w K mg base CX0 3 t.a_k t.d_k po' (sp_k K):=by
 have c4:=@ok_1d P w K mg base t T;have b8:=@ok_s P w K mg base t T;apply T.F_k.ok sc_k
 ·obtain⟨p,q,⟨M,ts,u⟩,ns,v,d,rfl,a2,b5,b,a1,lt,a8,N,b6,F,m,L,a9,d0,c3⟩:=h;replace b:Sq d M:=b;replace lt:ts.length=d:=lt;replace m:0<u:=m;replace L:u<2^150:=L;obtain⟨J,x,c2,X,b1⟩:=a2;obtain⟨G,b2,b0⟩:=b5;have e:∀{H'},Same H H'->SqB true K H' p [.ref J,.ref x,.int u]:=λs=>mL s _ _ c2;have C:∀{H'},Same H H'->SqB true K H' q [.ref G,.int v]:=λs=>mL s _ _ b2;refine⟨_,(oN (oY (i:=2) sc_k.nd rfl (Or.inr rfl) (oS c4 hr.mo T.F_1d (oK (oT (pq 0)) (oK (oT (pq 1)) oM))))
   (oN (iX (i:=3) (sc:=oO Ah) (N:=N_k) (fr:=[("_law_one",0),("_law_spot",1),("_law_far",2)]) (te:=(tOp (rI0 λi j=>.int (i+j)) (tOp (rI (λi j=>IntMulOk i j) λi j=>.int (i*j)) (tOp (rIxB K) (tVar 3) (tVar 0)) (tOp (rIxB K) (tVar 1) (tC (.int 2)))) (tOp (rI (λi j=>IntMulOk i j) λi j=>.int (i*j)) (tOp (rIxB K) (tOp (rIxB K) (tVar 1) (tC (.int 1))) (tVar 0)) (tOp (rIxB K) (tVar 2) (tC (.int 1)))))) rfl rfl (nofun) rfl sc_k.nd rfl rfl (nofun) (lJ rfl T.z_range (oK (nQ T.z_len (pq 2)) oM)) (λ_ _ _ c5=>(oR lK (oR mF (mI ix_B (pv 3) (pv 0) (λ_ _=>rfl)) (oT (pv 1))) (oR mF (mI ix_B (oT (pv 1)) (pv 0) (λ_ _=>rfl)) (oT (pv 2))))))
   (oP (nA (oS b8 hr.mo T.F_s (oK (pq 3) (oK (oR mF (oT (pq 0)) (oT (pq 1))) oM))))))),?_⟩
  show tSeq _ _ _ [some (.ref p),some (.ref q),none,none] H;have l:u.natAbs<2^150:=⋯
  have o:v.natAbs<2^150:=⋯
  right;refine⟨true,p,_,_,_,rfl,rfl,e (Same.refl _),rfl,?_⟩;refine⟨true,q,_,_,_,rfl,rfl,C (Same.refl _),rfl,?_⟩
  try ext
  refine⟨true,true,true,J,G,M,ns,d,rfl,X,b0,b,a1,a8,λr hr z g=>zI (N r hr z g) (zX ∅ ∅),F.le ∅,λf b9 D c6 I=>?_⟩;have c1:(mv M ns).length=d:=lE b;left;refine nF λB eB=>?_;simp only[mH];ext;refine kM (SqB.lst I) ⟨_,rfl,⋯,⋯,λZ U=>?_⟩;rw[zV,c1];have b4:∀{H'},Same b9 H'->SqB false K H' f ((mv M ns).map V.int):=λs=>SqB.lst (s _ _ I);have b7:∀{H'},Same H H'->SqB true K H' x (ts.map V.int):=λs=>mL s _ _ b1;have a3:∀z∈mv M ns,z.natAbs<2^2002:=λz g=>by
   obtain⟨r,hr,rfl⟩:=pS.mp g;exact Lk (N r hr) F (by have:=b.2 r hr;omega)
  refine kC (λk y _=>∃n,(movT M ts u ns v)[k]?=some n/\y=.int n) U ⋯ (λ_ _ _ _ r _=>r) ?_ ?_
  ·intro k R c7 c8 c c9 Y b3;have a:=D.trans c;subst eB;show tOp _ _ _ [some (.int (0+(k:Int))),some (.ref p),some (.ref q),some (.ref f)] R Y;ext;refine⟨false,f,_,_,_,rfl,rfl,b4 c,lQ (jJ (getD_at (k:=k) ⋯)) ⋯,?_⟩;refine⟨true,p,_,_,_,rfl,rfl,e a,rfl,?_⟩
   try ext
   have W:IntMulOk ((mv M ns).getD k 0) u:=yC (nK (a3 _ (L2.getD_mem ⋯))) (nK l) ∅;have a4:IntMulOk (ts.getD k 0) v:=yC (nK (b6 _ (L2.getD_mem (by show k<ts.length;omega)))) (nK o) ∅;refine⟨W,?_⟩;refine⟨true,p,_,_,_,rfl,rfl,e a,rfl,?_⟩;refine⟨true,x,_,_,_,rfl,rfl,b7 a,lQ (jJ (getD_at (k:=k) ⋯)) ⋯,?_⟩;refine⟨true,q,_,_,_,rfl,rfl,C a,rfl,?_⟩
   try ext
   refine⟨a4,?_⟩;refine b3 _ _ (Same.refl _) ⟨_,?_,rfl⟩;have O:M[k]?=some (M.getD k []):=by have:=b.1;simp[show k<M.length by omega]
   unfold movT mv;rw[xB,O,L2.getD_at (show k<ts.length by omega)];show some _=some _;congr 2;rw[zqc (l:=List.map (λr=>dotI r ns) M),zD,O];rfl
  ·intro R ys c c0 a5 a0;have a7:(movT M ts u ns v).length=d:=by unfold movT;rw[xC,b.1,lt,rE]
   have a6:ys=(movT M ts u ns v).map V.int:=mD (by rw[a5,a7]) a0;subst a6;have a:=D.trans c;symm;refine⟨true,p,_,_,_,rfl,rfl,e a,rfl,?_⟩;refine⟨true,q,_,_,_,rfl,rfl,C a,rfl,?_⟩
   try ext
   refine⟨yC (nK l) (nK o) ∅,?_⟩;refine⟨false,Z,_,_,rfl,SqB.lst c0,⋯,xF m a9,?_,λr H' S hr=>c3 r H' (a.trans S) hr⟩;refine iO (B:=300) ?_ ∅;rw[xT];exact zI (qM l o) (by rw[←vE];exact zE _)
theorem Lj{U:Int}{ts:LI'}(i:0<U):(∀z∈redT U ts,∃t∈ts,z.natAbs<=t.natAbs)/\0<redU U ts/\redU U ts<=U:=by
 have c:=dB ts (show U≠0 by omega);have g:0<redU U ts:=cV ts ⋯;refine⟨λz b=>?_,g,?_⟩
 ·unfold redT at b;obtain⟨t,d,rfl⟩:=pS.mp b;refine⟨t,d,?_⟩;have e:t.fdiv (cs U ts)*cs U ts=t:=iM c (jW (cU d));have a:=wF Int.natAbs e;rw[xT]at a;have:1<=(cs U ts).natAbs:=⋯
  rw[←a];exact Nat.le_mul_of_pos_right _ this
 ·have e:redU U ts*cs U ts=U:=iM c (jW (gl_u U ts));have a:=wF Int.natAbs e;rw[xT]at a;have f:1<=(cs U ts).natAbs:=⋯
  have:=Nat.le_mul_of_pos_right (redU U ts).natAbs f;omega
def sp_7(K:Frag):Sp:=λvs H Q _=>E12 λ(a b l sp sl:Addr)(R:LM)(ts S:LI')(p su:Int)(L:List Stp)(d:Nat)=>A20 (vs=[.ref a,.ref b,.int p,.ref l,.ref sp]) (MatL H a R) (H b=some (.lst (ts.map V.int))) (gR H l L) (H sp=some (.tup [.ref sl,.int su])) (H sl=some (.lst (S.map V.int))) (Sq d R) ((d=2\/d=3)) (ts.length=d) (S.length=d) ((∀s∈L,s.Ok d)) (L.length<=6) (nY 1 R) (mO 5 ts) (mO 5 S) (0<p) (p<=6) (0<su) (su<=12) (∀q H',Same H H'->mX K H' q (cjM d (chP d L.reverse) (chQ d L.reverse) R) (redT (p*su) (cjT d (chP d L.reverse) (chQ d L.reverse) R (smul su ts) (smul p S))) (redU (p*su) (cjT d (chP d L.reverse) (chQ d L.reverse) R (smul su ts) (smul p S)))->Fine d (cjM d (chP d L.reverse) (chQ d L.reverse) R) (redT (p*su) (cjT d (chP d L.reverse) (chQ d L.reverse) R (smul su ts) (smul p S))) (redU (p*su) (cjT d (chP d L.reverse) (chQ d L.reverse) R (smul su ts) (smul p S)))->Q (.ref q) H')
theorem Xx{d:Nat}(g:d=2\/d=3){P b R:LM}(c:Chg d P b)(l:Sq d R){ts a:LI'}(lt:ts.length=d)(i:a.length=d){p e:Int}{k:Nat}(j:k<d):
  (cjT d P b R (smul e ts) (smul p a))[k]?=some ((mv P ts).getD k 0*e+(a.getD k 0-(mv (cjM d P b R) a).getD k 0)*p):=by
 unfold cjT;have f:=gP c R;rw[bG g c.p lt,bG g f i];have l1:(mv P ts).length=d:=lE c.p;have l2:(mv (cjM d P b R) a).length=d:=lE f;generalize mv P ts=A at l1;generalize mv (cjM d P b R) a=B at l2;unfold vs va smul;rw[xB,xB,zD,zD,zD,L2.getD_at (show k<A.length by omega),L2.getD_at (show k<B.length by omega),L2.getD_at (show k<a.length by omega)];show some _=some _;congr 1;grind
theorem ok_7(T:Txt K mg t):FnOk P w K mg base CX0 3 t.a_7 t.d_7 pa' (sp_7 K):=by
 have f7:=@ok_1d P w K mg base t T;have e7:=@ok_s P w K mg base t T;have e8:=@ok_5 P w K mg base t T;have d7:=@ok_b P w K mg base t T;apply T.F_7.ok sc_7
 ·obtain⟨a,b,l,u,b9,R,ts,g,p,o,L,d,rfl,f6,e4,d2,U,c5,d1,J,lt,a1,ok,g8,e0,f5,a9,a0,c7,N,b5,a7⟩:=h;refine⟨_,(oN (oY (i:=0) sc_7.nd rfl (Or.inl rfl) (oS e8 hr.mo T.F_5 (oK (pq 0) (oK (pq 3) oM))))
   (oN (oY (i:=1) sc_7.nd rfl (Or.inr rfl) (oS d7 hr.mo T.F_b (oK (pq 1) (oK (pq 3) oM))))
   (oN (oY (i:=5) sc_7.nd rfl (Or.inr rfl) (oS f7 hr.mo T.F_1d (oK (pq 0) (oK (oT (pq 4)) oM))))
   (oN (oY (i:=1) sc_7.nd rfl (Or.inr rfl) (nR (sc:=oO s_7) (N:=N_7) (fr:=[("_law_tops",1),("_law_parts",2),("_law_spot",4),("_law_far",5)]) (te:=(tOp (rI0 λi j=>.int (i+j)) (tOp (rI (λi j=>IntMulOk i j) λi j=>.int (i*j)) (tOp (rIxB K) (tVar 1) (tVar 0)) (tOp (rIxB K) (tVar 3) (tC (.int 1)))) (tOp (rI (λi j=>IntMulOk i j) λi j=>.int (i*j)) (tOp (rI0 λi j=>.int (i-j)) (tOp (rIxB K) (tOp (rIxB K) (tVar 3) (tC (.int 0))) (tVar 0)) (tOp (rIxB K) (tVar 4) (tVar 0))) (tVar 2)))) rfl rfl (nofun) rfl (nofun) (lJ rfl T.z_range (oK (nQ T.z_len (pq 1)) oM)) (λ_ _ _ d9=>(oR lK (oR mF (mI ix_B (pv 1) (pv 0) (λ_ _=>rfl)) (oT (pv 3))) (oR mF (oR fB (mI ix_B (oT (pv 3)) (pv 0) (λ_ _=>rfl)) (mI ix_B (pv 4) (pv 0) (λ_ _=>rfl))) (pv 2))))))
   (oN (iD (oS e7 hr.mo T.F_s (oK (pq 1) (oK (oR mF (pq 2) (oT (pq 4))) oM))) (lY rfl (nU (nN (i:=1) sc_7.nd rfl (Or.inr rfl)) (nU (nN (i:=6) sc_7.nd rfl (Or.inl rfl)) lW))))
   (oP (nA (mG (oK (mP kL rfl T.z_tuple (nofun) (oK (nR (sc:=oO s_7) (N:=N_7) (fr:=[]) (te:=(tCB (gG K) (oV (tVar 0) tNil))) rfl rfl (nofun) rfl (nofun) (nH (pq 0)) (λ_ _ _ d9=>(mP kL rfl T.z_tuple (nofun) (oK (pv 0) oM)))) oM)) (oK (pq 1) (oK (pq 6) oM))))))))))),?_⟩
  show tSeq _ _ _ [some (.ref a),some (.ref b),some (.int p),some (.ref l),some (.ref u),none,none] H;have g0:∀s∈L.reverse,s.Ok d:=λs N=>ok s (oH.mp N);have c:=iA J g0;right;refine⟨false,false,a,l,R,L,d,1,rfl,f6.b,d2,d1,J,ok,⋯,e0,∅,λX h5 a8 b0 G=>?_⟩;replace G:nY 25 (cjM d (chP d L.reverse) (chQ d L.reverse) R):=λr hr z m=>zI (G r hr z m) (zX ∅ ⋯);have D:=gP c R;left;refine⟨false,b,l,ts,L,d,5,rfl,SqB.lst (a8 _ _ e4),d2.up a8,lt,J,ok,⋯,f5,∅,λb1 h1 b3 h2 c8 O=>?_⟩;replace O:mO 17 (mv (chP d L.reverse) ts):=O.le ⋯;have i3:mv (chP d L.reverse) ts=mv (chP d L.reverse) ts:=rfl;have a5:=a8.trans b3;left;refine⟨true,u,_,_,_,rfl,rfl,SqB.tup (a5 _ _ U),rfl,?_⟩
  try ext
  refine⟨false,false,false,X,b9,_,g,d,rfl,(b0.up b3).b,SqB.lst (a5 _ _ c5),D,J,a1,λr hr z m=>zI (G r hr z m) (zX ∅ ∅),a9.le ∅,λf g5 W h7 Z=>?_⟩;have c0:=a5.trans W;have c1:(mv (cjM d (chP d L.reverse) (chQ d L.reverse) R) g).length=d:=lE D;have b7:(mv (chP d L.reverse) ts).length=d:=lE c.p;have a3:∀z∈mv (cjM d (chP d L.reverse) (chQ d L.reverse) R) g,z.natAbs<2^32:=λz m=>by
   obtain⟨r,hr,rfl⟩:=pS.mp m;exact Lk (G r hr) a9 (by have:=D.2 r hr;omega)
  have F:∀k,k<d->(cjT d (chP d L.reverse) (chQ d L.reverse) R (smul o ts) (smul p g))[k]?=some ((mv (chP d L.reverse) ts).getD k 0*o+(g.getD k 0-(mv (cjM d (chP d L.reverse) (chQ d L.reverse) R) g).getD k 0)*p):=λk M=>Xx J c d1 lt a1 M;have a6:(cjT d (chP d L.reverse) (chQ d L.reverse) R (smul o ts) (smul p g)).length=d:=Ej c (by rw[jY];exact a1);generalize cjT d (chP d L.reverse) (chQ d L.reverse) R (smul o ts) (smul p g)=TT at a7 F a6;generalize cjM d (chP d L.reverse) (chQ d L.reverse) R=C at a7 F b0 G D c1 a3 Z;generalize mv (chP d L.reverse) ts=Y at F b7 O c8;generalize mv C g=c9 at F c1 a3 Z;left;refine nF λB eB=>?_;simp only[mH];ext;have c6:g5 b1=some (.lst (Y.map V.int)):=W _ _ c8;refine kM (SqB.lst c6) ⟨_,rfl,⋯,⋯,λd5 d8=>?_⟩;rw[zV,b7];refine kC (λk y _=>∃n,TT[k]?=some n/\y=.int n) d8 ⋯ (λ_ _ _ _ r _=>r) ?_ ?_
  ·intro k c3 i0 M v h6 f2 d6;have I:=c0.trans v;subst eB;show tOp _ _ _ [some (.int (0+(k:Int))),some (.ref b1),some (.int p),some (.ref u),some (.ref f)] c3 f2;ext;refine⟨false,b1,_,_,_,rfl,rfl,SqB.lst (v _ _ c6),lQ (jJ (getD_at (k:=k) ⋯)) ⋯,?_⟩;refine⟨true,u,_,_,_,rfl,rfl,SqB.tup (I _ _ U),rfl,?_⟩
   try ext
   refine⟨qE (uD ⋯ ⋯),?_⟩;refine⟨true,u,_,_,_,rfl,rfl,SqB.tup (I _ _ U),rfl,?_⟩;refine⟨false,b9,_,_,_,rfl,rfl,SqB.lst (I _ _ c5),lQ (jJ (getD_at (k:=k) ⋯)) ⋯,?_⟩;refine⟨false,f,_,_,_,rfl,rfl,SqB.lst (v _ _ Z),lQ (jJ (getD_at (k:=k) ⋯)) ⋯,?_⟩
   try ext
   refine⟨qE (uD ⋯ ⋯),?_⟩;exact d6 _ _ (Same.refl _) ⟨_,F k M,rfl⟩
  ·intro c3 ys v e2 f8 e6;have d4:ys=TT.map V.int:=mD (by rw[f8,a6]) e6;subst d4;have I:=c0.trans v;left;refine⟨true,u,_,_,_,rfl,rfl,SqB.tup (I _ _ U),rfl,?_⟩
   try ext
   refine⟨qE (uD ⋯ ⋯),?_⟩;have us:jB (p*o):=iO (B:=20) (by
    have g4:=qW c7 b5 ⋯ ⋯;have h8:=xF a0 N;have:(2:Nat)^20=1048576:=rfl;omega) ∅
   refine⟨false,d5,TT,p*o,rfl,SqB.lst e2,⋯,xF a0 N,us,λq a4 d0 g2=>?_⟩;have fine:Fine d C (redT (p*o) TT) (redU (p*o) TT):=by
    have g4:=qW c7 b5 ⋯ ⋯;obtain⟨f3,e9,g9⟩:=Lj (ts:=TT) (xF a0 N);refine⟨D,by unfold redT;rw[zqe];exact a6,e9,G.le ∅,λz m=>?_,⋯⟩;obtain⟨y,d3,b8⟩:=f3 z m;obtain⟨k,M,rfl⟩:=wM d3;have e:=F k ⋯;rw[zqd M]at e;have g6:=zQ e;rw[g6]at b8;have h3:k<d:=⋯
    have b1:=O _ (L2.getD_mem (show k<Y.length by omega));have b2:=a9 _ (L2.getD_mem (show k<g.length by omega));have i2:=a3 _ (L2.getD_mem (show k<c9.length by omega));have h9:(Y.getD k 0*o).natAbs<=2^17*12:=by rw[xT];exact vD (wA b1) ⋯
    have g7:((g.getD k 0-c9.getD k 0)*p).natAbs<=(2^5+2^32)*6:=by rw[xT];exact vD ⋯ ⋯
    exact yZ b8 (zI (show _<2^40 by omega) (zX ∅ ∅))
   obtain⟨f9,e5,f4⟩:=g2;refine⟨q,_,rfl,SqT.of e5,rfl,?_⟩;simp only[nV,gNil,oU];refine⟨_,_,rfl,_,_,rfl,rfl,?_⟩;symm;refine nF λi1 eB=>?_;simp only[iSeq];ext;have f0:=(W.trans v).trans d0;have c2:MatB false false K a4 X C:=(b0.up (b3.trans f0)).b;obtain⟨h0,e3⟩:∃xs,SqB false K a4 X xs:=let ⟨ps,h,_⟩:=c2;⟨_,h⟩
   refine⟨false,⟨_,e3⟩,λg1 f1=>?_⟩;subst eB;refine Er c2 (by rw[D.1];omega) f1 λb6 zs g3 m S=>?_;refine⟨g1,_,rfl,.inl ⟨SqL.of m,λl c4=>?_⟩⟩;have b4:Same a4 (upd b6 l (.tup zs)):=g3.trans (Same.new c4);replace S:=S l c4;generalize upd b6 l (.tup zs)=h4 at b4 S;exact⟨(by show 3<=sizeLine;decide),λx a2=>a7 x _ (((I.trans d0).trans b4).trans (Same.new a2)) ⟨l,f9,oQ,S.up (Same.new a2),Same.new a2 _ _ (b4 _ _ f4)⟩ fine⟩
def famG:Nat->List LM
 |0=>[[[0,-1],[1,0]],[[-1,0],[0,1]]]
 |1=>[[[1,-1],[1,0]],[[0,1],[1,0]]]
 |2=>[[[-1,0,0],[0,1,0],[0,0,1]],[[1,0,0],[0,-1,0],[0,0,-1]],[[-1,0,0],[0,-1,0],[0,0,1]]]
 |3=>[[[0,-1,0],[1,0,0],[0,0,1]],[[0,0,1],[1,0,0],[0,1,0]],[[-1,0,0],[0,-1,0],[0,0,-1]]]
 |4=>[[[1,-1,0],[1,0,0],[0,0,1]],[[0,1,0],[1,0,0],[0,0,1]],[[1,0,0],[0,1,0],[0,0,-1]]]
 |_=>[[[0,-1,0],[1,-1,0],[0,0,1]],[[-1,0,0],[0,-1,0],[0,0,-1]]]
def famM:Nat->Nat
 |0=>4
 |1=>4
 |2=>2
 |3=>1
 |4=>6
 |_=>3
def famD(k:Nat):Nat:=if k<2 then 2 else 3
def Xw(d:Nat)(gs l:List LM):List LM:=(l.flatMap λA=>gs.map λg=>mulM d g A).foldl (λacc M=>if acc.contains M then acc else acc++[M]) l
def Fz(d:Nat)(gs:List LM):Nat->List LM->List LM
 |0,l=>l
 |n+1,l=>Fz d gs n (Xw d gs l)
def pgL(k:Nat):List LM:=Fz (famD k) (famG k) 10 [idM (famD k)]
def axB(R:LM):Bool:=decide ((R.getD 0 []).getD 2 0=0) && decide ((R.getD 1 []).getD 2 0=0) && decide ((R.getD 2 []).getD 0 0=0) && decide ((R.getD 2 []).getD 1 0=0)
def invM(d:Nat)(A:LM):LM:=mulM d A (mulM d (mulM d A A) (mulM d (mulM d (mulM d A A) (mulM d A A)) (mulM d (mulM d A A) (mulM d A A))))
def Li(k:Nat):Bool:=
 (pgL k).contains (idM (famD k)) && (famG k).all (λg=>(pgL k).contains g) &&
 (pgL k).all (λA=>(famG k).all λg=>(pgL k).contains (mulM (famD k) g A)) &&
 (pgL k).all (λA=>decide (mulM (famD k) A (invM (famD k) A)=idM (famD k)) && decide (mulM (famD k) (invM (famD k) A) A=idM (famD k))) &&
 (pgL k).all (λA=>decide (A.length=famD k) && A.all λr=>decide (r.length=famD k) && r.all λz=>decide (z.natAbs<=1)) &&
 (k != 4 || (pgL k).all axB) && decide ((pgL k).length*(if k=4 then famM k else famM k^famD k)<=192)
theorem Xv:(List.range 6).all Li=true:=nofun
theorem kO(k:Nat):famD k=2\/famD k=3:=by unfold famD;split <;> simp
theorem Lh{M:LM}:∀(xs acc:List LM),M∈xs.foldl (λacc M=>if acc.contains M then acc else acc++[M]) acc->M∈acc\/M∈xs
 |[],_,h=>.inl h
 | x:: xs,acc,h=>by
  rcases Lh xs _ h with q|q
  ·dsimp only at q;split at q
   ·exact .inl q
   ·rcases oA.mp q with q|q
    ·exact .inl q
    ·exact .inr (by rw[pY.mp q];exact .head _)
  ·exact .inr (.tail _ q)
theorem Lg{P:LM->Prop}{d:Nat}{gs:List LM}(a:∀A,P A->∀g∈gs,P (mulM d g A)):∀(n:Nat)(l:List LM),(∀A∈l,P A)->∀M∈Fz d gs n l,P M
 |0,_,h=>h
 |n+1,l,h=>Lg a n _ λM b=>by
  rcases Lh _ _ b with q|q
  ·exact h M q
  ·obtain⟨A,c,q⟩:=oC.mp q;obtain⟨g,e,rfl⟩:=pS.mp q;exact a A (h A c) g e
structure Fam(k:Nat):Prop where
 one:idM (famD k)∈pgL k
 gen:∀g∈famG k,g∈pgL k
 mul:∀A∈pgL k,∀B∈pgL k,mulM (famD k) A B∈pgL k
 inv:∀A∈pgL k,∃B∈pgL k,mulM (famD k) A B=idM (famD k)/\mulM (famD k) B A=idM (famD k)
 sq:∀A∈pgL k,Sq (famD k) A
 wee:∀A∈pgL k,∀r∈A,∀z∈r,z.natAbs<=1
 ax:k=4->∀A∈pgL k,axB A=true
 len:(pgL k).length*(if k=4 then famM k else famM k^famD k)<=192
theorem gS{k:Nat}(l:k<6):Fam k:=by
 have h:=wR.mp Xv k (pO.mpr l);simp only[Li,Bool.and_eq_true,List.all_eq_true,decide_eq_true_eq,List.contains_iff_mem,Bool.or_eq_true,bne_iff_ne,ne_eq]at h;obtain⟨⟨⟨⟨⟨⟨p,d⟩,m⟩,u⟩,i⟩,x⟩,y⟩:=h;have j:=kO k;have b:∀A∈pgL k,Sq (famD k) A:=λA a=>⟨(i A a).1,λr hr=>((i A a).2 r hr).1⟩;have mul:∀A∈pgL k,∀B∈pgL k,mulM (famD k) A B∈pgL k:=λA a=>(Lg (P:=λA=>Sq (famD k) A/\∀B∈pgL k,mulM (famD k) A B∈pgL k) (gs:=famG k) (λA⟨q,o⟩g f=>⟨(b g (d g f)).mul,λB c=>by
  rw[mul_assoc j (b g (d g f)) q (b B c)];exact m _ (o B c) g f⟩) 10 [idM (famD k)] (λA a=>by
   rw[pY.mp a];exact⟨nM,λB c=>by rw[(jE j (b B c)).1];exact c⟩) A a).2
 have sq2:=λA a=>mul A a A a;have sq4:=λA a=>mul _ (sq2 A a) _ (sq2 A a);exact⟨p,d,mul,λA a=>⟨invM (famD k) A,mul A a _ (mul _ (sq2 A a) _ (mul _ (sq4 A a) _ (sq4 A a))),u A a⟩,b,λA a r hr z v=>((i A a).2 r hr).2 z v,λe A a=>(x.resolve_left (λn=>n e)) A a,y⟩
def Tp(k:Nat)(t:LI'):Prop:=t.length=famD k/\(k=4->∃z,t=[0,0,z])
def rngI(p:Nat):LI':=(List.range p).map λn:Nat=>Int.ofNat n
def topL(k p:Nat):LM:=if k=4 then(rngI p).map λz=>[0,0,z] else if k<2 then(rngI p).flatMap λx=>(rngI p).map λy=>[x,y] else(rngI p).flatMap λx=>(rngI p).flatMap λy=>(rngI p).map λz=>[x,y,z]
theorem bN{b c:Type}{f:b->List c}{n:Nat}:∀{l:List b},(∀x∈l,(f x).length=n)->(l.flatMap f).length=l.length*n
 |[],_=>by simp
 |a:: l,h=>by
  rw[List.flatMap_cons,zS,h a zU,bN λx d=>h x (zM _ d),zW,sF];omega
theorem dI{p:Nat}:(rngI p).length=p:=by simp[rngI]
theorem Xu{k p:Nat}:(topL k p).length=if k=4 then p else p^famD k:=by
 unfold topL famD
 by_cases a:k=4
 ·rw[zG a,zG a,zqe,dI]
 ·rw[zF a,zF a]
  by_cases b:k<2
  ·rw[zG b,zG b,bN (n:=p) λx _=>by rw[zqe,dI],dI];grind
  ·rw[zF b,zF b,bN (n:=p*p) λx _=>by rw[bN (n:=p) λy _=>by rw[zqe,dI],dI],dI];grind
theorem dJ{p:Nat}(c:0<p)(z:Int):z.fmod p∈rngI p:=by
 have a:0<=z.fmod p:=uI z ⋯;have b:z.fmod p<p:=tR z ⋯;exact pS.mpr ⟨(z.fmod p).toNat,pO.mpr ⋯,Int.toNat_of_nonneg a⟩
theorem Xt{k p:Nat}(a:0<p){t:LI'}(h:Tp k t):mJ p t∈topL k p:=by
 unfold topL;obtain⟨hl,d⟩:=h
 by_cases b:k=4
 ·obtain⟨z,rfl⟩:=d b;rw[zG b];refine pS.mpr ⟨z.fmod p,dJ a z,?_⟩;simp[mJ]
 ·rw[zF b];unfold famD at hl
  by_cases c:k<2
  ·rw[zG c]at hl ⊢;obtain⟨x,y,rfl⟩:=v2 hl;exact oC.mpr ⟨x.fmod p,dJ a x,pS.mpr ⟨y.fmod p,dJ a y,rfl⟩⟩
  ·rw[zF c]at hl ⊢;obtain⟨x,y,z,rfl⟩:=v3 hl;exact oC.mpr ⟨x.fmod p,dJ a x,oC.mpr ⟨y.fmod p,dJ a y,pS.mpr ⟨z.fmod p,dJ a z,rfl⟩⟩⟩
theorem Tp.turn{k:Nat}(F:Fam k){R:LM}(a:R∈pgL k){t t':LI'}(h:Tp k t)(h':Tp k t'):Tp k (va (mv R t) t'):=by
 refine⟨Ek (lE (F.sq R a)) h'.1,λe=>?_⟩;obtain⟨z,rfl⟩:=h.2 e;obtain⟨f,rfl⟩:=h'.2 e;have b:=F.sq R a;have c:=F.ax e R a;have d:famD k=3:=by rw[e];rfl
 rw[d]at b;obtain⟨l,o,q,m,j,p,n,i,g,rfl⟩:=sq3 b;simp only[axB,Bool.and_eq_true,decide_eq_true_eq,List.getD_cons_zero,List.getD_cons_succ]at c;obtain⟨⟨⟨rfl,rfl⟩,rfl⟩,rfl⟩:=c;refine⟨g*z+f,?_⟩;rw[mv3,va3];simp
theorem Tp.zero{k:Nat}:Tp k (List.replicate (famD k) 0):=⟨by simp,λe=>⟨0,by subst e;rfl⟩⟩
structure Frm where
 k:Nat
 p:Nat
 P:LM
 P':LM
 s:LI'
 su:Int
structure Frm.Ok(F:Frm):Prop where
 k:F.k<6
 p:0<F.p
 pm:F.p<=famM F.k
 c:Chg (famD F.k) F.P F.P'
 s:F.s.length=famD F.k
 su:0<F.su
def Frm.at(F:Frm)(R:LM)(t:LI'):Dd:=frD (famD F.k) F.P F.P' F.s F.su F.p R t
def InF(F:Frm)(x:Dd):Prop:=∃R∈pgL F.k,∃t,Tp F.k t/\x=F.at R t
theorem Fy{F:Frm}(h:F.Ok){x y:Dd}(i:InF F x)(g:InF F y):InF F (nD (famD F.k) x y):=by
 obtain⟨e,c,j,b,rfl⟩:=i;obtain⟨R2,a,f,d,rfl⟩:=g;have M:=gS h.k;refine⟨mulM (famD F.k) R2 e,M.mul _ a _ c,va (mv R2 j) f,Tp.turn M a b d,?_⟩;exact fr_step (kO F.k) h.c h.s h.su (by have:=h.p;omega) (M.sq _ c) (M.sq _ a) b.1 d.1
theorem Fx{d:Nat}{c:Int}:smul c (List.replicate d 0)=List.replicate d 0:=by
 unfold smul;rw[List.map_replicate,pG]
theorem Fw{d:Nat}(b:d=2\/d=3){M:LM}{U:Int}(a:0<U):canD M (List.replicate d 0) U=(M,List.replicate d 0,1):=by
 have h:=Ed (M:=M) (ts:=List.replicate d 0) (U:=1) (k:=U) ⋯ a;rw[Fx,uK]at h;rw[h];have:mJ (redU 1 (List.replicate d 0)) (redT 1 (List.replicate d 0))=List.replicate d 0/\redU 1 (List.replicate d 0)=1:=by
  rcases b with rfl|rfl <;> decide +kernel
 unfold canD;rw[this.1,this.2]
theorem Fv{d:Nat}(a:d=2\/d=3){P e:LM}(h:Chg d P e){s:LI'}(m:s.length=d){f p:Int}(l:0<f)(j:0<p):frD d P e s f p (idM d) (List.replicate d 0)=oX d:=by
 have c:(smul p s).length=d:=by rw[jY];exact m
 have e1:cjM d P e (idM d)=idM d:=by
  unfold cjM;rw[(jE a h.p).2,h.r]
 unfold frD cjT;rw[e1,Fx,bF a c];have k:vs (va (mv P (List.replicate d 0)) (smul p s)) (smul p s)=List.replicate d 0:=by
  have i:mv P (List.replicate d 0)=List.replicate d 0:=by
   have:=bG a h.p (v:=List.replicate d 0) (by simp) 0;rw[Fx]at this;rw[this];unfold smul;refine List.eq_replicate_iff.mpr ⟨by rw[zqe,lE h.p],λb g=>?_⟩;obtain⟨z,_,rfl⟩:=pS.mp g;exact wW z
  rw[i];generalize smul p s=n at c ⊢;rcases a with rfl|rfl
  ·obtain⟨x,y,rfl⟩:=v2 c;simp[va,vs,List.replicate]
  ·obtain⟨x,y,z,rfl⟩:=v3 c;simp[va,vs,List.replicate]
 rw[k,Fw a (xF j l)];rfl
theorem Bs{F:Frm}(h:F.Ok):InF F (oX (famD F.k)):=⟨_,(gS h.k).one,_,Tp.zero,(Fv (kO F.k) h.c h.s h.su (by have:=h.p;omega)).symm⟩
def Frm.all(F:Frm):List Dd:=(pgL F.k).flatMap λR=>(topL F.k F.p).map λt=>F.at R t
theorem Xs{F:Frm}(h:F.Ok):F.all.length<=192:=by
 unfold Frm.all;rw[bN (n:=(topL F.k F.p).length) λx _=>by rw[zqe],Xu];refine yH (Nat.mul_le_mul_left _ ?_) (gS h.k).len;split
 ·exact h.pm
 ·exact Nat.pow_le_pow_left h.pm _
theorem Xr{F:Frm}(h:F.Ok){x:Dd}(d:InF F x):x∈F.all:=by
 obtain⟨R,b,t,c,rfl⟩:=d;have a:(0:Int)<F.p:=by have:=h.p;omega
 refine oC.mpr ⟨R,b,pS.mpr ⟨mJ F.p t,Xt h.p c,?_⟩⟩;exact(Wk h.su a (Cong.rest a t)).symm
theorem dL{F:Frm}(h:F.Ok){ss:List Dd}(c:∀s∈ss,InF F s)(N:Nat):(tab (famD F.k) ss N).length<=192/\∀y∈tab (famD F.k) ss N,InF F y.1 :=
 ⟨yH (Wh (Bs h) (λx a s b=>Fy h a (c s b)) (λx a=>Xr h a)) (Xs h),Bv (Bs h) λx a s b=>Fy h a (c s b)⟩
def Rs(d:Nat)(x:Dd):Prop:=∃M ts U,Sq d M/\ts.length=d/\0<U/\x=canD M ts U
theorem Fu{d:Nat}{N:LM}{ns ts:LI'}{u v:Int}(a:Sq d N)(b:ns.length=d):(movT N ns v ts u).length=d:=by
 unfold movT;rw[xC,a.1,b,rE]
theorem Rs.step{d:Nat}{x y:Dd}(g:Rs d x)(e:Rs d y):Rs d (nD d x y):=by
 obtain⟨M,ts,U,i,lt,b,rfl⟩:=g;obtain⟨N,ns,V,c,f,a,rfl⟩:=e;exact⟨_,_,_,c.mul,Fu c f,xF a b,gQ b a⟩
theorem Xq{d:Nat}(m:d=2\/d=3){N O:LM}(i:Sq d N)(k:Sq d O){ts ns f:LI'}(lt:ts.length=d)(j:ns.length=d)(lo:f.length=d){U V g:Int}:
  movT O f g (movT N ns V ts U) (V*U)=movT (mulM d O N) (movT O f g ns V) (g*V) ts U:=by
 rcases m with rfl|rfl
 ·obtain⟨a,b,c,e,rfl⟩:=sq2 i;obtain⟨F,C,y,a1,rfl⟩:=sq2 k;obtain⟨n,l,rfl⟩:=v2 lt;obtain⟨q,r,rfl⟩:=v2 j;obtain⟨p,o,rfl⟩:=v2 lo;rw[mul2];simp only[movT,dotI,List.zipWith_cons_cons,List.zipWith_nil_left,List.sum_cons,List.sum_nil,List.cons.injEq,and_true];refine⟨?_,?_⟩ <;> grind
 ·obtain⟨x,M,Y,J,G,R,L,Z,I,rfl⟩:=sq3 i;obtain⟨b1,b2,T,a2,u,a0,W,X,z,rfl⟩:=sq3 k;obtain⟨n,l,S,rfl⟩:=v3 lt;obtain⟨q,r,D,rfl⟩:=v3 j;obtain⟨p,o,v,rfl⟩:=v3 lo;rw[mul3];simp only[movT,dotI,List.zipWith_cons_cons,List.zipWith_nil_left,List.sum_cons,List.sum_nil,List.cons.injEq,and_true];refine⟨?_,?_,?_⟩ <;> grind
theorem fU{d:Nat}(f:d=2\/d=3){x y z:Dd}(m:Rs d x)(i:Rs d y)(l:Rs d z):nD d (nD d x y) z=nD d x (nD d y z):=by
 obtain⟨M,ts,U,k,lt,c,rfl⟩:=m;obtain⟨N,ns,V,g,j,a,rfl⟩:=i;obtain⟨O,o,n,e,lo,b,rfl⟩:=l;rw[gQ c a,gQ (xF a c) b,gQ a b,gQ c (xF b a),mul_assoc f e g k,Xq f g e lt j lo,Int.mul_assoc]
theorem Xp{d:Nat}(a:d=2\/d=3):Rs d (oX d):=⟨idM d,List.replicate d 0,1,nM,by simp,⋯,(Fw a ⋯).symm⟩
theorem Xo{d:Nat}(a:d=2\/d=3):oX d=canD (idM d) (List.replicate d 0) 1:=(Fw a ⋯).symm
theorem Ft{d:Nat}(j:d=2\/d=3){N:LM}(g:Sq d N){ns:LI'}(f:ns.length=d){V:Int}:movT N ns V (List.replicate d 0) 1=ns/\movT (idM d) (List.replicate d 0) 1 ns V=ns:=by
 rcases j with rfl|rfl
 ·obtain⟨a,b,c,e,rfl⟩:=sq2 g;obtain⟨i,k,rfl⟩:=v2 f;rw[id2];simp[movT,dotI,List.replicate]
 ·obtain⟨q,v,x,r,o,n,u,l,p,rfl⟩:=sq3 g;obtain⟨i,k,m,rfl⟩:=v3 f;rw[id3];simp[movT,dotI,List.replicate]
theorem gT{d:Nat}(a:d=2\/d=3){x:Dd}(e:Rs d x):nD d (oX d) x=x/\nD d x (oX d)=x:=by
 obtain⟨M,ts,U,b,lt,c,rfl⟩:=e;rw[Xo a];refine⟨?_,?_⟩
 ·rw[gQ ⋯ c,(Ft a b lt).1,(jE a b).2,uK]
 ·rw[gQ c ⋯,(Ft a b lt).2,(jE a b).1,tI]
theorem bO{F:Frm}(h:F.Ok){x:Dd}(a:InF F x):Rs (famD F.k) x:=by
 obtain⟨R,b,t,c,rfl⟩:=a;exact⟨_,_,_,gP h.c R,Ej h.c (by rw[jY];exact h.s),xF (by have:=h.p;omega) h.su,rfl⟩
theorem Fs{d:Nat}:∀{v:LI'},v.length=d->va v (smul (-1) v)=List.replicate d 0/\va (smul (-1) v) v=List.replicate d 0
 |[],h=>by subst h;exact⟨rfl,rfl⟩
 |a:: v,h=>by
  obtain⟨m,rfl⟩:∃m,d=m+1:=⟨v.length,by rw[←h];rfl⟩;have:=Fs (v:=v) (d:=m) (by simpa using h);unfold va smul at this ⊢;rw[zK,yW,yW,this.1,this.2,wN,show a+-1*a=0 by omega,show -1*a+a=0 by omega];exact⟨rfl,rfl⟩
theorem Tp.neg{k:Nat}{t:LI'}(h:Tp k t):Tp k (smul (-1) t):=⟨by rw[jY];exact h.1,λe=>by
 obtain⟨z,rfl⟩:=h.2 e;exact⟨-1*z,rfl⟩⟩
theorem Xn{d:Nat}(a:d=2\/d=3){v:LI'}(h:v.length=d):va v (List.replicate d 0)=v:=by
 rcases a with rfl|rfl
 ·obtain⟨x,y,rfl⟩:=v2 h;simp[va,List.replicate]
 ·obtain⟨x,y,z,rfl⟩:=v3 h;simp[va,List.replicate]
theorem Xm{F:Frm}(h:F.Ok){x:Dd}(j:InF F x):∃y,InF F y/\nD (famD F.k) x y=oX (famD F.k)/\nD (famD F.k) y x=oX (famD F.k):=by
 obtain⟨R,d,t,c,rfl⟩:=j;have M:=gS h.k;have a:=kO F.k;have e:(0:Int)<F.p:=by have:=h.p;omega
 obtain⟨B,b,e1,i⟩:=M.inv R d;have f:(mv B t).length=famD F.k:=lE (M.sq B b);have g:Tp F.k (smul (-1) (mv B t)):=by
  have:=Tp.turn M b c (Tp.zero (k:=F.k));rw[Xn a f]at this;exact this.neg
 refine⟨F.at B (smul (-1) (mv B t)),⟨B,b,_,g,rfl⟩,?_,?_⟩
 ·unfold Frm.at
  rw[fr_step a h.c h.s h.su e (M.sq R d) (M.sq B b) c.1 g.1,i,(Fs f).1,Fv a h.c h.s h.su e]
 ·unfold Frm.at
  rw[fr_step a h.c h.s h.su e (M.sq B b) (M.sq R d) g.1 c.1,e1,bG a (M.sq R d) f,←bE a (M.sq R d) (M.sq B b) c.1,e1,bF a c.1,(Fs c.1).2,Fv a h.c h.s h.su e]
structure Grp(d:Nat)(T:List Dd):Prop where
 dim:d=2\/d=3
 nd:T.Nodup
 rs:∀x∈T,Rs d x
 one:oX d∈T
 mul:∀x∈T,∀y∈T,nD d x y∈T
 inv:∀x∈T,∃y∈T,nD d x y=oX d/\nD d y x=oX d
theorem Lf{d:Nat}(l:d=2\/d=3){ss T:List Dd}(e:∀x∈T,Rs d x)(a:∀s∈ss,Rs d s)(m:∀x∈T,∀s∈ss,nD d x s∈T){x:Dd}(i:x∈T):∀(w:List Nat),(∀k∈w,k<ss.length)->∀y,Rs d y->nD d x y∈T->nD d x (w.foldl (λx k=>nD d x (ss.getD k (oX d))) y)∈T
 |[],_,y,_,h=>h
 | k:: w,g,y,f,h=>by
  rw[wL];have c:=g k zU;have b:ss.getD k (oX d)∈ss:=by
   rw[zqc,zqd c];exact xD c
  refine Lf l e a m i w (λj n=>g j (zM _ n)) _ (f.step (a _ b)) ?_;rw[←fU l (e x i) f (a _ b)];exact m _ h _ b
theorem Xl{c:Type}{l L:List c}(d:l.Nodup)(sub:∀x∈l,x∈L)(hl:L.length<=l.length){a:c}(e:a∈L):a∈l:=by
 refine tM λf=>?_;have:=bK (l:=a:: l) (L:=L) (rK.mpr ⟨f,d⟩) λx b=>by
  rcases xE.mp b with rfl|b
  ·exact e
  ·exact sub x b
 rw[zW]at this;omega
theorem Br{d k:Type}{f:d->k}:∀{l:List d},l.Nodup->(∀x∈l,∀y∈l,f x=f y->x=y)->(l.map f).Nodup
 |[],_,_=>by simp
 |a:: l,i,h=>by
  rw[zK,rK];have g:=rK.mp i;refine⟨λn=>?_,Br g.2 λx m y j=>h x (zM _ m) y (zM _ j)⟩;obtain⟨b,c,e⟩:=pS.mp n;exact g.1 ((h b (zM _ c) a zU e) ▸ c)
theorem Le{F:Frm}(h:F.Ok){ss:List Dd}(l:∀s∈ss,InF F s){N:Nat}(I:192<=N):Grp (famD F.k) ((tab (famD F.k) ss N).map (·.1)):=by
 have c:=kO F.k;obtain⟨J,q⟩:=dL h l N;have o:∀x∈(tab (famD F.k) ss N).map (·.1),InF F x:=λx a=>by
  obtain⟨y,b,rfl⟩:=pS.mp a;exact q y b
 have d:∀x∈(tab (famD F.k) ss N).map (·.1),Rs (famD F.k) x:=λx a=>bO h (o x a);have D:∀s∈ss,Rs (famD F.k) s:=λs i=>bO h (l s i);have G:∀x∈(tab (famD F.k) ss N).map (·.1),∀s∈ss,nD (famD F.k) x s∈(tab (famD F.k) ss N).map (·.1):=λx a s i=>by
  obtain⟨y,b,rfl⟩:=pS.mp a;exact Eb ⋯ y b s i
 have mul:∀x∈(tab (famD F.k) ss N).map (·.1),∀y∈(tab (famD F.k) ss N).map (·.1),nD (famD F.k) x y∈(tab (famD F.k) ss N).map (·.1):=λx a y b=>by
  obtain⟨z,f,rfl⟩:=pS.mp b;obtain⟨e,r⟩:=Wf z f;rw[e];exact Lf c d D G a z.2 r _ (Xp c) (by rw[(gT c (d x a)).2];exact a)
 have one:oX (famD F.k)∈(tab (famD F.k) ss N).map (·.1):=pS.mpr ⟨_,Bu,rfl⟩;refine⟨c,bL,d,one,mul,λm j=>?_⟩;obtain⟨n,v,e1,C⟩:=Xm h (o m j);have k:=bO h v;have g:∀x∈(tab (famD F.k) ss N).map (·.1),nD (famD F.k) (nD (famD F.k) x m) n=x:=λx a=>by
  rw[fU c (d x a) (d m j) k,e1,(gT c (d x a)).2]
 have u:(((tab (famD F.k) ss N).map (·.1)).map λx=>nD (famD F.k) x m).Nodup:=Br bL λx a y b e=>by rw[←g x a,←g y b,e]
 have f:oX (famD F.k)∈((tab (famD F.k) ss N).map (·.1)).map λx=>nD (famD F.k) x m:=Xl u (λz f=>by
  obtain⟨x,a,rfl⟩:=pS.mp f;exact mul x a m j) (rN (zqe ..).symm) one
 obtain⟨y,b,e⟩:=pS.mp f;have p:y=n:=by
  have:=g y b;rw[e,(gT c k).1]at this;exact this.symm
 subst p;exact⟨y,b,e1,C⟩
def sp_q:Sp:=λvs H Q _=>E1 λ(k:Nat)=>A3 (vs=[.int k]) (k<6) (∀p g H',Same H H'->H' p=some (.tup [.ref g,.int (famM k)])->Mats H' g (famG k)->Q (.ref p) H')
def sp_v(K:Frag):Sp:=λvs H Q _=>E3 λ(c:Int)(k p:Nat)=>A5 (vs=[.int c,.int k,.int p]) (k<6) (1<=p) (p<=6) (∀q a b R ts H',Same H H'->H' q=some (.tup [.ref a,.ref b])->MatL H' a R->H' b=some (.lst (ts.map V.int))->R∈pgL k->Tp k ts->(∀z∈ts,0<=z/\z<p)->Q (.ref q) H')
abbrev RtA:=Expr×Nat×Pos×Nat×Pos×Pos
abbrev IfA:=Stmt×Pos×Nat×Pos×Pos×Pos
def retA:Stmt->RtA
 |.Return (some (.Tuple [e,.Constant _ j p] k q)) r=>(e,j,p,k,q,r)
 |_=>(.Name "" ⟨0,0,0,0⟩,0,⟨0,0,0,0⟩,0,⟨0,0,0,0⟩,⟨0,0,0,0⟩)
def retS(m:Int)(a:RtA):Stmt:=.Return (some (.Tuple [a.1,.Constant (.int m) a.2.1 a.2.2.1] a.2.2.2.1 a.2.2.2.2.1)) a.2.2.2.2.2
def ifA:Stmt->IfA
 |.If (.Compare (.Name _ p) _ [.Constant _ j q] r) [s] _ u=>(s,p,j,q,r,u)
 |s=>(s,⟨0,0,0,0⟩,0,⟨0,0,0,0⟩,⟨0,0,0,0⟩,⟨0,0,0,0⟩)
def ifS(x:Str)(k:Int)(a:IfA):Stmt:=.If (.Compare (.Name x a.2.1) [.Eq] [.Constant (.int k) a.2.2.1 a.2.2.2.1] a.2.2.2.2.1) [a.1] [] a.2.2.2.2.2
abbrev Ld(Ms:List LM)(m:Int):TS:=tRet (tTup (oV (Hh Ms) (oV (tC (.int m)) tNil)))
def okF(e:Expr)(Ms:List LM):Bool:=isList e && (decide (Cm e=some Ms) && Rv Ms)
theorem Lc{X:Cx}{st:Stmt}{a:RtA}{b:List LM}{m:Int}(h:st=retS m a)(ok:okF a.1 b=true):PS X st (Ld b m):=by
 subst h;obtain⟨e,j,p,k,q,r⟩:=a;obtain⟨hl,c⟩:=Bool.and_eq_true_iff.mp ok;refine nA (mG (oK (Rw c) (oK oW oM) ?_));dsimp only at hl;unfold isList at hl;split at hl
 ·rfl
 ·cases hl
theorem bP{X:Cx}{st:Stmt}{a:IfA}{b:RtA}{x:Str}{k m:Int}{c:List LM}{i:Nat}(h:st=ifS x k a)(d:a.1=retS m b)(ok:okF b.1 c=true)(hi:X.N[i]?=some x)(g:Vis X.env.scope x)(f:(x == ("__debug__" :Str))=false)(e:(x == ("__classdict__" :Str))=false):PS X st (tIfS (fD (tOp (rI0 λi j=>.bl (decide (i=j))) (tVar i) (tC (.int k)))) (Ld c m) Fg):=by
 subst h;exact nT (nL jM (Fj hi g f e) oW (nJ _)) (oP (Lc d ok)) nS
@[irreducible] def S_f(k:Nat):Stmt:=(kF cS).getD k (.Pass ⟨0,0,0,0⟩)
@[irreducible] def I_f(k:Nat):IfA:=ifA (S_f k)
@[irreducible] def R_f(k:Nat):RtA:=retA (I_f k).1
theorem Xk:kF cS=[S_f 0,S_f 1,S_f 2,S_f 3,S_f 4,S_f 5]:=by unfold S_f;kernel_rfl
def famF(k:Nat):Prop:=S_f k=ifS "_law_kind" k (I_f k)/\(I_f k).1=retS (famM k) (R_f k)/\okF (R_f k).1 (famG k)=true
theorem kP(k:Nat)(a:k<5):famF k:=by
 rcases(show k=0\/k=1\/k=2\/k=3\/k=4 by omega) with e|e|e|e|e <;> subst e <;> (unfold famF;refine⟨?_,?_,?_⟩ <;> (try unfold R_f) <;> (try unfold I_f) <;> (try unfold S_f) <;> kernel_rfl)
theorem q_f5:S_f 5=retS (famM 5) (R_f 5)/\okF (R_f 5).1 (famG 5)=true:=by
 refine⟨?_,?_⟩ <;> (try unfold R_f) <;> (try unfold I_f) <;> (try unfold S_f) <;> kernel_rfl
theorem Xj{X:Cx}{b b2:List Stmt}{u:TS}(h:b=b2)(p:PSs X b2 u):PSs X b u:=by rw[h];exact p
theorem ok_q(T:Txt K mg t):FnOk P w K mg base CX0 1 t.a_q t.d_q pI' sp_q:=by
 apply T.F_q.ok sc_q
 ·obtain⟨k,rfl,y,u⟩:=h;refine⟨_,Xj Xk (oN (bP (i:=0) (kP 0 ∅).1 (kP 0 ∅).2.1 (kP 0 ∅).2.2 rfl (.inl rfl) rfl rfl) (oN (bP (i:=0) (kP 1 ∅).1 (kP 1 ∅).2.1 (kP 1 ∅).2.2 rfl (.inl rfl) rfl rfl) (oN (bP (i:=0) (kP 2 ∅).1 (kP 2 ∅).2.1 (kP 2 ∅).2.2 rfl (.inl rfl) rfl rfl) (oN (bP (i:=0) (kP 3 ∅).1 (kP 3 ∅).2.1 (kP 3 ∅).2.2 rfl (.inl rfl) rfl rfl) (oN (bP (i:=0) (kP 4 ∅).1 (kP 4 ∅).2.1 (kP 4 ∅).2.2 rfl (.inl rfl) rfl rfl) (oP (Lc q_f5.1 q_f5.2))))))),?_⟩;show tSeq _ _ _ [some (.int k)] H;have a:∀(c:List LM)(m:Int),c=famG k->m=(famM k:Int)->∀p b,Same H b->Mats b p c->2<=sizeLine/\∀q,b q=none->Q (.ref q) (upd b q (.tup [.ref p,.int m])):=by
   intro c m e1 o p b g n;subst e1 o;exact⟨∅,λq d=>u q p _ (g.trans (Same.new d)) oQ (n.up (Same.new d))⟩
  ext;refine ite2 (λh=>?_) λf=>ite2 (λh=>?_) λr=>ite2 (λh=>?_) λi=>ite2 (λh=>?_) λj=>ite2 (λh=>?_) λl=>?_
  ·have e:k=0:=by have:=yM h;omega
   subst e;exact a _ _ rfl rfl
  ·have e:k=1:=by have:=yM h;omega
   subst e;exact a _ _ rfl rfl
  ·have e:k=2:=by have:=yM h;omega
   subst e;exact a _ _ rfl rfl
  ·have e:k=3:=by have:=yM h;omega
   subst e;exact a _ _ rfl rfl
  ·have e:k=4:=by have:=yM h;omega
   subst e;exact a _ _ rfl rfl
  ·have x:¬((k:Int)=0):=λz=>f (zL z);have D:¬((k:Int)=1):=λz=>r (zL z);have F:¬((k:Int)=2):=λz=>i (zL z);have C:¬((k:Int)=3):=λz=>j (zL z);have v:¬((k:Int)=4):=λz=>l (zL z);have e:k=5:=⋯
   subst e;exact a _ _ rfl rfl
theorem Lb{k:Nat}(a:k<6):∃M,(famG k)[0]?=some M/\M.length=famD k/\(famG k).length<=3:=by
 rcases(show k=0\/k=1\/k=2\/k=3\/k=4\/k=5 by omega) with e|e|e|e|e|e <;> subst e <;> exact⟨_,rfl,∅,∅⟩
theorem Fr{k:Nat}(F:Fam k){R:LM}(h:R∈pgL k):nY 1 R:=λr hr z a=>by
 have:=F.wee R h r hr z a;omega
theorem ok_v(T:Txt K mg t):FnOk P w K mg base CX0 2 t.a_v t.d_v pc' (sp_v K):=by
 have c3:=@ok_q P w K mg base t T;have e6:=@ok_9 P w K mg base t T;have d8:=@ok_n P w K mg base t T;apply T.F_v.ok sc_v
 ·obtain⟨c,k,p,rfl,W,f2,e9,a8⟩:=h;have F:=gS W;have c5:=kO k;obtain⟨f6,a3,a9,f4⟩:=Lb W;refine⟨_,(oN (oY (i:=3) sc_v.nd rfl (Or.inr rfl) (oT (oS c3 hr.mo T.F_q (oK (pq 1) oM))))
   (oN (oY (i:=4) sc_v.nd rfl (Or.inl rfl) (oR lK (nQ T.z_len (pq 3)) oW))
   (oN (fH (i:=5) (xs:=["_law_i"]) (fr:=[("_law_generators",3)]) (g:=(oU 0)) (tt:=(tEl (nW (mH (oV (tCB (kY K) (oV (tOp (rIxB K) (tVar 1) (tC (.int 0))) tNil)) tNil)) (oU 0) (tEl (tCB (λxs H Q=>(∃i,xs=[.int i]/\Q (.int i) H)\/∃k,xs=[.bl k]/\Q (.int (if k then 1 else 0)) H) (oV (tOp (rI0 λi j=>.bl (decide (i=j))) (tVar 1) (tVar 0)) tNil))) 1 [("_law_i",0)]))) (lD (sc:=oO Ai) (N:=N_v) rfl rfl (nofun)) rfl sc_v.nd rfl rfl (lJ rfl T.z_range (oK (nQ T.z_len (oT (pq 3))) oM)) (λ_ _ _ U=>(jO (N:=["_law_i","_law_generators"]) (i:=0) U rfl (nofun) rfl)) (λ_ _ _ U=>(lP (nR (N:=["_law_i","_law_generators"]) (fr:=[("_law_i",0)]) (te:=(tCB (λxs H Q=>(∃i,xs=[.int i]/\Q (.int i) H)\/∃k,xs=[.bl k]/\Q (.int (if k then 1 else 0)) H) (oV (tOp (rI0 λi j=>.bl (decide (i=j))) (tVar 1) (tVar 0)) tNil))) U rfl (nofun) rfl (nofun) (lJ rfl T.z_range (oK (nQ T.z_len (oT (pv 1))) oM)) (λ_ _ _ f7=>(mP Bi rfl T.z_int (nofun) (oK (jR jM (pv 1) (pv 0) (nJ _)) oM)))))))
   (oN (lF yD rfl (lJ rfl T.z_range (oK oW oM)) (nN (i:=6) sc_v.nd rfl (Or.inl rfl))
   (oN (nT (nL bZ (oR lA (pq 0) (pq 4)) oW (nJ _))
   (oP (oY (i:=5) sc_v.nd rfl (Or.inl rfl) (oS e6 hr.mo T.F_9 (oK (mI ix_B (pq 3) (oR fB (oR lA (pq 0) (pq 4)) oW) (λ_ _=>rfl)) (oK (pq 5) oM)))))
   nS)
   (oP (oY (i:=0) sc_v.nd rfl (Or.inl rfl) (oR kG (pq 0) (pq 4))))))
   (oN (nT (nL jM (pq 1) oW (nJ _))
   (oP (nA (mG (oK (pq 5) (oK (lO (oK oW (oK oW (oK (oR lA (pq 0) (pq 2)) oM)))) oM)))))
   nS)
   (oP (nA (mG (oK (pq 5) (oK (oS d8 hr.mo T.F_n (oK (pq 0) (oK (pq 2) (oK (nQ T.z_len (pq 5)) oM)))) oM)))))))))),?_⟩
  show tSeq _ _ _ [some (.int c),some (.int k),some (.int p),none,none,none,none] H;right;refine⟨k,rfl,W,λq g J b3 e0 I=>?_⟩;refine⟨true,q,_,_,_,rfl,rfl,SqB.tup e0,rfl,?_⟩;left;have a1:∃ps:LA,SqB false K J g (ps.map V.ref)/\ps.length=(famG k).length:=let ⟨ps,e4,d1,_⟩:=I;⟨ps,SqB.lst e4,d1⟩
  obtain⟨gs,a1,d3⟩:=a1;refine⟨false,g,_,rfl,a1,?_⟩
  try ext
  rw[zqe,d3];left;refine nF λB eB=>?_;simp only[mH];ext;refine I.at a3 rfl λf5 c8=>iH (c8.b (K:=K)) ?_;rw[a9];have e8:famD k<=3:=⋯
  refine⟨_,rfl,⋯,⋯,λN c9=>?_⟩;rw[zV];have go:∀r l,Same J l->MatL l r (idM (famD k))->N1 [some (.int c),some (.int k),some (.int p),some (.ref g),some (.int ((famG k).length+1)),some (.ref r),none] l:=by
   intro d7 l D e2;subst e1;refine st λN1 e1=>lH λb4 a0=>?_;simp only[mH];ext;refine⟨⋯,⋯,?_⟩;refine Hm (n:=2) (g:=oU 6) (tb:=b4) (λi X f=>∃(a:Int)(r:Addr)(R:LM)(v:Option V),X=[some (.int a),some (.int k),some (.int p),some (.ref g),some (.int ((famG k).length+1)),some (.ref r),v]/\Same J f/\MatL f r R/\R∈pgL k) ⟨c,d7,_,none,rfl,D,e2,F.one⟩ ?_ ?_
   ·rintro i X f hi ⟨a,r,R,v,rfl,d,x,m⟩;subst a0;show tSeq _ _ _ [some (.int a),some (.int k),some (.int p),some (.ref g),some (.int ((famG k).length+1)),some (.ref r),some (.int (0+(i:Int)))] f;have e5:jH a ((famG k).length+1):=⟨⋯,zI ((qU ⋯).mpr (show((((famG k).length:Int)+1)).natAbs<2^30 by omega)) ∅⟩;refine st λb9 Y=>?_;have nx:∀r R n,Same J n->MatL n r R->R∈pgL k->b9 [some (.int a),some (.int k),some (.int p),some (.ref g),some (.int ((famG k).length+1)),some (.ref r),some (.int (0+(i:Int)))] n:=by
     intro r R n C S c4;subst Y;ext;exact⟨e5,C,_,S,c4⟩
    ext;refine⟨⋯,?_⟩;have f3:=fms a (((famG k).length:Int)+1) ⋯;refine ite2 (λh=>?_) λ_=>nx r R f d x m;have f8:=yM h;refine⟨⋯,?_⟩;obtain⟨j,G⟩:=xK (show 0<=a.fmod (((famG k).length:Int)+1)-1 by omega);have u:j<(famG k).length:=⋯
    have a7:(famG k)[j]?=some (famG k)[j]:=zqd u;have L:=F.gen _ (xD u);generalize (famG k)[j]=M at a7 L;refine(I.up d).at a7 G λb1 Z=>?_;refine⟨false,false,false,false,b1,r,M,R,famD k,rfl,Z.b,x.b,F.sq M L,F.sq R m,c5,(Fr F L).le ∅,(Fr F m).le ∅,λd4 n C S=>nx d4 _ n (d.trans C) S (F.mul M L R m)⟩
   ·rintro X f ⟨a,r,R,v,rfl,d,x,m⟩;symm;have b0:=F.sq R m;refine ite2 (λh=>?_) λh=>?_
    ·have c6:k=4:=by have:=yM h;omega
     have e7:=fms a p ⋯;refine⟨⋯,by show 3<=sizeLine;decide,λb a4=>⟨by show 2<=sizeLine;decide,λO o=>?_⟩⟩;refine a8 O r b R [0,0,a.fmod p] _ ((b3.trans d).trans ((Same.new a4).trans (Same.new o))) oQ (x.up ((Same.new a4).trans (Same.new o))) (Same.new o _ _ oQ) m ⟨by rw[c6];rfl,λ_=>⟨_,rfl⟩⟩ λz a6=>?_;simp only[List.mem_cons,List.not_mem_nil,or_false]at a6;rcases a6 with e|e|e <;> rw[e] <;> omega
    ·have b5:k≠4:=λz=>h (zL ⋯);refine iH (x.b (K:=K)) ?_;refine⟨a,p,R.length,rfl,⋯,⋯,by have:=b0.1;omega,λb n ns C _ e3 d0 d5=>⟨by show 2<=sizeLine;decide,λO o=>?_⟩⟩;exact a8 O r b R ns _ ((b3.trans d).trans (C.trans (Same.new o))) oQ (x.up (C.trans (Same.new o))) (Same.new o _ _ e3) m ⟨by rw[d0,b0.1],λz=>absurd z b5⟩ d5
  refine kC (RowR N λi=>(List.range (famD k)).map λj=>if i=j then(1:Int) else 0) c9 ⋯ (RowR.mono (a:=N)) ?_ ?_
  ·intro i l zs hi D c7 c1 b8;subst eB;show nW _ _ _ _ _ [some (.int (0+(i:Int))),some (.ref g)] l c1;refine nF λb4 a0=>?_;simp only[mH];ext;refine(I.up D).at a3 rfl λb1 Z=>iH (Z.b (K:=K)) ?_;rw[a9];refine⟨_,rfl,⋯,⋯,λd9 a5=>?_⟩;rw[zV];refine kC (λj y _=>j<famD k/\y=.int (if i=j then 1 else 0)) a5 ⋯ (λ_ _ _ _ r _=>r) ?_ ?_
   ·intro j f f0 u d f1 d2 c2;subst a0;show tCB _ _ [some (.int (0+(j:Int))),some (.int (0+(i:Int)))] f d2;ext;refine .inr (c2 _ _ (Same.refl _) ⟨u,?_⟩);have G:(0+(i:Int)=0+(j:Int))↔i=j:=⋯
    by_cases q:i=j
    ·rw[zG q,zG (zL (G.mpr q))]
    ·rw[zF q,zF λh=>q (G.mp (yM h))]
   ·intro f ys d d6 a2 b6;have c0:ys=((List.range (famD k)).map λj=>if i=j then(1:Int) else 0).map V.int:=by
     refine mD (by rw[a2];simp) λj y e=>?_;obtain⟨u,rfl⟩:=b6 j y e;exact⟨_,by rw[zD,yP u];rfl,rfl⟩
    subst c0;exact b8 _ _ d ⟨d9,rfl,yA (mE c7 a5),d6⟩
  ·intro l ys D Y a2 b7;have b2:=MatL.of Y b7;rw[a2]at b2;exact go N l D b2
theorem La{H:Hp}{d:Nat}:∀ys:List V,(∀y∈ys,∃p,∃s:Stp,y=V.ref p/\s.Ok d/\H p=some (.tup [.int s.i,.int s.j,.int s.m]))->∃(ps:LA)(L:List Stp),ys=ps.map V.ref/\ps.length=L.length/\(∀s∈L,s.Ok d)/\∀(k:Nat) p s,ps[k]?=some p->L[k]?=some s->H p=some (.tup [.int s.i,.int s.j,.int s.m])
 |[],_=>⟨[],[],rfl,rfl,(λ_ h=>nomatch h),(λk p s e=>by cases e)⟩
 | y:: ys,h=>by
  obtain⟨p,s,rfl,ok,e⟩:=h _ (zU ..);obtain⟨ps,L,rfl,hl,f,c⟩:=La ys λz a=>h z (zM _ a);refine⟨p:: ps,s:: L,rfl,by simp[hl],λz a=>?_,λk q z e1 b=>?_⟩
  ·rcases xE.mp a with rfl|h
   ·exact ok
   ·exact f z h
  ·cases k with
   |zero=>cases e1;cases b;exact e
   |succ k=>exact c k q z e1 b
theorem Xi{H:Hp}{r b:Addr}{ms:LI'}{d:Nat}{k:St}{Q:VK}{fr:List (Str×Nat)}(N:lG fr k=[some (.int d)])(C:d=2\/d=3)(hr:H r=some (.lst (ms.map V.int)))(U:ms.length<=40)(T:H b=none)(R:∀L H',Same H H'->gR H' b L->(∀s∈L,s.Ok d)->L.length=ms.length->Q (.ref b) H'):kB (Its K false r) (oU 0) (tEl (mC sp_19 [] E0 (oV (tVar 0) (oV (tVar 1) tNil)))) 1 fr k b H Q:=by
 refine nO (λj y o=>∃p,∃s:Stp,y=V.ref p/\p≠b/\s.Ok d/\o p=some (.tup [.int s.i,.int s.j,.int s.m])) T (SqB.lst hr) (by rw[zqe];omega) (λj y o Y⟨p,s,e1,n,f,a⟩x=>⟨p,s,e1,n,f,x _ _ n a⟩) ?_ ?_
 ·intro j y c zs F l S v J;obtain⟨m,X,rfl⟩:=mS F;rw[N];show mC _ _ _ _ [some (.int m),some (.int d)] c v;ext;refine⟨m,d,rfl,C,λp W q i g G=>J _ _ i ⟨p,q,rfl,λe=>?_,G,g⟩⟩;rw[e,i _ _ S]at g;cases g
 ·intro c ys l a D M;obtain⟨ps,L,rfl,hl,z,I⟩:=La (H:=c) (d:=d) ys λy u=>by
   obtain⟨j,O,rfl⟩:=wM u;obtain⟨p,q,e1,_,f,a⟩:=M j _ (zqd O);exact⟨p,q,e1,f,a⟩
  rw[zqe,zqe]at D;exact R L c l ⟨ps,a,hl,I⟩ z ⋯
structure iB(k p:Nat)(L:List Stp)(S:LI')(su:Int):Prop where
 hk:k<6
 p1:1<=p
 pm:p<=famM k
 ok:∀s∈L,s.Ok (famD k)
 l6:L.length<=6
 lS:S.length=famD k
 bS:mO 5 S
 s0:0<su
 s1:su<=12
def bQ(H:Hp)(q:Addr)(k p:Nat)(L:List Stp)(S:LI')(su:Int):Prop:=∃l sp sl,H q=some (.tup [.int k,.int p,.ref l,.ref sp])/\gR H l L/\H sp=some (.tup [.ref sl,.int su])/\H sl=some (.lst (S.map V.int))
theorem bQ.up{H H':Hp}{q:Addr}{k p:Nat}{L:List Stp}{b:LI'}{a:Int}(h:bQ H q k p L b a)(s:Same H H'):bQ H' q k p L b a:=let ⟨l,e,f,d,i,c,g⟩:=h;⟨l,e,f,s _ _ d,i.up s,s _ _ c,s _ _ g⟩
def sp_o(K:Frag):Sp:=λvs H Q _=>E2 λ(a:Addr)(ns:LI')=>A3 (vs=[.ref a]) (SqL K H a (ns.map V.int)) (∀q k p L S su H',Same H H'->bQ H' q k p L S su->iB k p L S su->Q (.ref q) H')
theorem ok_o(T:Txt K mg t):FnOk P w K mg base CX0 2 t.a_o t.d_o pD' (sp_o K):=by
 have m:=@ok_d P w K mg base t T;have c4:=@ok_q P w K mg base t T;have a2:=@ok_n P w K mg base t T;have X:=@ok_19 P w K mg base t T;apply T.F_o.ok sc_o
 ·obtain⟨a,ns,rfl,G,c0⟩:=h;have o:SqB false K H a (ns.map V.int):=G;refine⟨_,(oN (oY (i:=1) sc_o.nd rfl (Or.inl rfl) (oS m hr.mo T.F_d (oK (pq 0) (oK oW oM))))
   (oN (oY (i:=2) sc_o.nd rfl (Or.inl rfl) (oR lA (pq 1) oW))
   (oN (iD (oS c4 hr.mo T.F_q (oK (pq 2) oM)) (lY rfl (nU (nN (i:=3) sc_o.nd rfl (Or.inl rfl)) (nU (nN (i:=4) sc_o.nd rfl (Or.inl rfl)) lW))))
   (oN (oY (i:=5) sc_o.nd rfl (Or.inr rfl) (nQ T.z_len (oT (pq 3))))
   (oN (oY (i:=6) sc_o.nd rfl (Or.inl rfl) (oR lK oW (oR lA (oR kG (pq 1) oW) (pq 4))))
   (oN (iX (i:=7) (sc:=oO cT) (N:=N_o) (fr:=[("_law_d",5)]) (te:=(mC (sp_19) [] E0 (oV (tVar 0) (oV (tVar 1) tNil)))) rfl rfl (nofun) rfl sc_o.nd rfl rfl (nofun) (nH (eG sl_B (pq 0) (iF oW) (iF oW))) (λ_ _ _ U=>(oS X hr.mo T.F_19 (oK (pv 0) (oK (pv 1) oM)))))
   (oN (iX (i:=8) (sc:=oO cT) (N:=N_o) (fr:=[]) (te:=(tOp (rI0 λi j=>.int (i-j)) (tOp (rI (λ_ j=>j≠0) λi j=>.int (i.fmod j)) (tOp (rI0 λi j=>.int (i+j)) (tVar 0) (tC (.int 20))) (tC (.int 41))) (tC (.int 20)))) rfl rfl (nofun) rfl sc_o.nd rfl rfl (nofun) (nH (oS a2 hr.mo T.F_n (oK (oS m hr.mo T.F_d (oK (pq 0) (oK oW oM))) (oK oW (oK (pq 5) oM))))) (λ_ _ _ U=>(oR fB (oR lA (oR lK (pv 0) oW) oW) oW)))
   (oP (nA (mG (oK (pq 2) (oK (pq 6) (oK (pq 7) (oK (mG (oK (pq 8) (oK (oR lK oW (oR lA (oS m hr.mo T.F_d (oK (pq 0) (oK oW oM))) oW)) oM))) oM)))))))))))))),?_⟩
  show tSeq _ _ _ [some (.ref a),none,none,none,none,none,none,none,none] H;right;refine⟨a,ns,0,rfl,G,∅,?_⟩;generalize ns.getD (Int.toNat 0) 0=c;left;refine⟨∅,?_⟩;have N:=fms c 6 ∅;obtain⟨k,c6⟩:=xK N.1;rw[c6]at N ⊢;have u:k<6:=⋯
  obtain⟨d2,Z,c8,d0⟩:=Lb u;have a0:=kO k;have c9:famD k<=3:=⋯
  left;refine⟨k,rfl,u,λq g f D b3 b6=>?_⟩;refine⟨q,_,rfl,SqT.of b3,rfl,?_⟩;simp only[nV,gNil,oU];refine⟨_,_,rfl,_,_,rfl,rfl,?_⟩;left;refine b6.at Z rfl λa9 c5=>iH (c5.b (K:=K)) ?_;rw[c8];left;have a9:1<=famM k/\famM k<=6:=by rcases(show k=0\/k=1\/k=2\/k=3\/k=4\/k=5 by omega) with e|e|e|e|e|e <;> subst e <;> decide
  refine⟨⟨∅,∅⟩,⋯,?_⟩;have d9:=fms (c.fdiv 6) (famM k) ⋯;obtain⟨p,ep⟩:=xK (show 0<=1+(c.fdiv 6).fmod (famM k) by omega);rw[ep];have R:1<=p/\p<=famM k:=⋯
  left;refine nF λd3 eB=>?_;simp only[iSeq];ext;refine⟨false,a,_,rfl,o.up D,(by intro e;cases e),λr hr=>?_⟩;rw[eJ];have b7:((ns.drop (HT.sIx ns.length 0 (some 8))).take (HT.sIx ns.length ns.length (some 14)-HT.sIx ns.length 0 (some 8))).length<=6:=by
   rw[yS,show((8:Int))=((8:Nat):Int) from rfl,show((14:Int))=((14:Nat):Int) from rfl,HT.sIx_nat,HT.sIx_nat];omega
  generalize (ns.drop (HT.sIx ns.length 0 (some 8))).take (HT.sIx ns.length ns.length (some 14)-HT.sIx ns.length 0 (some 8))=cs at b7;have l:(upd f r (seqO false (cs.map V.int))) r=some (.lst (cs.map V.int)):=oQ;have F:Same f (upd f r (seqO false (cs.map V.int))):=Same.new hr;generalize upd f r (seqO false (cs.map V.int))=e0 at l F;refine⟨false,r,rfl,⟨_,SqB.lst l⟩,λb0 c7=>?_⟩;subst eB;refine Xi rfl a0 l ⋯ c7 λL d8 W b2 ok d4=>?_;have b8:=F.trans W;have M:=D.trans b8;left;refine nF λd1 c3=>?_;simp only[iSeq];ext;refine⟨a,ns,1,rfl,o.up M,∅,?_⟩;refine⟨_,41,famD k,rfl,∅,∅,⋯,λb d6 ms O _ S a5 bm=>?_⟩;refine⟨false,b,rfl,⟨_,SqB.lst S⟩,λa8 b9=>?_⟩;refine nO (λj y _=>∃n,ms[j]?=some n/\y=.int ((n+20).fmod 41-20)) b9 (SqB.lst S) (by rw[zqe];omega) (λ_ _ _ _ r _=>r) ?_ ?_
  ·intro i x J zs a4 C d7 b1 a1;obtain⟨n,a3,rfl⟩:=mS a4;subst c3;show tOp _ _ _ [some (.int n)] J b1;ext;exact⟨∅,a1 _ _ (Same.refl _) ⟨n,a3,rfl⟩⟩
  ·intro J ys C b4 c1 a7;have a6:ys=(ms.map λn=>(n+20).fmod 41-20).map V.int:=by
    rw[yI];exact mD (by simpa using c1) a7
   subst a6;have I:=(M.trans O).trans C;symm;refine⟨a,ns,2,rfl,o.up I,∅,?_⟩;generalize ns.getD (Int.toNat 2) 0=z;ext;refine⟨∅,by show 2<=sizeLine;decide,λb5 v=>⟨by show 4<=sizeLine;decide,λc2 d=>?_⟩⟩;have d5:=fms z 12 ∅;refine c0 c2 k p L (ms.map λn=>(n+20).fmod 41-20) (1+z.fmod 12) _ ((I.trans (Same.new v)).trans (Same.new d)) ⟨b0,b5,a8,oQ,b2.up (((O.trans C).trans (Same.new v)).trans (Same.new d)),Same.new d _ _ oQ,Same.new d _ _ (Same.new v _ _ b4)⟩ ⟨u,R.1,R.2,ok,⋯,by rw[zqe];exact a5,λy Y=>?_,⋯,⋯⟩;obtain⟨n,_,rfl⟩:=pS.mp Y;have:=fms (n+20) 41 ∅;omega
def frm(k p:Nat)(L:List Stp)(S:LI')(su:Int):Frm:=⟨k,p,chP (famD k) L.reverse,chQ (famD k) L.reverse,S,su⟩
theorem iB.frm{k p:Nat}{L:List Stp}{a:LI'}{b:Int}(h:iB k p L a b):(Cw.frm k p L a b).Ok:=⟨h.hk,h.p1,h.pm,iA (kO k) λs c=>h.ok s (oH.mp c),h.lS,h.s0⟩
def sp_h(K:Frag):Sp:=λvs H Q _=>E9 λ(b:Bool)(c q:Addr)(cs:LI')(k p:Nat)(L:List Stp)(S:LI')(su:Int)=>A6 (vs=[.ref c,.ref q]) (SqB b K H c (cs.map V.int)) (cs.length<=3) (bQ H q k p L S su) (iB k p L S su) (∀r ps ms H',Same H H'->H' r=some (.lst (ps.map V.ref))->Paired (DdAt K H') ps ms->(∀m∈ms,lC (famD k) m/\InF (frm k p L S su) (oZ m))->ms.length<=3->Q (.ref r) H')
theorem ok_h(T:Txt K mg t):FnOk P w K mg base CX0 4 t.a_h t.d_h pe' (sp_h K):=by
 have a7:=@ok_v P w K mg base t T;have b7:=@ok_7 P w K mg base t T;apply T.F_h.ok sc_h
 ·obtain⟨b,c,q,cs,k,p,L,a3,X,rfl,Z,d3,c0,ok,d0⟩:=h;obtain⟨l,I,b6,b5,c5,d1,c8⟩:=c0;have F:=gS ok.hk;have b0:=kO k;have e0:famM k<=6:=by have:=ok.hk;rcases(show k=0\/k=1\/k=2\/k=3\/k=4\/k=5 by omega) with e|e|e|e|e|e <;> subst e <;> decide
  have d9:=ok.pm;have a6:=ok.p1;refine⟨_,(oN (iD (pq 1) (lY rfl (nU (nN (i:=2) sc_h.nd rfl (Or.inl rfl)) (nU (nN (i:=3) sc_h.nd rfl (Or.inl rfl)) (nU (nN (i:=4) sc_h.nd rfl (Or.inl rfl)) (nU (nN (i:=5) sc_h.nd rfl (Or.inl rfl)) lW))))))
   (oN (oY (i:=6) sc_h.nd rfl (Or.inl rfl) (lO oM))
   (oN (lF yD rfl (nH (pq 0)) (nN (i:=7) sc_h.nd rfl (Or.inl rfl))
   (oN (iD (oS a7 hr.mo T.F_v (oK (pq 7) (oK (pq 2) (oK (pq 3) oM)))) (lY rfl (nU (nN (i:=8) sc_h.nd rfl (Or.inl rfl)) (nU (nN (i:=9) sc_h.nd rfl (Or.inl rfl)) lW))))
   (oP (kR (aE uC vV vU dX (pq 6) (oK (oS b7 hr.mo T.F_7 (oK (pq 8) (oK (pq 9) (oK (pq 3) (oK (pq 4) (oK (pq 5) oM)))))) oM))))))
   (oP (nA (pq 6)))))),?_⟩
  show tSeq _ _ _ [some (.ref c),some (.ref q),none,none,none,none,none,none,none,none] H;right;refine⟨q,_,rfl,SqT.of b5,rfl,?_⟩;simp only[nV,gNil,oU];refine⟨_,_,rfl,_,_,rfl,_,_,rfl,_,_,rfl,rfl,?_⟩;left;refine⟨by show 0<=sizeLine;decide,λr W=>?_⟩;have G:Same H (upd H r (.lst [])):=Same.new W;have a5:(upd H r (.lst [])) r=some (.lst ([]:List V)):=oQ;generalize upd H r (.lst [])=d7 at G a5;subst e1;refine st λN1 e1=>lH λB eB=>?_;simp only[iSeq];ext;refine⟨b,⟨_,Z.up G⟩,?_⟩;refine kZ (b:=b) (g:=oU 7) (tb:=B) (λi o d=>∃(ps:LA)(ms:List Dd)(U u j:Option V),o=[some (.ref c),some (.ref q),some (.int k),some (.int p),some (.ref l),some (.ref I),some (.ref r),U,u,j]/\Same H d/\d r=some (.lst (ps.map V.ref))/\Paired (λa x=>a≠r/\DdAt K d a x) ps ms/\(∀m∈ms,lC (famD k) m/\InF (frm k p L a3 X) (oZ m))/\ms.length=i) ⟨[],[],none,none,none,rfl,G,a5,.nil,(λ_ h=>by cases h),rfl⟩ (λi o d _⟨_,_,_,_,_,_,f,_⟩=>Z.up f) ?_ ?_
  ·rintro i x o d b3 ⟨ps,ms,U,u,j,rfl,f,S,v,M,g⟩;obtain⟨n,b2,rfl⟩:=mS b3;subst eB;show tSeq _ _ _ [some (.ref c),some (.ref q),some (.int k),some (.int p),some (.ref l),some (.ref I),some (.ref r),some (.int n),u,j] d;refine st λd6 c6=>?_;ext;refine⟨n,k,p,rfl,ok.hk,a6,⋯,λa8 b4 b1 R ts d8 O d4 c4 d2 J a4 b9=>?_⟩;refine⟨a8,_,rfl,SqT.of d4,rfl,?_⟩;simp only[nV,gNil,oU];refine⟨_,_,rfl,_,_,rfl,rfl,?_⟩;have C:=f.trans O;subst c6;ext;have a1:=O _ _ S;refine⟨tyL a1,?_⟩;refine⟨b4,b1,l,I,b6,R,ts,a3,p,X,L,famD k,rfl,c4,d2,c5.up C,C _ _ d1,C _ _ c8,F.sq R J,b0,a4.1,ok.lS,ok.ok,ok.l6,Fr F J,(λz a9=>by have:=b9 z a9;omega),ok.bS,⋯,⋯,ok.s0,ok.s1,λx a0 N Y c3=>?_⟩;have D:=N _ _ a1;have c1:x≠r:=λe=>by
    obtain⟨_,_,a2,_⟩:=Y;rw[e,D]at a2;cases a2
   have c7:=O.trans N;have d5:i<3:=by have:=(zqa b2).1;omega
   have c2:ps.length=ms.length:=v.length;refine⟨r,_,_,rfl,rfl,D,by rw[zqe,c2,g];exact yH (show i+1<=1000 by omega) ∅,?_⟩;have tk:TK K a0 (upd a0 r (.lst (ps.map V.ref++[.ref x]))):=TK.off D (λ_ z=>by cases z) (λ_ _ z=>by cases z) λ_ b8=>nC b8;refine⟨Same.over W (C.trans N),ps++[x],by rw[oQ,yV];rfl,ms++[_],rV (Paired.mapP v λa y z=>⟨z.1,(z.2.up c7).tk tk⟩) ⟨c1,DdAt.tk (x:=(_,_,_)) Y tk⟩,λm c9=>?_,by rw[zS,g];rfl⟩;rcases oA.mp c9 with h|h
   ·exact M m h
   ·rw[pY.mp h];exact⟨c3,R,J,ts,a4,rfl⟩
  ·rintro o d ⟨ps,ms,U,u,j,rfl,f,S,v,M,g⟩;symm;exact d0 r ps ms d f S (Paired.mapP v λ_ _ z=>z.2) M (by rw[g,zqe];exact d3)
theorem LeM.le{A B:Nat}{M:LM}(h:LeM A M)(b:A<=B):LeM B M:=λr hr z a=>yH (h r hr z a) b
theorem jQ{d:Nat}:LeM 1 (idM d):=λr hr z a=>by
 obtain⟨i,_,rfl⟩:=pS.mp hr;obtain⟨j,_,rfl⟩:=pS.mp a;split <;> decide
theorem Mz{d:Nat}(b:d=2\/d=3):∀{L:List Stp},(∀s∈L,s.Ok d)->LeM (6^L.length) (chP d L)/\LeM (6^L.length) (chQ d L)
 |[],_=>⟨jQ,jQ⟩
 | s:: L,h=>by
  obtain⟨f,g⟩:=Mz b (L:=L) λz a=>h z (zM _ a);have o:=h s zU;have c:=iA b (L:=L) λz a=>h z (zM _ a);have i:=o.m2;rw[zW,pE];have e:d*(2*6^L.length)<=6^L.length*6:=by
   have:d*(2*6^L.length)<=3*(2*6^L.length):=wE _ ⋯;omega
  refine⟨(Bx dG (Kb i ∅) f).le e,?_⟩;have:=Bx c.q g (Kb (d:=d) (i:=s.i) (j:=s.j) (m:=-s.m) (N:=2) ⋯ ∅);rw[qO (6^L.length) 2]at this;exact this.le e
theorem My{k p:Nat}{L:List Stp}{j:LI'}{f:Int}(ok:iB k p L j f){R:LM}(o:R∈pgL k):nY 40 (cjM (famD k) (chP (famD k) L.reverse) (chQ (famD k) L.reverse) R):=by
 have F:=gS ok.hk;have d:=kO k;have a:∀s∈L.reverse,s.Ok (famD k):=λs q=>ok.ok s (oH.mp q);have c:=iA d a;obtain⟨i,l⟩:=Mz d a;have b:6^L.reverse.length<=6^6:=zX ∅ (by rw[List.length_reverse];exact ok.l6);have w:LeM 1 R:=F.wee R o;have g:=Bx c.p (i.le b) w;have n:=Bx (c.p.mul (B:=R)) g (l.le b);intro r hr z m;have:=n r hr z m;have e:famD k*(famD k*(6^6*1)*6^6)<=3*(3*(6^6*1)*6^6):=vD ⋯ (wE _ (wE _ ⋯));have u:3*(3*(6^6*1)*6^6)<2^40:=∅
 omega
theorem Bq{k p:Nat}{L:List Stp}{b:LI'}{a:Int}(ok:iB k p L b a){x:Dd}(m:InF (frm k p L b a) x):lC (famD k) x/\x.2.2<=72/\(∀z∈x.2.1,0<=z/\z<72)/\oZ x=x:=by
 obtain⟨R,v,t,G,rfl⟩:=m;have F:=gS ok.hk;have n:=kO k;have r:∀s∈L.reverse,s.Ok (famD k):=λs u=>ok.ok s (oH.mp u);have c:=iA n r;have N:famM k<=6:=by have:=ok.hk;rcases(show k=0\/k=1\/k=2\/k=3\/k=4\/k=5 by omega) with e|e|e|e|e|e <;> subst e <;> decide
 have D:=ok.p1;have J:=ok.pm;have q:=ok.s0;have l:=ok.s1;have o:0<(p:Int)*a:=xF ⋯ q;have I:(p:Int)*a<=6*12:=qW ⋯ l ⋯ ⋯;have i:(cjT (famD k) (chP (famD k) L.reverse) (chQ (famD k) L.reverse) R (smul a t) (smul p b)).length=famD k:=Ej c (by rw[jY];exact ok.lS);have f:=My ok v;have j:=gP c R;show lC (famD k) (canD (cjM (famD k) (chP (famD k) L.reverse) (chQ (famD k) L.reverse) R) (cjT (famD k) (chP (famD k) L.reverse) (chQ (famD k) L.reverse) R (smul a t) (smul p b)) (p*a))/\_;show _/\(canD (cjM (famD k) (chP (famD k) L.reverse) (chQ (famD k) L.reverse) R) (cjT (famD k) (chP (famD k) L.reverse) (chQ (famD k) L.reverse) R (smul a t) (smul p b)) (p*a)).2.2<=72/\(∀z∈(canD (cjM (famD k) (chP (famD k) L.reverse) (chQ (famD k) L.reverse) R) (cjT (famD k) (chP (famD k) L.reverse) (chQ (famD k) L.reverse) R (smul a t) (smul p b)) (p*a)).2.1,0<=z/\z<72)/\oZ (canD (cjM (famD k) (chP (famD k) L.reverse) (chQ (famD k) L.reverse) R) (cjT (famD k) (chP (famD k) L.reverse) (chQ (famD k) L.reverse) R (smul a t) (smul p b)) (p*a))=canD (cjM (famD k) (chP (famD k) L.reverse) (chQ (famD k) L.reverse) R) (cjT (famD k) (chP (famD k) L.reverse) (chQ (famD k) L.reverse) R (smul a t) (smul p b)) (p*a);generalize cjT (famD k) (chP (famD k) L.reverse) (chQ (famD k) L.reverse) R (smul a t) (smul p b)=TT at i;generalize cjM (famD k) (chP (famD k) L.reverse) (chQ (famD k) L.reverse) R=C at f j;obtain⟨_,g,M⟩:=Lj (ts:=TT) o;have d:∀z∈mJ (redU (p*a) TT) (redT (p*a) TT),0<=z/\z<redU (p*a) TT:=λz d=>by
  obtain⟨y,_,rfl⟩:=pS.mp d;exact fms y _ g
 refine⟨⟨j,by show(mJ _ (redT _ TT)).length=_;unfold mJ redT;rw[zqe,zqe];exact i,g,f.le ∅,λz h=>?_,?_⟩,?_,λz h=>?_,?_⟩
 ·have:=d z h;exact zI (show z.natAbs<2^7 by omega) (zX ∅ ∅)
 ·show redU (p*a) TT<2^1500;omega
 ·show redU (p*a) TT<=72;omega
 ·have:=d z h;omega
 ·unfold canD oZ mJ;show(_,_,_)=(_,_,_);rw[yI];congr 2;refine xR λy _=>?_;exact Int.fmod_fmod _ _
section
variable {tt:TOx} {fr:List (Str×Nat)} {σ:St} {a:Addr} {H:Hp} {Q:VK}
theorem Mx{b:Bool}{l:Addr}{xs:List V}(P:Nat->List V->Hp->Prop)(j:H a=none)(e:SqB b K H l xs)(v:xs.length<=1000)(n:P 0 [] (upd H a (.lst [])))
  (hl:∀i zs c,P i zs c->zs.length<=i)(mono:∀i zs c d,P i zs c->jI a c d->P i zs d)
  (m:∀i x c zs,xs[i]?=some x->Same H c->c a=some (.lst zs)->P i zs c->∀C:Option V->Hp->Prop,
   (∀y d,Same c d->P (i+1) (zs++[y]) d->C (some y) d)->(∀d,Same c d->P (i+1) zs d->C none d)->tt (some x:: lG fr σ) c C)
  (F:∀c ys,Same H c->c a=some (.lst ys)->P xs.length ys c->Q (.ref a) c):kB (Its K b l) (oU 0) tt 1 fr σ a H Q:=by
 refine aL xs.length P j v n hl mono (λi c hi s=>Its.go (e.up s) (x:=xs[i]) (by simp[hi])) (λc s=>Its.stop (e.up s) (zE _)) ?_ F;intro i c zs hi f r p ys x q g k C D z;obtain⟨e1,u⟩:=Its.yld (e.up f) k;subst e1
 match ys,g with
 |[o],_=>exact⟨⟨[some x],rfl,rfl⟩,m i x q zs u f r p C D z⟩
end
theorem Xh{fr:List (Str×Nat)}{g:St}{a:Addr}{H:Hp}{Q:VK}{b:Bool}{l:Addr}{ns:LI'}(f:H a=none)(q:SqB b K H l (ns.map V.int))(k:ns.length<=1000)
  (o:∀c,Same H c->c a=some (.lst [])->Q (.ref a) c):kB (Its K b l) (oU 0) (jU (tNot (tB (mC sp_13 [] E0 (oV (tVar 0) tNil)))) (tVar 0)) 1 fr g a H Q:=by
 refine Mx (λ_ zs _=>zs=[]) f q (by rw[zqe];exact k) rfl (λi zs c p=>by rw[p];exact yR _) (λ_ _ _ _ r _=>r) ?_ (λc ys d e p=>o c d (by rw[e,p]));intro i x c zs j d u p C v m;obtain⟨n,y,rfl⟩:=mS j;simp only[jU];ext;exact⟨n,rfl,_,rfl,iteF (m c (Same.refl _) p)⟩
def plD(ns:LI')(u:Int):PyData:=seqD true [jV true ns,.int u]
theorem fV{u:Int}{ns:LI'}(a:0<u)(g:gl u ns=1):redT u ns=ns/\redU u ns=u:=by
 unfold redT redU;rw[Jk a g];refine⟨?_,tU u⟩
 conv=>rhs;rw[←sQ ns]
 exact xR λt _=>tU t
structure MbOk(d:Nat)(x:Dd):Prop where
 sq:Sq d x.1
 len:x.2.1.length=d
 pos:0<x.2.2
 le:x.2.2<=72
 bm:nY 40 x.1
 bt:∀z∈x.2.1,0<=z/\z<72
 low:gl x.2.2 x.2.1=1
 rest:oZ x=x
structure SpOk(d:Nat)(σ:SP'):Prop where
 len:σ.1.length=d
 bits:mO 600 σ.1
 pos:0<σ.2
 le:σ.2<2^60
 low:gl σ.2 σ.1=1
theorem Mw{k p:Nat}{L:List Stp}{c:LI'}{b:Int}(ok:iB k p L c b){x:Dd}(a:InF (frm k p L c b) x):MbOk (famD k) x:=by
 obtain⟨f,g,i,d⟩:=Bq ok a;obtain⟨M,ts,U,m,lt,o,e⟩:=bO ok.frm a;have l:gl x.2.2 x.2.1=1:=by
  rw[e];show gl (redU U ts) ((redT U ts).map λt=>t.fmod (redU U ts))=1;rw[Uh];exact Uj ⋯
 obtain⟨R,j,t,n,rfl⟩:=a;exact⟨f.sq,f.len,f.pos,g,My ok j,i,l,d⟩
theorem MbOk.fine{d:Nat}{x:Dd}(h:MbOk d x):lC d x:=⟨h.sq,h.len,h.pos,h.bm.le ∅,λz a=>by
 have:=h.bt z a;exact zI (show z.natAbs<2^7 by omega) (zX ∅ ∅),by have:=h.le;omega⟩
def mvT(σ:SP')(x:Dd):LI':=redT (x.2.2*σ.2) (movT x.1 x.2.1 x.2.2 σ.1 σ.2)
def mvU(σ:SP')(x:Dd):Int:=redU (x.2.2*σ.2) (movT x.1 x.2.1 x.2.2 σ.1 σ.2)
structure MvOk(d:Nat)(σ:SP')(x:Dd):Prop where
 len:(mvT σ x).length=d
 pos:0<mvU σ x
 le:mvU σ x<2^67
 low:gl (mvU σ x) (mvT σ x)=1
 bits:mO 700 (mvT σ x)
theorem fW{b:Type}{l:List b}{i d:Nat}(h:l.length=d)(hi:i<d):∃a,l[i]?=some a:=⟨_,zqd ⋯⟩
theorem Mv{K:Frag}{H:Hp}{ns:LI'}{xs:List V}(h:Dts K H xs (ns.map PyData.int)):xs=ns.map V.int:=by
 induction ns generalizing xs with
 |nil=>cases h;rfl
 |cons n ns b=>cases h with|cons a h=>cases a;rw[b h];rfl
theorem Mu{K:Frag}{H:Hp}:∀{M:LM}{xs:List V},Dts K H xs (M.map λr=>PyData.tuple (r.map PyData.int))->∃ps:LA,xs=ps.map V.ref/\ps.length=M.length/\∀(i:Nat) p r,ps[i]?=some p->M[i]?=some r->SqT K H p (r.map V.int)
 |[],_,.nil=>⟨[],rfl,rfl,λi p r e=>by cases e⟩
 | r:: M,_,.cons (x:=x) d f=>by
  obtain⟨ps,e,l,h⟩:=Mu f;cases d with
  |tup a b =>
   rename_i q ys;rw[Mv b]at a;refine⟨q:: ps,by rw[e];rfl,by rw[zW,zW,l],λi p s e1 c=>?_⟩;cases i with
   |zero=>cases e1;cases c;exact a
   |succ i=>exact h i p s e1 c
theorem hZ{K:Frag}{H:Hp}{p:Addr}{x:Dd}(h:Dt K H (.ref p) (dat x)):DdS K H p x:=by
 obtain⟨M,ts,u⟩:=x;have h':Dt K H (.ref p) (.tuple [.tuple (M.map λr=>.tuple (r.map PyData.int)),.tuple (ts.map PyData.int),.int u]):=h;cases h' with
 | tup a b =>
  cases b with
  | cons b1 b =>
   cases b with
   | cons b2 b =>
    cases b with
    | cons g b =>
     cases b;cases g;cases b1 with
     | tup d c =>
      cases b2 with
      |tup e1 f =>
       rw[Mv f]at e1;obtain⟨ps,rfl,l,e⟩:=Mu c;exact⟨_,_,a,⟨ps,d,l,e⟩,e1⟩
theorem DdS.dt{K:Frag}{H:Hp}{p:Addr}{x:Dd}(h:DdS K H p x):Dt K H (.ref p) (dat x):=by
 obtain⟨d,e,b,c,a⟩:=h;exact .tup b (.cons (Dt.matB c) (.cons (Dt.intsB (b:=true) a) (.cons (.int _) .nil)))
theorem Xg{a b:LI'}(h:lx a b=true):lx b a=false:=by
 cases h2:lx b a with
 |false=>rfl
 |true =>
  have:=Ib _ _ _ h h2;rw[Aq]at this;cases this
theorem Mt{j:Type}{f:j->LI'}:∀{l d:List j},(l.Pairwise λp q=>lx (f p) (f q)=true)->(d.Pairwise λp q=>lx (f p) (f q)=true)->(∀x,x∈l↔x∈d)->l=d
 |[],[],_,_,_=>rfl
 |[],b:: _,_,_,h=>absurd ((h b).mpr (.head _)) (by simp)
 |a:: _,[],_,_,h=>absurd ((h a).mp (.head _)) (by simp)
 | a:: l,b:: d,m,o,h=>by
  have g:=pW.mp m;have i:=pW.mp o;have e:a=b:=by
   rcases xE.mp ((h a).mp (.head _)) with q|q
   ·exact q
   rcases xE.mp ((h b).mpr (.head _)) with r|r
   ·exact r.symm
   have n:=i.1 a q;have k:=g.1 b r;rw[Xg n]at k;cases k
  subst e;rw[Mt (f:=f) g.2 i.2 λx=>?_];constructor
  ·intro c;rcases xE.mp ((h x).mp (.tail _ c)) with q|q
   ·subst q;have:=g.1 _ c;rw[Aq]at this;cases this
   ·exact q
  ·intro c;rcases xE.mp ((h x).mpr (.tail _ c)) with q|q
   ·subst q;have:=i.1 _ c;rw[Aq]at this;cases this
   ·exact q
theorem Mr{e:Type}{f:e->PyData}{l:List e}(g:l.Nodup)(inj:∀x∈l,∀y∈l,f x=f y->x=y)(j:∀x∈l,∀y∈l,sm (f x) (f y)=true)(h:l.Pairwise λp q=>lx (fl (f q)) (fl (f p))=false):l.Pairwise λp q=>lx (fl (f p)) (fl (f q))=true:=by
 have i:=List.Pairwise.and g h;refine List.Pairwise.imp_of_mem (λ{a b}d c h=>?_) i;cases z:lx (fl (f a)) (fl (f b)) with
 |true=>rfl
 |false=>exact absurd (inj a d b c (cQ _ _ (j a d b c) (Dr _ _ z h.2))) h.1
theorem Xf{d:Nat}{ss a:List Dd}{N:Nat}(g:∀s∈ss,s∈a)(h:(tab d a N).length<=N):∀y∈tab d ss N,y.1∈(tab d a N).map (·.1):=
 Bv (G:=λx=>x∈(tab d a N).map (·.1)) (pS.mpr ⟨_,Bu,rfl⟩) λx e s b=>by
  obtain⟨f,c,rfl⟩:=pS.mp e;exact Eb h f c s (g s b)
theorem Xe{d:Nat}(c:d=2\/d=3){ss:List Dd}{N:Nat}(h:(tab d ss N).length<=N){s:Dd}(a:s∈ss)(b:Rs d s):s∈(tab d ss N).map (·.1):=by
 have:=Eb h _ Bu s a;rw[(gT c b).1]at this;exact this
theorem Mq{d:Nat}{T ss:List Dd}(G:Grp d T)(b:∀s∈ss,s∈T){N:Nat}:∀y∈tab d ss N,y.1∈T:=Bv (G:=λx=>x∈T) G.one λx a s h=>G.mul x a s (b s h)
theorem Bp{y:Dd}:∀{srt:Tb}{n:Nat},(y∉srt.map (·.1)/\vT (numT srt n) (dat y)=none)\/(y∈srt.map (·.1)/\∃i:Int,vT (numT srt n) (dat y)=some (.int i))
 |[],_=>.inl ⟨by simp,rfl⟩
 | x:: srt,n=>by
  have e:numT (x:: srt) n=(dat x.1,V.int ((n:Nat):Int)):: numT srt (n+1):=rfl
  by_cases z:x.1=y
  ·refine .inr ⟨by rw[←z];exact .head _,n,?_⟩;rw[e,eK (by rw[z])]
  ·have c:¬ dat x.1=dat y:=λq=>z (hJ.mp q);rw[e,fL c,zK,xE];rcases Bp (y:=y) (srt:=srt) (n:=n+1) with⟨a,b⟩|⟨a,b⟩
   ·exact .inl ⟨λq=>q.elim (λq=>z q.symm) a,b⟩
   ·exact .inr ⟨.inr a,b⟩
structure GoIn(k p:Nat)(L:List Stp)(S:LI')(su:Int)(ds ms:List Dd)(srt:Tb):Prop where
 sub:∀m∈ms,m∈ds
 pm:srt.Perm (tab (famD k) (ms.map oZ) 192)
 od:srt.Pairwise λp q=>lx (fl (dat q.1)) (fl (dat p.1))=false
def sp_18(K:Frag)(t:Adr):Sp:=λvs H Q _=>E9 λ(b:Bool)(a:Addr)(ps:LA)(ds:List Dd)(k p:Nat)(L:List Stp)(S:LI')(su:Int)=>A7 (vs=[.int (famD k),.ref a]) (SqB b K H a (ps.map V.ref)) (Paired (DdAt K H) ps ds) (iB k p L S su) ((∀m∈ds,lC (famD k) m/\InF (frm k p L S su) (oZ m))) (ds.length<=199) (∀g ms srt H',Same H H'->GrpF K t H' g (famD k) ms srt->GoIn k p L S su ds ms srt->(∀m∈ds,oZ m∈srt.map (·.1))->Q (.ref g) H')
theorem bT{k p:Nat}{L:List Stp}{d:LI'}{c:Int}(ok:iB k p L d c){ds:List Dd}(f:∀m∈ds,lC (famD k) m/\InF (frm k p L d c) (oZ m)){ms:List Dd}(e:∀m∈ms,m∈ds)(hl:ms.length<=200){H:Hp}{a g j:Addr}{ps:LA}(z:H g=some (.ins t.a_3 j []))(l:H a=some (.lst (ps.map V.ref)))(v:Paired (DdS K H) ps ms){Q:VK}{E:XK}
  (r:∀srt H',(∀b o,b≠g->H b=some o->H' b=some o)->GrpF K t H' g (famD k) ms srt->GoIn k p L d c ds ms srt->Q .non H'):Kp K t [.ref g,.int (famD k),.ref a,.int 200] H Q E:=by
 have okF:=ok.frm;have n:∀s∈ms.map oZ,InF (frm k p L d c) s:=λs h=>by
  obtain⟨m,F,rfl⟩:=pS.mp h;exact(f m (e m F)).2
 have tb:=dL okF n 192;exact⟨false,famD k,a,g,j,ps,ms,InF (frm k p L d c),192,rfl,z,kO k,SqB.lst l,v,hl,λs h=>(f s (e s h)).1,λs h=>(Bq ok (f s (e s h)).2).1,λx i=>(Bq ok i).1,Bs okF,λx s i h=>Fy okF i (f s (e s h)).2,
   yH tb.1 ∅,tb.1,λy q=>(Bq ok (tb.2 y q)).1,bL,λsrt u G I C D=>r srt u G I ⟨e,C,D⟩⟩
theorem ok_18(T:Txt K mg t):FnOk P w K mg base CX0 15 t.a_18 t.d_18 ["d","deeds"] (sp_18 K t):=by
 have b4:=@ok_0 P w K mg base t T;have f3:=@ok_f P w K mg base t T;have e0:=@ok_e P w K mg base t T;apply T.F_18.ok sc_18
 ·have g5:=hr.units;obtain⟨b,a,ps,ds,k,p,L,b9,c4,rfl,b7,b3,ok,G,g6,f2⟩:=h;have d9:=kO k;have d3:ps.length=ds.length:=nX b3;refine⟨_,(oN (oY (i:=2) sc_18.nd rfl (Or.inl rfl) (dW (C:=t.a_3) (T.mk_3) b4 hr.mo rfl T.m_3 T.bd_Group___init__ (dvs:=[.int 200]) (.cons ⟨_,rfl⟩ .nil) mK (oK (pq 0) (oK (lO oM) oM))))
   (oN (lF yD rfl (nH (pq 1)) (nN (i:=3) sc_18.nd rfl (Or.inl rfl))
   (oP (nT (nL Bj (aC (C:=t.a_3) (pq 2) T.cl_3 T.me_f f3 hr.mo T.b_f .nil mK (oK (pq 3) oM)) dP (nJ _))
   (oP (oY (i:=2) sc_18.nd rfl (Or.inl rfl) (dW (C:=t.a_3) (T.mk_3) b4 hr.mo rfl T.m_3 T.bd_Group___init__ (dvs:=[.int 200]) (.cons ⟨_,rfl⟩ .nil) mK (oK (pq 0) (oK (oR dY (kA (C:=t.a_3) (pq 2) T.cl_3 T.me_e e0 hr.mo T.b_e .nil mK) (lO (oK (pq 3) oM))) oM)))))
   nS)))
   (oP (nA (pq 2))))),?_⟩
  show tSeq _ _ _ [some (.int (famD k)),some (.ref a),none,none] H;right;simp only[eF];ext;refine⟨by show 0<=sizeLine;decide,λM c0=>?_⟩;have a5:Same H (upd H M (.lst [])):=Same.new c0;have c8:(upd H M (.lst [])) M=some (.lst (([]:LA).map V.ref)):=oQ;generalize upd H M (.lst [])=b8 at a5 c8;intro g a9 a1 f1 f8;have c6:Same b8 (upd (upd b8 a9 (.own g)) g (.ins t.a_3 a9 [])):=(Same.new f1).trans (Same.new (by rw[nC (yA f8)];exact a1));refine bT ok G (ms:=[]) (λm d=>by cases d) ∅ oQ (c6 _ _ c8) .nil λsrt g3 d1 g0 d5=>⟨rfl,?_⟩;have b1:Same H g3:=λb o e=>d1 b o (λz=>by rw[z]at e;rw[a5 _ _ e]at a1;cases a1) (c6 _ _ (a5 _ _ e));subst e1;refine st λN1 e1=>lH λB eB=>?_;simp only[iSeq];ext;refine⟨b,⟨_,b7.up b1⟩,?_⟩;refine kZ (b:=b) (g:=oU 3) (tb:=B) (λi J H'=>∃(g:Addr)(ms:List Dd)(srt:Tb)(v3:Option V),J=[some (.int (famD k)),some (.ref a),some (.ref g),v3]/\Same H H'/\GrpF K t H' g (famD k) ms srt/\GoIn k p L b9 c4 ds ms srt/\ms.length<=i/\∀(j:Nat) m,j<i->ds[j]?=some m->oZ m∈srt.map (·.1)) ⟨g,[],srt,none,rfl,b1,g0,d5,zE _,λj m f=>absurd f (tN j)⟩ (λi J H' _⟨_,_,_,_,_,s,_⟩=>b7.up s) ?_ ?_
  ·rintro i y J Y d2 ⟨g,ms,srt,v3,rfl,I,u,r,b0,N⟩;obtain⟨q,f9,rfl⟩:=mY d2;obtain⟨x,C,b6⟩:=mZ b3 f9;have b2:=zqb C;obtain⟨a4,e8⟩:=G x b2;have hi:i<ds.length:=(zqa C).1;subst eB;show tIfS _ _ _ _ [some (.int (famD k)),some (.ref a),some (.ref g),some (.ref q)] Y;ext;simp only[mU];ext;obtain⟨e7,e3,lo,f5,f7,a3,_⟩:=id u;refine⟨e7,_,a3,rfl,g,q,famD k,ms,srt,x,rfl,u,mX.s (b6.up I),by rw[a4.sq.1];omega,by rw[a4.len];omega,a4.pos,λg4 c1=>?_⟩
   try ext
   have D:=I.trans c1;have W:=u.up c1;rcases Bp (y:=oZ x) (srt:=srt) (n:=0) with⟨b5,a2⟩|⟨b5,n,a2⟩
   case inr =>
    rw[a2]
    try ext
    rw[zN (by simp)];refine iteF ⟨D,ms,srt,W,r,⋯,λj m f c=>?_⟩
    by_cases U:j=i
    ·subst U;rw[C]at c;cases c;exact b5
    ·exact N j m ⋯ c
   rw[a2]
   try ext
   rw[zL (show(none:Option V).getD V.non=V.non from rfl)];refine iteT ?_;simp only[eF];ext;simp only[mU];ext;obtain⟨d8,e3,lo,f5,f7,a3,_⟩:=id W;refine⟨d8,_,a3,rfl,g,famD k,ms,srt,rfl,W,λl gs v g1 c0 hl c2=>?_⟩;have g7:gs.length=ms.length:=nX c2;refine⟨by show 1<=sizeLine;decide,λl1 d6=>?_⟩;have R:Same v (upd v l1 (.lst [.ref q])):=Same.new d6;have c9:(upd v l1 (.lst [.ref q])) l1=some (.lst [.ref q]):=oQ;generalize upd v l1 (.lst [.ref q])=F at R c9;refine⟨l,l1,_,_,rfl,rfl,R _ _ hl,c9,by rw[zqe];exact yH (show gs.length+1<=1000 by omega) ∅,λl2 f4=>?_⟩;have a6:Same F (upd F l2 (.lst (gs.map V.ref++[.ref q]))):=Same.new f4;have c7:(upd F l2 (.lst (gs.map V.ref++[.ref q]))) l2=some (.lst ((gs++[q]).map V.ref)):=by rw[oQ,yV];rfl
   generalize upd F l2 (.lst (gs.map V.ref++[.ref q]))=c5 at a6 c7;intro a8 d0 a0 f0 f6;have O:Same c5 (upd (upd c5 d0 (.own a8)) a8 (.ins t.a_3 d0 [])):=(Same.new f0).trans (Same.new (by rw[nC (yA f6)];exact a0));have d7:=(R.trans a6).trans O;have Z:=(g1.trans R).trans a6;refine bT ok G (ms:=ms++[x]) (λm d=>?_) (by rw[zS];show ms.length+1<=200;omega) oQ (O _ _ c7) (rV (Paired.mapP c2 λ_ _ z=>DdS.up z d7) (((DdAt.s b6).up D).up (Z.trans O))) λa7 e6 d4 e5 X=>⟨rfl,?_⟩
   ·rcases oA.mp d with h|h
    ·exact r.sub m h
    ·rw[pY.mp h];exact b2
   have e4:Same H e6:=λb o e=>d4 b o (λz=>by rw[z]at e;rw[Z _ _ (D _ _ e)]at a0;cases a0) (O _ _ (Z _ _ (D _ _ e)));have okF:=ok.frm;have e2:∀s∈(ms++[x]).map oZ,InF (frm k p L b9 c4) s:=λs h=>by
    obtain⟨m,d,rfl⟩:=pS.mp h;exact(G m (X.sub m d)).2
   have tb:=dL okF e2 192;have c3:∀y,y∈(tab (famD k) ((ms++[x]).map oZ) 192).map (·.1)->y∈a7.map (·.1):=λy S=>(X.pm.map (·.1)).mem_iff.mpr S;refine⟨e4,ms++[x],a7,e5,X,by rw[zS];exact Nat.succ_le_succ b0,λj m f c=>?_⟩
   by_cases U:j=i
   ·subst U;rw[C]at c;cases c;exact c3 _ (Xe d9 tb.1 (pS.mpr ⟨x,yK _ (.head _),rfl⟩) (bO okF e8))
   ·have g2:=N j m ⋯ c;have e9:=(r.pm.map (·.1)).mem_iff.mp g2;obtain⟨y,S,e⟩:=pS.mp e9;rw[←e];exact c3 _ (Xf (λs h=>by rw[yV];exact xN _ h) tb.1 y S)
  ·rintro J Y ⟨g,ms,srt,v3,rfl,I,u,r,b0,N⟩;symm;refine f2 g ms srt Y I u r λm d=>?_;obtain⟨j,f⟩:=yX d;exact N j m (by rw[zqe,d3];exact(zqa f).1) f
structure ChI(K:Frag)(H:Hp)(v:Addr)(d:Nat):Prop where
 ex:∃qs:LA,SqT K H v (qs.map V.ref)/\qs.length=d/\∀(i:Nat) q,qs[i]?=some q->nP H q ((idM d).getD i []) 1
theorem ChI.up{H H':Hp}{v:Addr}{d:Nat}(h:ChI K H v d)(s:Same H H'):ChI K H' v d:=by
 obtain⟨a,c,f,b⟩:=h;exact⟨a,mL s _ _ c,f,λi q e=>(b i q e).upS s⟩
def WyI(K:Frag)(H:Hp)(p:Addr)(d:Nat):Prop:=∃v s,H p=some (.tup [.ref v,.ref s])/\ChI K H v d/\nP H s (List.replicate d 0) 1
theorem WyI.up{H H':Hp}{p:Addr}{d:Nat}(h:WyI K H p d)(s:Same H H'):WyI K H' p d:=by
 obtain⟨v,q,b,c,a⟩:=h;exact⟨v,q,s _ _ b,c.up s,a.upS s⟩
def sp_c(K:Frag):Sp:=λvs H Q _=>E2 λ(p:Addr)(d:Nat)=>A3 (vs=[.int d,.ref p]) (WyI K H p d) (Q .non H)
theorem ok_c(T:Txt K mg t):FnOk P w K mg base CX0 1 t.a_c t.d_c pF' (sp_c K):=by
 apply T.F_c.ok sc_c
 ·obtain⟨p,d,rfl,⟨v,q,b,⟨g,e,a,f⟩,i⟩,c⟩:=h;refine⟨_,(oP (nT (nL kS (nQ T.z_len (oT (pq 1))) (pq 0) (nJ _))
   (oP jL)
   nS)),?_⟩
  show tIfS _ _ _ _ [some (.int d),some (.ref p)] H;ext;refine⟨true,p,_,_,_,rfl,rfl,SqB.tup b,rfl,true,v,_,rfl,(e:SqB true K H v _),?_⟩
  try ext
  rw[zqe,a];rw[zL rfl];exact iteF c
theorem Fq{d:Nat}(a:d=2\/d=3):detM d (idM d)=1:=by rcases a with rfl|rfl <;> decide +kernel
def sp_1n(K:Frag):Sp:=λvs H Q _=>E3 λ(n d:Nat)(v:Addr)=>A5 (vs=[.int n,.ref v]) (ChI K H v d) ((d=2\/d=3)) (n<=200) (∀H',Same H H'->Q (.int n) H')
theorem ok_1n(T:Txt K mg t):FnOk P w K mg base CX0 6 t.a_1n t.d_1n pv' (sp_1n K):=by
 apply T.F_1n.ok sc_1n
 ·obtain⟨n,d,v,rfl,U,W,b2,a8⟩:=h;have a2:FnOk P w K mg base CX0 (d+1) t.a_2 t.d_2 pK' (sp_2 K d):=ok_2 T d;obtain⟨a1,O,C,F⟩:=id U;have f:SqB true K H v (a1.map V.ref):=O;refine⟨_,(oN (oY (i:=2) sc_1n.nd rfl (Or.inl rfl) (oR mF (pq 0) (mV eA rfl T.z_abs (nofun) (oK (oS a2 hr.mo T.F_2 (oK (nR (sc:=oO s_1n) (N:=N_1n) (fr:=[]) (te:=(tOp (rIxB K) (tVar 0) (tC (.int 0)))) rfl rfl (nofun) rfl (nofun) (nH (pq 1)) (λ_ _ _ b0=>(oT (pv 0)))) oM)) oM))))
   (oN (oY (i:=3) sc_1n.nd rfl (Or.inl rfl) oW)
   (oN (lF yD rfl (nH (pq 1)) (nN (i:=4) sc_1n.nd rfl (Or.inl rfl))
   (oP (oY (i:=3) sc_1n.nd rfl (Or.inl rfl) (oR mF (pq 3) (oT (pq 4))))))
   (oP (nA (oR kG (pq 2) (pq 3))))))),?_⟩
  show tSeq _ _ _ [some (.int n),some (.ref v),none,none,none] H;right;exfalso;refine⟨true,⟨_,f⟩,λR M=>?_⟩;refine nO (λj y _=>∃q,y=V.ref q/\SqT K H q (((idM d).getD j []).map V.int)) M f (by rw[zqe];omega) (λ_ _ _ _ h _=>h) ?_ ?_
  ·intro j y o zs k c b3 a4 Y;obtain⟨q,m,rfl⟩:=mY k;subst eB;show tOp _ _ _ [some (.ref q)] o a4;ext;obtain⟨z,u,J⟩:=F j q m;exact⟨true,q,_,_,_,rfl,rfl,SqB.tup (c _ _ u),rfl,Y _ _ (Same.refl _) ⟨z,rfl,SqT.of J⟩⟩
  ·intro o ys c a0 x a3;have a9:∃ps:LA,ys=ps.map V.ref/\Paired (λq r=>SqT K H q (r.map V.int)) ps (idM d):=iR (by rw[x,zqe,C,nM.1]) λj y D=>by
    obtain⟨q,Z,I⟩:=a3 j y D;have a7:j<(idM d).length:=by rw[nM.1,←C,←zqe (f:=V.ref),←x];exact(zqa D).1
    obtain⟨r,a⟩:=fW rfl a7;exact⟨q,r,Z,a,by rw[zqc,a]at I;exact I⟩
   obtain⟨ps,rfl,G⟩:=a9;have a5:MatB false true K o R (idM d):=⟨ps,SqB.lst a0,nX G,λi q r a6 N=>by
    obtain⟨b1,a,z⟩:=mZ G a6;rw[N]at a;cases a;exact mL c _ _ z⟩
   refine Ad ⋯ ⋯ a5 nM (B:=2) (λr hr z S=>yZ (jQ r hr z S) ∅) ∅ λb4 X=>?_;rw[Fq W];refine⟨1,rfl,yC (nK (show((n:Nat):Int).natAbs<2^8 by omega)) (nK (show(if(1:Int)<0 then -1 else(1:Int)).natAbs<2^1 by decide)) ∅,?_⟩;have L:=c.trans X;left;subst e1;refine st λN1 e1=>lH λB eB=>?_;simp only[iSeq];ext;refine⟨true,⟨_,f.up L⟩,?_⟩;refine kZ (b:=true) (g:=oU 4) (tb:=B) (λi g H'=>∃l:Option V,g=[some (.int n),some (.ref v),some (.int (n*(if(1:Int)<0 then -1 else 1))),some (.int 1),l]/\Same H H') ⟨none,rfl,L⟩ (λi g H' _⟨_,_,s⟩=>f.up s) ?_ ?_
   ·rintro i y g p k ⟨l,rfl,b⟩;obtain⟨q,m,rfl⟩:=mY k;obtain⟨z,u,J⟩:=F i q m;subst eB;show tAsg _ _ _ [some (.int n),some (.ref v),some (.int (n*(if(1:Int)<0 then -1 else 1))),some (.int 1),some (.ref q)] p;ext;refine⟨true,q,_,_,_,rfl,rfl,SqB.tup (b _ _ u),rfl,?_⟩
    try ext
    exact⟨yC (nK (show(1:Int).natAbs<2^1 by decide)) (nK (show(1:Int).natAbs<2^1 by decide)) ∅,∅,b⟩
   ·rintro g p ⟨l,rfl,b⟩;symm;refine⟨⟨∅,∅⟩,?_⟩;have e:((n:Int)*(if(1:Int)<0 then -1 else 1)).fdiv 1=n:=by rw[tU];simp
    rw[e];exact a8 p b
def sp_17(K:Frag):Sp:=λvs H Q _=>E2 λ(a:Addr)(n:Nat)=>A3 (vs=[.ref a]) (H a=some (.lst ((List.replicate n (1:Int)).map V.int))) (Q (.int 1) H)
theorem ok_17(T:Txt K mg t):FnOk P w K mg base CX0 2 t.a_17 t.d_17 ["numbers"] (sp_17 K):=by
 have k:=@ok_15 P w K mg base t T;apply T.F_17.ok sc_17
 ·obtain⟨a,n,rfl,c,j⟩:=h;refine⟨_,(oN (oY (i:=1) sc_17.nd rfl (Or.inl rfl) oW)
   (oN (lF yD rfl (nH (pq 0)) (nN (i:=2) sc_17.nd rfl (Or.inl rfl))
   (oP (oY (i:=1) sc_17.nd rfl (Or.inl rfl) (oR mF (oR kG (pq 1) (oS k hr.mo T.F_15 (oK (pq 1) (oK (pq 2) oM)))) (mV eA rfl T.z_abs (nofun) (oK (pq 2) oM))))))
   (oP (nA (pq 1))))),?_⟩
  show tSeq _ _ _ [some (.ref a),none,none] H;right;subst e1;refine st λN1 e1=>lH λB eB=>?_;simp only[iSeq];ext;refine⟨false,⟨_,SqB.lst c⟩,?_⟩;refine kZ (b:=false) (g:=oU 2) (tb:=B) (λi b H'=>∃v2:Option V,b=[some (.ref a),some (.int 1),v2]/\H'=H) ⟨none,rfl,rfl⟩ (λi b H' _⟨_,_,s⟩=>by rw[s];exact SqB.lst c) ?_ ?_
  ·rintro i y b d f ⟨v2,rfl,rfl⟩;obtain⟨g,l,rfl⟩:=mS f;have e:g=1:=wG (zqb l);subst e;subst eB;show tAsg _ _ _ [some (.ref a),some (.int 1),some (.int 1)] d;ext;refine⟨1,1,rfl,?_⟩;rw[show gcdI 1 1=1 by decide];refine⟨_,_,rfl,rfl,⟨∅,∅⟩,_,_,rfl,rfl,?_,?_,rfl⟩
   ·exact yC (nK (show((1:Int).fdiv 1).natAbs<2^1 by decide)) (nK (show(if(1:Int)<0 then -1 else(1:Int)).natAbs<2^1 by decide)) ∅
   ·rfl
  ·rintro b d ⟨v2,rfl,rfl⟩;symm;exact j
def TbI(H:Hp)(p:Addr)(d:Nat):Prop:=∃a,H p=some (.tup [.ref a,.int 1])/\MatL H a (idM d)
theorem TbI.up{H H':Hp}{p:Addr}{d:Nat}(h:TbI H p d)(s:Same H H'):TbI H' p d:=let ⟨a,b,c⟩:=h;⟨a,s _ _ b,c.up s⟩
def sp_1k(K:Frag):Sp:=λvs H Q _=>E2 λ(p:Addr)(d:Nat)=>A4 (vs=[.ref p]) (WyI K H p d) ((d=2\/d=3)) (∀r H',Same H H'->TbI H' r d->Q (.ref r) H')
theorem Xd{d:Nat}(a:d=2\/d=3):gH d (idM d)=idM d:=by rcases a with rfl|rfl <;> decide +kernel
theorem ok_1k(T:Txt K mg t):FnOk P w K mg base CX0 3 t.a_1k t.d_1k pM' (sp_1k K):=by
 have b4:=@ok_17 P w K mg base t T;have b0:=@ok_1g P w K mg base t T;apply T.F_1k.ok sc_1k
 ·obtain⟨p,d,rfl,⟨v,c7,N,⟨b6,D,l,Y⟩,c8⟩,b1,c4⟩:=h;have x:∀{H'},Same H H'->SqB true K H' v (b6.map V.ref):=λs=>mL s _ _ D;refine⟨_,(oN (oY (i:=1) sc_1k.nd rfl (Or.inr rfl) (oS b4 hr.mo T.F_17 (oK (nR (sc:=oO s_1k) (N:=N_1k) (fr:=[]) (te:=(tOp (rIxB K) (tVar 0) (tC (.int 1)))) rfl rfl (nofun) rfl (nofun) (nH (oT (pq 0))) (λ_ _ _ u=>(oT (pv 0)))) oM)))
   (oN (fH (i:=2) (xs:=["vector"]) (fr:=[("under",1)]) (g:=(oU 0)) (tt:=(tEl (nW (iSeq K (tOp (rIxB K) (tVar 0) (tC (.int 0)))) (oU 0) (tEl (tOp (rI (λi j=>IntMulOk i j) λi j=>.int (i*j)) (tVar 0) (tOp (rI jH λi j=>.int (i.fdiv j)) (tVar 2) (tOp (rIxB K) (tVar 1) (tC (.int 1)))))) 1 [("vector",0),("under",1)]))) (lD (sc:=oO s_1k) (N:=N_1k) rfl rfl (nofun)) rfl sc_1k.nd rfl rfl (nH (oT (pq 0))) (λ_ _ _ u=>(jO (N:=["vector","under"]) (i:=0) u rfl (nofun) rfl)) (λ_ _ _ u=>(lP (nR (N:=["vector","under"]) (fr:=[("vector",0),("under",1)]) (te:=(tOp (rI (λi j=>IntMulOk i j) λi j=>.int (i*j)) (tVar 0) (tOp (rI jH λi j=>.int (i.fdiv j)) (tVar 2) (tOp (rIxB K) (tVar 1) (tC (.int 1)))))) u rfl (nofun) rfl (nofun) (nH (oT (pv 0))) (λ_ _ _ d1=>(oR mF (pv 0) (oR kG (pv 2) (oT (pv 1)))))))))
   (oP (nA (mG (oK (oS b0 hr.mo T.F_1g (oK (pq 2) oM)) (oK (pq 1) oM))))))),?_⟩
  show tSeq _ _ _ [some (.ref p),none,none] H;right;exfalso;refine⟨true,p,_,_,_,rfl,rfl,SqB.tup N,rfl,true,v,rfl,⟨_,x (Same.refl _)⟩,λa7 a5=>?_⟩;refine nO (λj y _=>y=V.int 1) a5 (x (Same.refl _)) (by rw[zqe];omega) (λ_ _ _ _ h _=>h) ?_ ?_
  ·intro j y Z zs g a a1 L G;obtain⟨q,m,rfl⟩:=mY g;obtain⟨z,C,M⟩:=Y j q m;subst eB;show tOp _ _ _ [some (.ref q)] Z L;ext;exact⟨true,q,_,_,_,rfl,rfl,SqB.tup (a _ _ C),rfl,G _ _ (Same.refl _) rfl⟩
  ·intro Z ys a b5 S b8;have g:ys=(List.replicate d (1:Int)).map V.int:=by
    refine mD (by rw[S,zqe,l,xH]) λj y W=>⟨1,?_,b8 j y W⟩;rw[sH,zG (by rw[←l,←zqe (f:=V.ref),←S];exact(zqa W).1)]
   subst g;refine⟨a7,d,rfl,b5,?_⟩;left;exfalso;refine⟨true,p,_,_,_,rfl,rfl,SqB.tup (a _ _ N),rfl,true,v,rfl,⟨_,x a⟩,λJ c6=>?_⟩;refine nO (RowR J λj=>(idM d).getD j []) c6 (x a) (by rw[zqe];omega) (RowR.mono (a:=J)) ?_ ?_
   ·intro j y a3 zs g I a1 L G;obtain⟨q,m,rfl⟩:=mY g;obtain⟨z,C,M⟩:=Y j q m;have b:=a.trans I;subst eB;show nW _ _ _ _ _ [some (.ref q),some (.int 1)] a3 L;exfalso;refine⟨true,q,_,_,_,rfl,rfl,SqB.tup (b _ _ C),rfl,true,z,rfl,⟨_,SqB.tup (b _ _ M)⟩,λc1 U=>?_⟩;refine nO (λk y _=>∃n,((idM d).getD j [])[k]?=some n/\y=.int n) U (SqB.tup (b _ _ M)) (by
     rw[zqe];have o:j<(idM d).length:=by rw[nM.1,←l];exact(zqa m).1
     rw[nM.2 _ (by rw[zqc,zqd o];exact xD o)];omega) (λ_ _ _ _ r _=>r) ?_ ?_
    ·intro k y O c9 F f d2 c3 c2;obtain⟨n,X,rfl⟩:=mS F;have b2:n.natAbs<2^1:=by
      have o:j<(idM d).length:=by rw[nM.1,←l];exact(zqa m).1
      have:=jQ ((idM d).getD j []) (by rw[zqc,zqd o];exact xD o) n (zqb X);omega
     subst eB;show tOp _ _ _ [some (.int n),some (.ref q),some (.int 1)] O c3;ext;refine⟨true,q,_,_,_,rfl,rfl,SqB.tup ((b.trans f) _ _ C),rfl,_,_,rfl,rfl,⟨∅,∅⟩,_,_,rfl,rfl,?_,?_⟩
     ·exact yC (nK b2) (nK (show((1:Int).fdiv 1).natAbs<2^1 by decide)) ∅
     ·refine c2 _ _ (Same.refl _) ⟨n,X,?_⟩;show V.int (n*(1:Int).fdiv 1)=V.int n;rw[show(1:Int).fdiv 1=1 by decide,uK]
    ·intro O b3 f a6 c0 a8;have F:b3=((idM d).getD j []).map V.int:=mD (by rw[c0,zqe]) a8;subst F;exact G _ _ f ⟨c1,rfl,yA (mE a1 U),a6⟩
   ·intro a3 ys I b9 c5 a9;have a2:=MatL.of b9 a9;have e:(List.range ys.length).map (λj=>(idM d).getD j [])=idM d:=by
     rw[c5,zqe,l];refine xP (by rw[zqe,vO,nM.1]) λi N D=>?_;rw[wH,uF,zqc,zqd D];rfl
    rw[e]at a2;have b:=a.trans I;symm;have b7:idM d≠[]:=λz=>by have:=(nM (d:=d)).1;rw[z]at this;simp at this;omega
    refine⟨false,false,J,idM d,d,rfl,a2.b,b7,nM.2,⋯,by rw[nM.1];omega,λc O d0 f R=>?_⟩;rw[Xd b1]at R;refine⟨(by show 2<=sizeLine;decide),λa4 a0=>c4 a4 _ ((b.trans f).trans (Same.new a0)) ⟨c,oQ,R.up (Same.new a0)⟩⟩
def cofM(d:Nat)(rows:LM)(i k:Nat):Int:=sg (i+k)*detM d (jX i k rows)
def crsM(n:Nat)(rows:LM):LM:=(List.range n).map λi=>(List.range n).map λk=>cofM (n-1) rows k i
def sp_16(K:Frag):Sp:=λvs H Q _=>E7 λ(b1 b2:Bool)(a:Addr)(rows:LM)(i k n:Nat)=>A9 (vs=[.ref a,.int i,.int k]) (MatB b1 b2 K H a rows) (Sq (n+1) rows) (i<n+1) (k<n+1) (1<=n) (n<=3) (nY 1800 rows) (∀H',Same H H'->Q (.int (cofM n rows i k)) H')
def sp_1l(K:Frag):Sp:=λvs H Q _=>E5 λ(b1 b2:Bool)(a:Addr)(rows:LM)(c:Int)=>A6 (vs=[.ref a,.int c]) (MatB b1 b2 K H a rows) (rows.length<1000) ((∀r∈rows,r.length<1000)) ((∀r∈rows,∀x∈r,IntMulOk c x)) (∀q H',H q=none->Same H H'->MatL H' q (rows.map λr=>r.map (c*·))->Q (.ref q) H')
def sp_1h(K:Frag):Sp:=λvs H Q _=>E5 λ(b1 b2:Bool)(a:Addr)(rows:LM)(n:Nat)=>A7 (vs=[.ref a]) (MatB b1 b2 K H a rows) (Sq n rows) (2<=n) (n<=4) (nY 1800 rows) (∀r H',H r=none->Same H H'->MatL H' r (crsM n rows)->Q (.ref r) H')
theorem ok_16(T:Txt K mg t):FnOk P w K mg base CX0 5 t.a_16 t.d_16 px' (sp_16 K):=by
 have j:=@ok_1e P w K mg base t T;apply T.F_16.ok sc_16
 ·obtain⟨b1,b2,a,f,i,k,n,rfl,o,c,hi,d,y,D,e,g⟩:=h;have p:FnOk P w K mg base CX0 (n+1) t.a_2 t.d_2 pK' (sp_2 K n):=ok_2 T n;refine⟨_,(oN (oY (i:=3) sc_16.nd rfl (Or.inl rfl) (Fh (nL jM (oR lA (oR lK (pq 1) (pq 2)) oW) oW (nJ _)) oW (fA fC oW)))
   (oP (nA (oR mF (pq 3) (oS p hr.mo T.F_2 (oK (oS j hr.mo T.F_1e (oK (pq 0) (oK (pq 1) (oK (pq 2) oM)))) oM)))))),?_⟩
  show tSeq _ _ _ [some (.ref a),some (.int i),some (.int k),none] H;obtain⟨m,rfl⟩:∃m,n=m+1:=⟨n-1,⋯⟩;refine st λN1 e1=>?_;have b:N1 [some (.ref a),some (.int i),some (.int k),some (.int (sg (i+k)))] H:=by
   symm;refine⟨b1,b2,a,f,i,k,_,rfl,o,c.2,d,⋯,by rw[c.1];omega,λr C _ l q=>?_⟩;refine⟨false,false,r,_,1800,rfl,q.b,c.minor hi d,⋯,e.minor,∅,λx v=>?_⟩;ext;exact⟨vZ (by unfold sg;split <;> decide),g x (l.trans v)⟩
  ext;refine⟨∅,?_⟩;have u:((i:Int)+k).fmod 2=((i+k)%2:Nat):=by
   rw[xV _ ∅];omega
  rw[u];unfold sg at b
  by_cases z:(i+k)%2=0
  ·rw[zG z]at b;rw[zL (show(((i+k)%2:Nat):Int)=0 by omega)];exact iteT b
  ·rw[zF z]at b;rw[zN (show¬ (((i+k)%2:Nat):Int)=0 by omega)];exact iteF b
theorem ok_1l(T:Txt K mg t):FnOk P w K mg base CX0 1 t.a_1l t.d_1l py' (sp_1l K):=by
 apply T.F_1l.ok sc_1l
 ·obtain⟨b1,b2,a,b,c,rfl,Z,hl,R,S,a1⟩:=h;refine⟨_,(oP (nA (nR (sc:=oO s_1l) (N:=N_1l) (fr:=[("count",1)]) (te:=(nW (iSeq K (tVar 0)) (oU 0) (tEl (tOp (rI (λi j=>IntMulOk i j) λi j=>.int (i*j)) (tVar 1) (tVar 0))) 1 [("count",1)])) rfl rfl (nofun) rfl (nofun) (nH (pq 0)) (λ_ _ _ G=>(nR (N:=["row","count"]) (fr:=[("count",1)]) (te:=(tOp (rI (λi j=>IntMulOk i j) λi j=>.int (i*j)) (tVar 1) (tVar 0))) G rfl (nofun) rfl (nofun) (nH (pv 0)) (λ_ _ _ a8=>(oR mF (pv 1) (pv 0)))))))),?_⟩;show tRet _ _ [some (.ref a),some (.int c)] H;ext;exfalso;obtain⟨xs,v,a2,a5⟩:=Z.walk;refine⟨b1,⟨_,v⟩,λk q=>?_⟩;refine nO (RowR k λj=>(b.getD j []).map (c*·)) q v ⋯ (RowR.mono (a:=k)) ?_ ?_
  ·intro i x n zs N d a3 X M;obtain⟨p,r,rfl,C,z⟩:=a5 i x N;have o:=zqb C;subst eB;show nW _ _ _ _ _ [some (.ref p),some (.int c)] n X;exfalso;refine⟨b2,⟨_,z.up d⟩,λW D=>?_⟩;refine nO (λj y _=>∃m,r[j]?=some m/\y=.int (c*m)) D (z.up d) (by have:=R r o;rw[zqe];omega) (λ_ _ _ _ r _=>r) ?_ ?_
   ·intro j x F a6 a4 u a7 J Y;obtain⟨m,f,rfl⟩:=mS a4;subst eB;show tOp _ _ _ [some (.int m),some (.int c)] F J;ext;exact⟨S r o m (zqb f),Y _ _ (Same.refl _) ⟨m,f,rfl⟩⟩
   ·intro F ys u a0 l L;have O:ys=(r.map (c*·)).map V.int:=by
     refine mD (by simp at l ⊢;omega) λj y e=>?_;obtain⟨m,f,rfl⟩:=L j y e;exact⟨c*m,by rw[zD,f];rfl,rfl⟩
    subst O;refine M _ _ u ⟨W,rfl,yA (mE a3 D),?_⟩;show _=some (HO.lst (((b.getD i []).map (c*·)).map V.int));rw[a0,zqc,C];rfl
  ·intro n ys d e1 l U;have g:=MatL.of e1 U;rw[l,a2]at g;have I:((List.range b.length).map λj=>(b.getD j []).map (c*·))=b.map λr=>r.map (c*·):=by
    refine qJ λi=>?_;rw[zD,zD]
    by_cases hi:i<b.length
    ·rw[yP hi,zqd hi];simp[zqc,hi]
    ·rw[vG (by simp;omega),vG ⋯];rfl
   rw[I]at g;exact a1 k n q d g
theorem ok_1h(T:Txt K mg t):FnOk P w K mg base CX0 6 t.a_1h t.d_1h pK' (sp_1h K):=by
 have X:=@ok_16 P w K mg base t T;apply T.F_1h.ok sc_1h
 ·obtain⟨b1,b2,a,b,n,rfl,x,v,a1,a5,O,Z⟩:=h;refine⟨_,(oN (oY (i:=1) sc_1h.nd rfl (Or.inr rfl) (nQ T.z_len (pq 0)))
   (oP (nA (kU (xs:=["i"]) (fr:=[("rows",0),("size",1)]) (g:=(oU 0)) (tt:=(tEl (nW (mH (oV (tVar 2) tNil)) (oU 0) (tEl (mC (sp_16 K) [] E0 (oV (tVar 2) (oV (tVar 0) (oV (tVar 1) tNil))))) 1 [("i",0),("rows",1)]))) (lD (sc:=oO s_1h) (N:=N_1h) rfl rfl (nofun)) rfl (lJ rfl T.z_range (oK (pq 1) oM)) (λ_ _ _ c=>(jO (N:=["i","rows","size"]) (i:=0) c rfl (nofun) rfl)) (λ_ _ _ c=>(lP (nR (N:=["i","rows","size"]) (fr:=[("i",0),("rows",1)]) (te:=(mC (sp_16 K) [] E0 (oV (tVar 2) (oV (tVar 0) (oV (tVar 1) tNil))))) c rfl (nofun) rfl (nofun) (lJ rfl T.z_range (oK (pv 2) oM)) (λ_ _ _ a3=>(oS X hr.mo T.F_16 (oK (pv 2) (oK (pv 0) (oK (pv 1) oM)))))))))))),?_⟩
  show tSeq _ _ _ [some (.ref a),none] H;obtain⟨m,rfl⟩:∃m,n=m+1:=⟨n-1,⋯⟩;right;refine iH x ?_;rw[v.1];symm;refine nF λB eB=>?_;simp only[mH];ext;refine⟨⋯,⋯,λf p=>?_⟩;rw[zV];refine kC (RowR f λi=>(List.range (m+1)).map λk=>cofM m b k i) p ⋯ (RowR.mono (a:=f)) ?_ ?_
  ·intro i o zs hi g a0 R J;subst eB;show nW _ _ _ _ _ [some (.int (0+(i:Int))),some (.ref a),some (.int ((m+1:Nat):Int))] o R;refine nF λB eB=>?_;simp only[mH];ext;refine⟨⋯,⋯,λN C=>?_⟩;rw[zV];refine kC (λk y _=>k<m+1/\y=.int (cofM m b k i)) C ⋯ (λ_ _ _ _ r _=>r) ?_ ?_
   ·intro k z a2 u d a4 F S;subst eB;have M:=g.trans d;show mC _ _ _ _ [some (.int (0+(k:Int))),some (.int (0+(i:Int))),some (.ref a)] z F;ext;refine⟨b1,b2,a,b,k,i,m,by rw[rC,rC],x.up M,v,u,hi,⋯,⋯,O,λa6 U=>?_⟩;exact S _ _ U ⟨u,rfl⟩
   ·intro z ys d D l G;have L:ys=((List.range (m+1)).map λk=>cofM m b k i).map V.int:=by
     refine mD (by simpa using l) λj y e=>?_;obtain⟨Y,rfl⟩:=G j y e;exact⟨_,by rw[zD,yP Y];rfl,rfl⟩
    subst L;exact J _ _ d ⟨N,rfl,yA (mE a0 C),D⟩
  ·intro o ys g W l I;have q:=MatL.of W I;rw[l]at q;exact Z f o p g q
theorem Xc{d:Nat}(a:d=2\/d=3):crsM d (idM d)=idM d:=by rcases a with rfl|rfl <;> decide +kernel
def sp_1w(K:Frag):Sp:=λvs H Q _=>E2 λ(p:Addr)(d:Nat)=>A4 (vs=[.ref p]) (WyI K H p d) ((d=2\/d=3)) (∀r H',Same H H'->TbI H' r d->Q (.ref r) H')
theorem ok_1w(T:Txt K mg t):FnOk P w K mg base CX0 7 t.a_1w t.d_1w pM' (sp_1w K):=by
 have N:=@ok_1k P w K mg base t T;have F:=@ok_1l P w K mg base t T;have C:=@ok_1h P w K mg base t T;apply T.F_1w.ok sc_1w
 ·obtain⟨p,d,rfl,L,f,M⟩:=h;have J:FnOk P w K mg base CX0 (d+1) t.a_2 t.d_2 pK' (sp_2 K d):=ok_2 T d;refine⟨_,(oN (oY (i:=1) sc_1w.nd rfl (Or.inl rfl) (oS N hr.mo T.F_1k (oK (pq 0) oM)))
   (oP (nA (mG (oK (oS F hr.mo T.F_1l (oK (oS C hr.mo T.F_1h (oK (oT (pq 1)) oM)) (oK (oT (pq 1)) oM))) (oK (oS J hr.mo T.F_2 (oK (oT (pq 1)) oM)) oM)))))),?_⟩
  show tSeq _ _ _ [some (.ref p),none] H;right;refine⟨p,d,rfl,L,f,λr S D⟨a,j,l⟩=>?_⟩;have g:∀B,2<=B->nY B (idM d):=λB G r hr z b=>zI (yZ (jQ r hr z b) (∅:1<2^2)) (zX ∅ G);have l1:=(nM (d:=d)).1;symm;refine⟨true,r,_,_,_,rfl,rfl,SqB.tup j,rfl,?_⟩;refine⟨false,false,a,idM d,d,rfl,l.b,nM,⋯,⋯,g _ ∅,λc W O n m=>?_⟩;rw[Xc f]at m;refine⟨true,r,_,_,_,rfl,rfl,SqB.tup (n _ _ j),rfl,?_⟩;refine⟨false,false,c,idM d,1,rfl,m.b,⋯,λx e=>by rw[nM.2 x e];omega,λx e z b=>yC (nK (show(1:Int).natAbs<2^1 by decide)) (nK (g 2 ∅ x e z b)) ∅,λq U R v k=>?_⟩;have I:((idM d).map λr=>r.map ((1:Int)*·))=idM d:=by
   rw[show(λr:LI'=>r.map ((1:Int)*·))=id from funext λr=>by
    show r.map ((1:Int)*·)=r
    conv=>rhs;rw[←sQ r]
    exact xR λz _=>tI z,sQ]
  rw[I]at k;have i:=n.trans v;refine⟨true,r,_,_,_,rfl,rfl,SqB.tup (i _ _ j),rfl,?_⟩;refine Ad ⋯ ⋯ ((l.up i).b) nM (g 2 ∅) ∅ λV o=>?_;rw[Fq f];exact⟨(by show 2<=sizeLine;decide),λy u=>M y _ (((D.trans i).trans o).trans (Same.new u)) ⟨q,oQ,(k.up o).up (Same.new u)⟩⟩
theorem Xb{d:Nat}{ns:LI'}{u:Int}(h:ns.length=d):sumT ns u ((List.replicate d (0:Int)).map (-·)) 1=ns:=by
 subst h;unfold sumT
 induction ns with
 |nil=>rfl
 |cons n ns a =>
  rw[zW,wN,zK,yW,a];simp
def sp_20(K:Frag):Sp:=λvs H Q _=>E5 λ(p q:Addr)(d:Nat)(ns:LI')(u:Int)=>A10 (vs=[.ref p,.ref q]) (TbI H p d) (nP H q ns u) ((d=2\/d=3)) (ns.length=d) (0<u) (u<2^400) (mO 2100 ns) (gl u ns=1) (∀r H',Same H H'->nP H' r ns u->Q (.ref r) H')
theorem ok_20(T:Txt K mg t):FnOk P w K mg base CX0 3 t.a_20 t.d_20 pA' (sp_20 K):=by
 have J:=@ok_1v P w K mg base t T;have a3:=@ok_11 P w K mg base t T;apply T.F_20.ok sc_20
 ·obtain⟨p,q,d,ns,u,rfl,⟨a,v,I⟩,l,N,hl,Z,a8,O,a0,a5⟩:=h;have l1:=(nM (d:=d)).1;refine⟨_,(oP (nA (kK a3 hr.mo rfl T.F_11.m T.F_11.kp T.F_11.b .nil jG (oK (nR (sc:=oO s_20) (N:=N_20) (fr:=[("spot",1)]) (te:=(mC (sp_1v K) [] E0 (oV (tVar 0) (oV (tOp (rIxB K) (tVar 1) (tC (.int 0))) tNil)))) rfl rfl (nofun) rfl (nofun) (nH (oT (pq 0))) (λ_ _ _ a7=>(oS J hr.mo T.F_1v (oK (pv 0) (oK (oT (pv 1)) oM))))) (oK (oR mF (oT (pq 0)) (oT (pq 1))) oM))))),?_⟩;show tRet _ _ [some (.ref p),some (.ref q)] H;ext;exfalso;obtain⟨xs,g,C,a6⟩:=(I.b (K:=K)).walk;refine⟨true,p,_,_,_,rfl,rfl,SqB.tup v,rfl,false,a,rfl,⟨_,g⟩,λL G=>?_⟩;refine nO (λj y _=>∃n,(mv (idM d) ns)[j]?=some n/\y=.int n) G g (by rw[C,l1];omega) (λ_ _ _ _ r _=>r) ?_ ?_
  ·intro i x o zs U b b0 Y R;obtain⟨k,r,rfl,e,a1⟩:=a6 i x U;have b1:r.length=d:=nM.2 r (zqb e);subst eB;show mC _ _ _ _ [some (.ref k),some (.ref q)] o Y;ext;refine jP (l.upS b) λz M=>?_;refine⟨false,true,k,z,r,ns,rfl,a1.up b,SqB.tup M,⋯,⋯,λa9 m n e1 a2=>yC (nK (show m.natAbs<2^1 from yZ (jQ r (zqb e) m (zqb e1)) ∅)) (nK (O n (zqb a2))) ∅,λF c=>?_⟩;exact R _ _ c ⟨_,by unfold mv;rw[zD,e];rfl,rfl⟩
  ·intro o ys b e1 S X;have f:ys=(mv (idM d) ns).map V.int:=mD (by rw[S,C,l1,lE nM]) X;rw[bF N hl]at f;subst f;refine⟨true,p,_,_,_,rfl,rfl,SqB.tup (b _ _ v),rfl,?_⟩;refine iP (l.upS b) ?_
   try ext
   refine⟨yC (nK (show(1:Int).natAbs<2^1 by decide)) (nK (show u.natAbs<2^400 by omega)) ∅,?_⟩;rw[tI];refine⟨false,L,ns,u,rfl,SqB.lst e1,⋯,iO (B:=400) ⋯ ∅,λz=>?_,λ_ _ r F c D=>?_⟩
   ·rcases z with z|z
    ·omega
    ·rw[z]at hl;simp at hl;omega
   ·obtain⟨W,a4⟩:=fV Z a0;rw[W,a4]at D;exact a5 r F (b.trans c) D
def sp_14(K:Frag):Sp:=λvs H Q _=>E5 λ(q p:Addr)(d:Nat)(ns:LI')(u:Int)=>A10 (vs=[.ref q,.ref p]) (WyI K H p d) (nP H q ns u) ((d=2\/d=3)) (ns.length=d) (0<u) (u<2^400) (mO 2100 ns) (gl u ns=1) (∀r H',Same H H'->nP H' r ns u->Q (.ref r) H')
theorem ok_14(T:Txt K mg t):FnOk P w K mg base CX0 8 t.a_14 t.d_14 pG' (sp_14 K):=by
 have I:=@ok_c P w K mg base t T;have D:=@ok_20 P w K mg base t T;have N:=@ok_1w P w K mg base t T;have L:=@ok_10 P w K mg base t T;apply T.F_14.ok sc_14
 ·obtain⟨q,p,d,ns,u,rfl,f,k,c,hl,e,j,g,l,S⟩:=h;refine⟨_,(oN (kR (oS I hr.mo T.F_c (oK (nQ T.z_len (oT (pq 0))) (oK (pq 1) oM))))
   (oP (nA (oS D hr.mo T.F_20 (oK (oS N hr.mo T.F_1w (oK (pq 1) oM)) (oK (oS L hr.mo T.F_10 (oK (pq 0) (oK (oT (pq 1)) oM))) oM)))))),?_⟩
  show tSeq _ _ _ [some (.ref q),some (.ref p)] H;right;refine jP k λx o=>kM (b:=true) (SqB.tup o) ?_;rw[hl];refine⟨p,d,rfl,f,?_⟩;symm;refine⟨p,d,rfl,f,c,λr X a G=>?_⟩;obtain⟨v,C,R,W,J⟩:=f.up a;refine⟨true,p,_,_,_,rfl,rfl,SqB.tup R,rfl,?_⟩;refine⟨q,C,ns,List.replicate d 0,u,1,d,rfl,k.upS a,J,hl,xH,c,g,λz n=>by rw[wG n];exact wU _,e,j,∅,∅,λO Y i b=>?_⟩;rw[uK,Xb hl]at b;obtain⟨F,M⟩:=fV e l;rw[F,M]at b;exact⟨r,O,d,ns,u,rfl,G.up i,b,c,hl,e,j,g,l,λV U m y=>S V U ((a.trans i).trans m) y⟩
theorem Mp{ns:LI'}{d:Nat}(h:ns.length=d):oZ (idM d,ns,1)=oX d:=by
 show(idM d,mJ 1 ns,(1:Int))=(idM d,List.replicate d 0,1);have:mJ 1 ns=List.replicate d 0:=by
  refine List.eq_replicate_iff.mpr ⟨by unfold mJ;rw[zqe];exact h,λz a=>?_⟩;obtain⟨n,_,rfl⟩:=pS.mp a;have:=fms n 1 ∅;omega
 rw[this]
def sp_r(K:Frag)(t:Adr):Sp:=λvs H Q _=>E5 λ(g v:Addr)(d:Nat)(ms:List Dd)(srt:Tb)=>A6 (vs=[.ref g,.ref v]) (GrpF K t H g d ms srt) (ChI K H v d) ((d=2\/d=3)) (oX d∈srt.map (·.1)) (∀H',Same H H'->Q .non H')
theorem ok_r(T:Txt K mg t):FnOk P w K mg base CX0 10 t.a_r t.d_r pu' (sp_r K t):=by
 have O:=@ok_f P w K mg base t T;have S:=@ok_1x P w K mg base t T;apply T.F_r.ok sc_r
 ·have Y:=hr.units;obtain⟨g,v,d,ms,srt,rfl,m,⟨D,p,G,J⟩,x,F,N⟩:=h;have j:∀{H'},Same H H'->SqB true K H' v (D.map V.ref):=λs=>mL s _ _ p;refine⟨_,(oP (lF yD rfl (nH (pq 1)) (nN (i:=2) sc_r.nd rfl (Or.inl rfl))
   (oP (nT (nL Bj (aC (C:=t.a_3) (pq 0) T.cl_3 T.me_f O hr.mo T.b_f .nil mK (oK (oS S hr.mo T.F_1x (oK (pq 2) oM)) oM)) dP (nJ _))
   (oP jL)
   nS)))),?_⟩
  refine lH λB eB=>?_;simp only[iSeq];show qVar 1 [some (.ref g),some (.ref v),none] H _;ext;refine⟨true,⟨_,j (Same.refl _)⟩,?_⟩;refine kZ (b:=true) (g:=oU 2) (tb:=B) (λi b H'=>∃v2:Option V,b=[some (.ref g),some (.ref v),v2]/\Same H H') ⟨none,rfl,Same.refl _⟩ (λi b H' _⟨_,_,s⟩=>j s) ?_ ?_
  ·rintro i y b c z ⟨v2,rfl,a⟩;obtain⟨q,k,rfl⟩:=mY z;have hi:i<d:=by rw[←G];exact(zqa k).1
   have hl:((idM d).getD i []).length=d:=by
    have l:i<(idM d).length:=by rw[nM.1];exact hi
    exact nM.2 _ (by rw[zqc,zqd l];exact xD l)
   subst eB;show tIfS _ _ _ _ [some (.ref g),some (.ref v),some (.ref q)] c;ext;simp only[mU];ext;obtain⟨I,X,lo,U,W,u,_⟩:=id (m.up a);refine⟨I,_,u,rfl,q,_,1,d,rfl,(J i q k).upS a,hl,x,∅,iO (B:=1) ∅ ∅,λr a0 f e=>?_⟩;obtain⟨C,L⟩:=fV (u:=1) (ns:=(idM d).getD i []) ∅ (dE _);rw[C,L]at e;refine⟨g,r,d,ms,srt,(idM d,(idM d).getD i [],1),rfl,m.up (a.trans f),mX.s e,by show(idM d).length<=100;rw[nM.1];omega,by show((idM d).getD i []).length<=100;omega,by show(0:Int)<1;decide,λZ o=>?_⟩
   try ext
   rw[Mp hl];rcases Bp (y:=oX d) (srt:=srt) (n:=0) with⟨R,_⟩|⟨_,n,M⟩
   ·exact absurd F R
   rw[M]
   try ext
   rw[zN (by simp)];exact iteF ((a.trans f).trans o)
  ·rintro b c ⟨v2,rfl,a⟩;exact N c a
def sp_x(K:Frag):Sp:=λvs H Q _=>E4 λ(p q:Addr)(d:Nat)(x:Dd)=>A11 (vs=[.ref p,.ref q]) (DdS K H p x) (WyI K H q d) ((d=2\/d=3)) (Sq d x.1) (x.2.1.length=d) ((0<x.2.2/\x.2.2<2^150)) (nY 1000 x.1) (mO 1000 x.2.1) (gl x.2.2 x.2.1=1) (∀r H',Same H H'->DdAt K H' r x->Q (.ref r) H')
theorem ok_x(T:Txt K mg t):FnOk P w K mg base CX0 9 t.a_x t.d_x ["one","way"] (sp_x K):=by
 have f0:=@ok_c P w K mg base t T;have i6:=@ok_1k P w K mg base t T;have g0:=@ok_1w P w K mg base t T;have c1:=@ok_1o P w K mg base t T;have i2:=@ok_1c P w K mg base t T;have f9:=@ok_14 P w K mg base t T;have e9:=@ok_1m P w K mg base t T;apply T.F_x.ok sc_x
 ·obtain⟨p,q,d,⟨M,ts,u⟩,rfl,Y,J,g,b,lt,⟨a6,b6⟩,b4,d2,c8,h3⟩:=h;replace b:Sq d M:=b;replace lt:ts.length=d:=lt;have l1:=(nM (d:=d)).1;have S:=b.1;have c4:nY 2 (idM d):=λr hr z f=>yZ (jQ r hr z f) ∅;have e0:∀{A:LM},Sq d A->A≠[]:=λh z=>by have:=h.1;rw[z]at this;simp at this;omega
  refine⟨_,(oN (kR (oS f0 hr.mo T.F_c (oK (nQ T.z_len (oT (pq 0))) (oK (pq 1) oM))))
   (oN (oY (i:=2) sc_x.nd rfl (Or.inl rfl) (oS i6 hr.mo T.F_1k (oK (pq 1) oM)))
   (oN (oY (i:=3) sc_x.nd rfl (Or.inl rfl) (oS g0 hr.mo T.F_1w (oK (pq 1) oM)))
   (oN (oY (i:=4) sc_x.nd rfl (Or.inl rfl) (oS c1 hr.mo T.F_1o (oK (oS c1 hr.mo T.F_1o (oK (oT (pq 3)) (oK (oT (pq 0)) oM))) (oK (oT (pq 2)) oM))))
   (oN (oY (i:=5) sc_x.nd rfl (Or.inr rfl) (oR mF (oT (pq 3)) (oT (pq 2))))
   (oN (nT (gD (mV (aZ rfl) rfl T.z_any (nofun) (oK (nR (sc:=oO cR) (N:=N_x) (fr:=[("under",5)]) (te:=(tCB (λxs H Q=>∃(p:Addr)(bs:List Bool),xs=[.ref p]/\SqL K H p (bs.map V.bl)/\Q (.bl (bs.any id)) H) (oV (nW (iSeq K (tVar 0)) (oU 0) (tEl (tOp (rI0 λi j=>.bl (!decide (i=j))) (tOp (rI (λ_ j=>j≠0) λi j=>.int (i.fmod j)) (tVar 0) (tVar 1)) (tC (.int 0)))) 1 [("under",1)]) tNil))) rfl rfl (nofun) rfl (nofun) (nH (pq 4)) (λ_ _ _ X=>(mV (aZ rfl) rfl T.z_any (nofun) (oK (nR (N:=["row","under"]) (fr:=[("under",1)]) (te:=(tOp (rI0 λi j=>.bl (!decide (i=j))) (tOp (rI (λ_ j=>j≠0) λi j=>.int (i.fmod j)) (tVar 0) (tVar 1)) (tC (.int 0)))) X rfl (nofun) rfl (nofun) (nH (pv 0)) (λ_ _ _ i5=>(jR kS (oR lA (pv 0) (pv 1)) oW (nJ _)))) oM)))) oM)))
   (oP jL)
   nS)
   (oN (iX (i:=6) (sc:=oO cR) (N:=N_x) (fr:=[("under",5)]) (te:=(nW (iSeq K (tVar 0)) (oU 0) (tEl (tOp (rI jH λi j=>.int (i.fdiv j)) (tVar 0) (tVar 1))) 1 [("under",1)])) rfl rfl (nofun) rfl sc_x.nd rfl rfl (nofun) (nH (pq 4)) (λ_ _ _ X=>(nR (N:=["row","under"]) (fr:=[("under",1)]) (te:=(tOp (rI jH λi j=>.int (i.fdiv j)) (tVar 0) (tVar 1))) X rfl (nofun) rfl (nofun) (nH (pv 0)) (λ_ _ _ i5=>(oR kG (pv 0) (pv 1))))))
   (oP (nA (oS i2 hr.mo T.F_1c (oK (pq 6) (oK (oS f9 hr.mo T.F_14 (oK (oS e9 hr.mo T.F_1m (oK (pq 0) (oK (oT (pq 1)) oM))) (oK (pq 1) oM))) oM)))))))))))),?_⟩
  show tSeq _ _ _ [some (.ref p),some (.ref q),none,none,none,none,none] H;right;refine iN Y λa g9=>iH g9 ?_;rw[S];refine⟨q,d,rfl,J,?_⟩;left;refine⟨q,d,rfl,J,g,λo j4 d3 f6=>?_⟩;left;refine⟨q,d,rfl,J.up d3,g,λn j0 a9 f3=>?_⟩;obtain⟨f7,b8,g4⟩:=f3;obtain⟨i3,d6,e6⟩:=f6.up a9;have c9:=d3.trans a9;left;refine⟨true,n,_,_,_,rfl,rfl,SqB.tup b8,rfl,?_⟩;refine iN (Y.up c9) λL a3=>?_;refine⟨false,false,true,true,f7,L,idM d,M,d,rfl,g4.b,a3,e0 b,b.2,λr hr=>by rw[nM.2 r hr,S],⋯,⋯,⋯,?_,λc k2 j3 D d4=>?_⟩
  ·exactλr hr z f a4 b1 y W=>yC (nK (c4 r hr z f)) (nK (b4 a4 b1 y W)) ∅
  rw[(jE g b).1]at d4;have j6:=a9.trans D;refine⟨true,o,_,_,_,rfl,rfl,SqB.tup (D _ _ d6),rfl,?_⟩;refine⟨false,false,false,false,c,i3,M,idM d,d,rfl,d4.b,(e6.up D).b,e0 nM,nM.2,λr hr=>by rw[b.2 r hr,l1],⋯,⋯,⋯,?_,λk1 i9 j1 c7 b7=>?_⟩
  ·exactλr hr z f a4 b1 y W=>yC (nK (b4 r hr z f)) (nK (c4 a4 b1 y W)) ∅
  rw[(jE g b).2]at b7;have h1:=(c9.trans D).trans c7;have c2:=D.trans c7;left;refine⟨true,n,_,_,_,rfl,rfl,SqB.tup (c2 _ _ b8),rfl,?_⟩;refine⟨true,o,_,_,_,rfl,rfl,SqB.tup (c2 _ _ d6),rfl,?_⟩
  try ext
  refine⟨yC (nK (show(1:Int).natAbs<2^1 by decide)) (nK (show(1:Int).natAbs<2^1 by decide)) ∅,?_⟩;rw[show(1:Int)*1=1 by decide];obtain⟨xs,a0,a7,e2⟩:=(b7.b (K:=K)).walk;have c6:∀(ys:List V),(∀(j:Nat) y,ys[j]?=some y->y=V.bl false)->ys=(List.replicate ys.length false).map V.bl:=λys h=>by
   refine xP (by rw[zqe,xH]) λj d9 d0=>?_;rw[wH,List.getElem_replicate];exact h j _ (zqd d9)
  have d1:∀n:Nat,(List.replicate n false).any id=false:=λn=>by
   rw[sI];intro z f;rw[wG f]
   decide
  left;exfalso;refine⟨false,⟨_,a0⟩,λe3 g5=>?_⟩;refine nO (λj y _=>y=V.bl false) g5 a0 (by rw[a7,S];omega) (λ_ _ _ _ h _=>h) ?_ ?_
  ·intro j y c5 zs G l j5 f1 e5;obtain⟨b2,r,rfl,U,O⟩:=e2 j y G;have h5:r.length=d:=b.2 r (zqb U);subst eB;show tCB _ _ [some (.ref b2),some (.int 1)] c5 f1;ext;exfalso;refine⟨false,⟨_,O.up l⟩,λa1 N=>?_⟩;refine nO (λk y _=>y=V.bl false) N (O.up l) (by rw[zqe];omega) (λ_ _ _ _ h _=>h) ?_ ?_
   ·intro k y F j2 b5 m d8 a2 a5;obtain⟨x,d5,rfl⟩:=mS b5;subst eB;show tOp _ _ _ [some (.int x),some (.int 1)] F a2;ext;have:=fms x 1 ∅;refine⟨∅,a5 _ _ (Same.refl _) ?_⟩;rw[show x.fmod 1=0 by omega];rfl
   ·intro F ys m b3 h8 a8;have G:=c6 ys a8;refine⟨a1,rfl,List.replicate ys.length false,by rw[←G];exact SqL.of b3,?_⟩;rw[d1];exact e5 _ _ m rfl
  ·intro c5 ys l i8 h8 g7;have G:=c6 ys g7;refine⟨e3,rfl,List.replicate ys.length false,by rw[←G];exact SqL.of i8,?_⟩;rw[d1]
   try ext
   have e7:=h1.trans l;have c0:=SqB.up a0 l;left;exfalso;refine⟨false,⟨_,c0⟩,λL a3=>?_⟩;refine nO (RowR L λj=>M.getD j []) a3 c0 (by rw[a7,S];omega) (RowR.mono (a:=L)) ?_ ?_
   ·intro j y F zs b5 m d8 a2 a5;obtain⟨b2,r,rfl,U,O⟩:=e2 j y b5;have h5:r.length=d:=b.2 r (zqb U);have g6:M.getD j []=r:=by rw[zqc,U];rfl
    have c3:=(O.up l).up m;subst eB;show nW _ _ _ _ _ [some (.ref b2),some (.int 1)] F a2;exfalso;refine⟨false,⟨_,c3⟩,λa1 N=>?_⟩;refine nO (λk y _=>∃n,r[k]?=some n/\y=.int n) N c3 (by rw[zqe];omega) (λ_ _ _ _ h _=>h) ?_ ?_
    ·intro k y Z j7 b0 C j9 h0 f4;obtain⟨x,d5,rfl⟩:=mS b0;subst eB;show tOp _ _ _ [some (.int x),some (.int 1)] Z h0;ext;refine⟨⟨∅,∅⟩,f4 _ _ (Same.refl _) ⟨x,d5,?_⟩⟩;rw[tU]
    ·intro Z g3 C i4 i1 I;have b0:g3=r.map V.int:=mD (by rw[i1,zqe]) I;subst b0;exact a5 _ _ C ⟨a1,rfl,yA (mE d8 N),by dsimp only;rw[g6];exact i4⟩
   ·intro F h7 m b3 h4 a8;have b9:=MatL.of b3 a8;have e:(List.range h7.length).map (λj=>M.getD j [])=M:=by
     rw[h4,a7];refine xP (by rw[zqe,vO]) λi d9 d0=>?_;rw[wH,uF,zqc,zqd d0];rfl
    rw[e]at b9;have R:=e7.trans m;obtain⟨v,h9,e4,k0,e8⟩:=J.up R;symm;refine⟨true,q,_,_,_,rfl,rfl,SqB.tup e4,rfl,?_⟩;have f2:Fine d M ts u:=⟨b,lt,a6,b4.le ∅,d2.le ∅,by have:u<2^150:=b6;omega⟩;refine⟨p,h9,M,ts,List.replicate d 0,u,1,d,rfl,Y.up R,e8.s,f2,⋯,⋯,xH,λz f=>by rw[wG f];exact wU _,∅,∅,λh2 Z C I=>?_⟩;rw[(Ft g b lt).1,uK]at I;obtain⟨g8,g1⟩:=fV a6 c8;rw[g8,g1]at I;refine⟨h2,q,d,ts,u,rfl,J.up (R.trans C),I,g,lt,a6,by have:u<2^150:=b6;omega,d2.le ∅,c8,λh6 j8 d7 f5=>?_⟩;exact⟨false,false,L,h6,M,ts,u,rfl,((b9.up C).up d7).b,f5,⋯,λf8 g2 i7 i0=>h3 f8 g2 (((R.trans C).trans d7).trans i7) i0⟩
def sp_1j(K:Frag):Sp:=λvs H Q _=>E4 λ(a s:Addr)(qs:LA)(d:Nat)=>A7 (vs=[.ref a,.ref s]) (H a=some (.lst (qs.map V.ref))) (qs.length=d) ((∀(i:Nat) q,qs[i]?=some q->nP H q ((idM d).getD i []) 1)) (nP H s (List.replicate d 0) 1) ((d=2\/d=3)) (∀r H',Same H H'->WyI K H' r d->Q (.ref r) H')
theorem ok_1j(T:Txt K mg t):FnOk P w K mg base CX0 6 t.a_1j t.d_1j pw' (sp_1j K):=by
 have c1:=@ok_11 P w K mg base t T;apply T.F_1j.ok sc_1j
 ·obtain⟨a,f0,c5,d,rfl,b9,hl,a4,b8,d6,e7⟩:=h;have d8:FnOk P w K mg base CX0 (d+1) t.a_2 t.d_2 pK' (sp_2 K d):=ok_2 T d;refine⟨_,(oN (oY (i:=2) sc_1j.nd rfl (Or.inr rfl) (nQ T.z_len (pq 0)))
   (oN (nT (nL aD (pq 2) (mG (oK oW (oK oW oM))) rfl)
   (oP jL)
   nS)
   (oN (nT (PW.pt (iC (gD (mV (aZ rfl) rfl T.z_any (nofun) (oK (nR (sc:=oO s_1j) (N:=N_1j) (fr:=[("axes",2)]) (te:=(tOp (rI0 λi j=>.bl (!decide (i=j))) (tCB (kY K) (oV (tOp (rIxB K) (tVar 0) (tC (.int 0))) tNil)) (tVar 1))) rfl rfl (nofun) rfl (nofun) (nH (pq 0)) (λ_ _ _ b1=>(jR kS (nQ T.z_len (oT (pv 0))) (pv 1) (nJ _)))) oM))) (iU (nL kS (nQ T.z_len (oT (pq 1))) (pq 2) (nJ _)))))
   (oP jL)
   nS)
   (oN (nT (nL jM (oS d8 hr.mo T.F_2 (oK (nR (sc:=oO s_1j) (N:=N_1j) (fr:=[]) (te:=(tOp (rIxB K) (tVar 0) (tC (.int 0)))) rfl rfl (nofun) rfl (nofun) (nH (pq 0)) (λ_ _ _ b1=>(oT (pv 0)))) oM)) oW (nJ _))
   (oP jL)
   nS)
   (oP (nA (mG (oK (mP kL rfl T.z_tuple (nofun) (oK (nR (sc:=oO s_1j) (N:=N_1j) (fr:=[]) (te:=(mC (sp_11 K t.a_1y) [] E0 (oV (tOp (rIxB K) (tVar 0) (tC (.int 0))) (oV (tOp (rIxB K) (tVar 0) (tC (.int 1))) tNil)))) rfl rfl (nofun) rfl (nofun) (nH (pq 0)) (λ_ _ _ b1=>(kK c1 hr.mo rfl T.F_11.m T.F_11.kp T.F_11.b .nil jG (oK (oT (pv 0)) (oK (oT (pv 0)) oM))))) oM)) (oK (kK c1 hr.mo rfl T.F_11.m T.F_11.kp T.F_11.b .nil jG (oK (oT (pq 1)) (oK (oT (pq 1)) oM))) oM))))))))),?_⟩
  show tSeq _ _ _ [some (.ref a),some (.ref f0),none] H;right;refine⟨false,a,_,rfl,SqB.lst b9,?_⟩;rw[zqe,hl];left;refine⟨by show 2<=sizeLine;decide,λW e6=>?_⟩;have J:Same H (upd H W (.tup [.int 2,.int 3])):=Same.new e6;refine⟨W,_,rfl,.inr (SqT.of oQ),rfl,rfl,_,rfl,?_⟩;generalize upd H W (.tup [.int 2,.int 3])=f5 at J;rw[inV2,zL (show(d:Int)=2\/(d:Int)=3 by omega)];refine iteF ?_;have S:∀i,i<d->((idM d).getD i []).length=d:=λi hi=>by
   have b:i<(idM d).length:=by rw[nM.1];exact hi
   exact nM.2 _ (by rw[zqc,zqd b];exact xD b)
  have a7:∀{i q},c5[i]?=some q->i<d:=λe=>by rw[←hl];exact(zqa e).1
  have p:∀{H'},Same H H'->SqB false K H' a (c5.map V.ref):=λs=>SqB.lst (s _ _ b9);left;exfalso;refine⟨false,⟨_,p J⟩,λc9 e3=>?_⟩;refine nO (λj y _=>y=V.bl false) e3 (p J) (by rw[zqe];omega) (λ_ _ _ _ h _=>h) ?_ ?_
  ·intro j y b0 zs f a3 a0 v u;obtain⟨q,n,rfl⟩:=mY f;subst eB;show tOp _ _ _ [some (.ref q),some (.int d)] b0 v;ext;refine jP ((a4 j q n).upS (J.trans a3)) λx k=>kM (b:=true) (SqB.tup k) ?_
   try ext
   refine u _ _ (Same.refl _) ?_;rw[S j (a7 n),zL rfl];rfl
  ·intro b0 ys a3 Y f7 d0;have f:ys=(List.replicate ys.length false).map V.bl:=by
    refine xP (by rw[zqe,xH]) λj f2 f6=>?_;rw[wH,List.getElem_replicate];exact d0 j _ (zqd f2)
   have e4:(List.replicate ys.length false).any id=false:=by
    rw[sI];intro z a1;rw[wG a1]
    decide
   refine⟨c9,rfl,List.replicate ys.length false,by rw[←f];exact SqL.of Y,?_⟩;rw[e4]
   try ext
   have G:=J.trans a3;refine jP (b8.upS G) λx k=>kM (b:=true) (SqB.tup k) ?_
   try ext
   rw[xH,zL rfl];refine iteF ?_;have d7:nY 2 (idM d):=λr hr z a1=>yZ (jQ r hr z a1) ∅;left;exfalso;refine⟨false,⟨_,p G⟩,λf1 e2=>?_⟩;refine nO (λj y _=>∃q,y=V.ref q/\SqT K H q (((idM d).getD j []).map V.int)) e2 (p G) (by rw[zqe];omega) (λ_ _ _ _ h _=>h) ?_ ?_
   ·intro j y a5 zs f R a0 v u;obtain⟨q,n,rfl⟩:=mY f;obtain⟨z,U,Z⟩:=a4 j q n;subst eB;show tOp _ _ _ [some (.ref q)] a5 v;ext;exact⟨true,q,_,_,_,rfl,rfl,SqB.tup ((G.trans R) _ _ U),rfl,u _ _ (Same.refl _) ⟨z,rfl,SqT.of Z⟩⟩
   ·intro a5 e9 R a2 b3 d1;have a8:=G.trans R;have X:∃ps:LA,e9=ps.map V.ref/\Paired (λq r=>SqT K H q (r.map V.int)) ps (idM d):=iR (by rw[b3,zqe,hl,nM.1]) λj y C=>by
     obtain⟨q,L,g⟩:=d1 j y C;have b:j<(idM d).length:=by rw[nM.1,←hl,←zqe (f:=V.ref),←b3];exact(zqa C).1
     obtain⟨r,c⟩:=fW rfl b;exact⟨q,r,L,c,by rw[zqc,c]at g;exact g⟩
    obtain⟨ps,rfl,a9⟩:=X;have d3:MatB false true K a5 f1 (idM d):=⟨ps,SqB.lst a2,nX a9,λi q r Y a2=>by
     obtain⟨b6,c,z⟩:=mZ a9 Y;rw[a2]at c;cases c;exact mL a8 _ _ z⟩
    refine Ad ⋯ ⋯ d3 nM d7 ∅ λf4 d9=>?_;rw[Fq d6]
    try ext
    have I:=a8.trans d9;rw[zN ∅];refine iteF ?_;obtain⟨c6,c7⟩:=(⟨λi hi=>fV (u:=1) (ns:=(idM d).getD i []) ∅ (dE _),fV (u:=1) (ns:=List.replicate d 0) ∅ (dE _)⟩:(∀i,i<d->redT 1 ((idM d).getD i [])=(idM d).getD i []/\redU 1 ((idM d).getD i [])=1)/\(redT 1 (List.replicate d 0)=List.replicate d 0/\redU 1 (List.replicate d 0)=1));symm;exfalso;refine⟨false,⟨_,p I⟩,λb5 d2=>?_⟩;refine nO (λj y H'=>∃M,y=V.ref M/\nP (offH b5 H') M ((idM d).getD j []) 1) d2 (p I) (by rw[zqe];omega) (λ_ _ _ _⟨M,L,g⟩e0=>⟨M,L,g.upS (gO e0)⟩) ?_ ?_
    ·intro j y m zs f N a0 v u;obtain⟨q,n,rfl⟩:=mY f;have b:=a7 n;have c0:=(a4 j q n).upS (I.trans N);subst eB;show mC _ _ _ _ [some (.ref q)] m v;ext;refine jP c0 λx k=>iP c0 ?_;refine⟨true,x,_,1,rfl,SqB.tup k,by rw[S j b];omega,iO (B:=1) ∅ ∅,λz=>?_,λ_ _ r c8 o D=>?_⟩
     ·rcases z with z|z
      ·omega
      ·have:=S j b;rw[z]at this;simp at this;omega
     ·rw[(c6 j b).1,(c6 j b).2]at D;obtain⟨z,U,Z⟩:=D;have tk:=iQ (K:=K) (o _ _ a0);exact u _ _ o ⟨r,rfl,z,tk.k _ _ U,tk.k _ _ Z⟩
    ·intro m e8 N f3 b7 e5;have X:∃ps:LA,e8=ps.map V.ref/\Paired (λq r=>nP m q r 1) ps (idM d):=iR (by rw[b7,zqe,hl,nM.1]) λj y C=>by
      obtain⟨q,L,g⟩:=e5 j y C;have b:j<(idM d).length:=by rw[nM.1,←hl,←zqe (f:=V.ref),←b7];exact(zqa C).1
      obtain⟨r,c⟩:=fW rfl b;exact⟨q,r,L,c,by rw[zqc,c]at g;exact g.upS gN⟩
     obtain⟨F,rfl,c2⟩:=X;refine⟨b5,_,rfl,.inl ⟨SqL.of f3,λl d5=>?_⟩⟩;have o:Same m (upd m l (.tup (F.map V.ref))):=Same.new d5;have c3:(upd m l (.tup (F.map V.ref))) l=some (.tup (F.map V.ref)):=oQ;generalize upd m l (.tup (F.map V.ref))=c8 at o c3;have b4:=b8.upS ((I.trans N).trans o);refine jP b4 λx k=>iP b4 ?_;refine⟨true,x,_,1,rfl,SqB.tup k,by rw[xH];omega,iO (B:=1) ∅ ∅,λz=>?_,λ_ _ r b2 a6 D=>?_⟩
     ·rcases z with z|z
      ·omega
      ·have:=wF List.length z;rw[xH]at this;simp at this;omega
     ·rw[c7.1,c7.2]at D;refine⟨(by show 2<=sizeLine;decide),λc4 d4=>?_⟩;have O:Same b2 (upd b2 c4 (.tup [.ref l,.ref r])):=Same.new d4;refine e7 c4 _ ((((I.trans N).trans o).trans a6).trans O) ⟨l,r,oQ,⟨F,SqT.of (O _ _ (a6 _ _ c3)),(nX c2).trans nM.1,λi q e=>?_⟩,D.upS O⟩;obtain⟨b6,c,z⟩:=mZ c2 e;have:(idM d).getD i []=b6:=by rw[zqc,c];rfl
      rw[this];exact z.upS ((o.trans a6).trans O)
theorem Mo{d:Nat}:nY 200000 (idM d):=λr hr z a=>zI (show z.natAbs<2^1 from yZ (jQ r hr z a) ∅) (zX ∅ ∅)
theorem Xa{c a:Type}{F:c->a->Prop}{ps b:List c}{ms ns:List a}(h:Paired F ps ms)(h':Paired F b ns):Paired F (ps++b) (ms++ns):=by
 induction h with
 |nil=>exact h'
 |cons h _ d=>exact .cons h d
def sp_8(K:Frag)(t:Adr):Sp:=λvs H Q _=>E9 λ(g wy:Addr)(k p:Nat)(L:List Stp)(S:LI')(su:Int)(ms:List Dd)(srt:Tb)=>A7 (vs=[.ref g,.ref wy,.int 200]) (GrpF K t H g (famD k) ms srt) (WyI K H wy (famD k)) (iB k p L S su) ((∀m∈ms,InF (frm k p L S su) (oZ m))) (srt.Perm (tab (famD k) (ms.map oZ) 192)) (∀g' ms' srt' H',Same H H'->GrpF K t H' g' (famD k) ms' srt'->(∀x,x∈srt'.map (·.1)↔x∈srt.map (·.1))->srt'.length<=200->(srt'.Pairwise λp q=>lx (fl (dat q.1)) (fl (dat p.1))=false)->(srt'.map (·.1)).Nodup->Q (.ref g') H')
theorem ok_8(T:Txt K mg t):FnOk P w K mg base CX0 16 t.a_8 t.d_8 pq' (sp_8 K t):=by
 have j3:=@ok_t P w K mg base t T;have g2:=@ok_c P w K mg base t T;have i2:=@ok_r P w K mg base t T;have b3:=@ok_6 P w K mg base t T;have g1:=@ok_1 P w K mg base t T;have d3:=@ok_x P w K mg base t T;have j2:=@ok_1n P w K mg base t T;have h2:=@ok_i P w K mg base t T;have i1:=@ok_1x P w K mg base t T;have j8:=@ok_18 P w K mg base t T;apply T.F_8.ok sc_8
 ·have m5:=hr.units;obtain⟨g,f,k,p,L,S,Y,ms,srt,rfl,I,a7,ok,h4,a0,j4⟩:=h;have O:=kO k;have okF:=ok.frm;have c7:∀s∈ms.map oZ,InF (frm k p L S Y) s:=λs h=>by
   obtain⟨m,Z,rfl⟩:=pS.mp h;exact h4 m Z
  have tb:=dL okF c7 192;have o0:srt.length<=192:=by rw[a0.length_eq];exact tb.1
  have e0:∀y∈srt,InF (frm k p L S Y) y.1:=λy a=>tb.2 y (a0.mem_iff.mp a);have Z:∀y∈srt,MbOk (famD k) y.1:=λy a=>Mw ok (e0 y a);have f2:oX (famD k)∈srt.map (·.1):=(a0.map (·.1)).mem_iff.mpr (pS.mpr ⟨_,Bu,rfl⟩);refine⟨_,(oN (kR (oS j3 hr.mo T.F_t (oK (pq 2) oM)))
   (oN (kR (oS g2 hr.mo T.F_c (oK (kA (C:=t.a_3) (pq 0) T.cl_3 T.me_6 b3 hr.mo T.b_6 .nil mK) (oK (pq 1) oM))))
   (oN (kR (oS i2 hr.mo T.F_r (oK (pq 0) (oK (oT (pq 1)) oM))))
   (oN (iX (i:=3) (sc:=oO s_8) (N:=N_8) (fr:=[("way",1)]) (te:=(mC (sp_x K) [] E0 (oV (tVar 0) (oV (tVar 1) tNil)))) rfl rfl (nofun) rfl sc_8.nd rfl rfl (nofun) (nH (kA (C:=t.a_3) (pq 0) T.cl_3 T.me_1 g1 hr.mo T.b_1 .nil mK)) (λ_ _ _ c5=>(oS d3 hr.mo T.F_x (oK (pv 0) (oK (pv 1) oM)))))
   (oN (nT (nL bZ (oS j2 hr.mo T.F_1n (oK (nQ T.z_len (pq 3)) (oK (oT (pq 1)) oM))) (pq 2) (nJ _))
   (oP jL)
   nS)
   (oN (iX (i:=4) (sc:=oO s_8) (N:=N_8) (fr:=[]) (te:=(tTup (oV (tCB (gG K) (oV (tVar 0) tNil)) (oV (tC (.int 1)) tNil)))) rfl rfl (nofun) rfl sc_8.nd rfl rfl (nofun) (nH (oS h2 hr.mo T.F_i (oK (kA (C:=t.a_3) (pq 0) T.cl_3 T.me_6 b3 hr.mo T.b_6 .nil mK) oM))) (λ_ _ _ c5=>(mG (oK (mP kL rfl T.z_tuple (nofun) (oK (pv 0) oM)) (oK oW oM)))))
   (oP (nA (oS j8 hr.mo T.F_18 (oK (kA (C:=t.a_3) (pq 0) T.cl_3 T.me_6 b3 hr.mo T.b_6 .nil mK) (oK (oR dY (pq 3) (nR (sc:=oO s_8) (N:=N_8) (fr:=[("way",1)]) (te:=(mC (sp_x K) [] E0 (oV (mC (sp_1x K) [] E0 (oV (tVar 0) tNil)) (oV (tVar 1) tNil)))) rfl rfl (nofun) rfl (nofun) (nH (pq 4)) (λ_ _ _ c5=>(oS d3 hr.mo T.F_x (oK (oS i1 hr.mo T.F_1x (oK (pv 0) oM)) (oK (pv 1) oM)))))) oM))))))))))),?_⟩
  show tSeq _ _ _ [some (.ref g),some (.ref f),some (.int 200),none,none] H;right;refine⟨200,rfl,∅,∅,?_⟩;left;simp only[mU];ext;obtain⟨g0,m4,lo,n6,n8,i7,_⟩:=id I;refine⟨g0,_,i7,rfl,g,famD k,ms,srt,rfl,I,f,famD k,rfl,a7,?_⟩;obtain⟨b5,k6,f9,f1,l8⟩:=id a7;have e5:∀{H'},Same H H'->SqB true K H' f [.ref b5,.ref k6]:=λs=>SqB.tup (s _ _ f9);left;refine⟨true,f,_,_,_,rfl,rfl,e5 (Same.refl _),rfl,?_⟩;refine⟨g,b5,famD k,ms,srt,rfl,I,f1,O,f2,λm7 e3=>?_⟩;left;refine nF λB eB=>?_;simp only[iSeq,mU];ext;have c2:=I.up e3;obtain⟨k9,n5,n2,m8,n1,k3,_⟩:=id c2;refine⟨k9,_,k3,rfl,g,famD k,ms,srt,rfl,c2,λl k1 m0 j9 n0 hl e6=>?_⟩;have i5:k1.length=srt.length:=nX e6;have d1:=e3.trans j9;refine⟨false,l,rfl,⟨_,SqB.lst hl⟩,λa9 i4=>?_⟩;refine nO (DdR K a9 (srt.map (·.1))) i4 (SqB.lst hl) (by rw[zqe];omega) DdR.mono ?_ ?_
  ·intro j y f4 zs M a1 U N J;obtain⟨m,b2,rfl⟩:=mY M;obtain⟨x,c1,F⟩:=mZ e6 b2;have b:=Z x (zqb c1);have b4:=b.le;subst eB;show mC _ _ _ _ [some (.ref m),some (.ref f)] f4 N;ext;refine⟨m,f,famD k,x.1,rfl,(hZ F).up a1,a7.up (d1.trans a1),O,b.sq,b.len,⟨b.pos,⋯⟩,b.bm.le ∅,λz e=>?_,b.low,λr g5 R h1=>?_⟩
   ·have n4:=b.bt z e;exact zI (show z.natAbs<2^7 by omega) (zX ∅ ∅)
   ·exact J _ _ R ⟨r,x.1,rfl,by rw[zD,c1];rfl,h1.tk (iQ (R _ _ U))⟩
  ·intro f4 ys a1 e2 k0 f6;obtain⟨C,rfl,d5⟩:=Eo (by rw[k0,zqe,zqe];exact i5) f6;have lq:C.length=srt.length:=by rw[nX d5,zqe]
   have b0:=d1.trans a1;left;refine⟨false,a9,_,rfl,SqB.lst e2,true,f,_,_,_,rfl,rfl,e5 b0,rfl,?_⟩;rw[zqe,lq];refine⟨srt.length,famD k,b5,rfl,f1.up b0,O,⋯,λg5 R=>?_⟩
   try ext
   have d7:=b0.trans R;rw[zN ⋯];refine iteF ?_;have e9:=I.up d7;obtain⟨h7,n9,m2,n3,n7,h0,_⟩:=id e9;left;exfalso;simp only[mU];ext;refine⟨h7,_,h0,rfl,g,famD k,ms,srt,rfl,e9,famD k,rfl,⋯,λg4 m3 m1 d6 i8=>?_⟩;obtain⟨xs,b4,b7,l3⟩:=(i8.b (K:=K)).walk;have l1:=(nM (d:=famD k)).1;have l5:∀i,i<famD k->((idM (famD k)).getD i []).length=famD k:=λi hi=>by
    have a6:i<(idM (famD k)).length:=by rw[nM.1];exact hi
    exact nM.2 _ (by rw[zqc,zqd a6];exact xD a6)
   refine⟨false,g4,rfl,⟨_,b4⟩,λk8 i0=>?_⟩;refine nO (λj y H'=>∃a3,y=V.ref a3/\nP (offH k8 H') a3 ((idM (famD k)).getD j []) 1) i0 b4 (by rw[b7,l1];omega) (λ_ _ _ _⟨a3,b8,a5⟩h5=>⟨a3,b8,a5.upS (gO h5)⟩) ?_ ?_
   ·intro j y v zs M a8 U N J;obtain⟨f0,r,rfl,o,a4⟩:=l3 j y M;subst eB;show tTup _ [some (.ref f0)] v N;ext;refine⟨f0,_,rfl,.inl ⟨a4.up a8,λl1 g6=>?_⟩⟩;have u:Same v (upd v l1 (.tup (r.map V.int))):=Same.new g6;have d8:(upd v l1 (.tup (r.map V.int))) l1=some (.tup (r.map V.int)):=oQ;generalize upd v l1 (.tup (r.map V.int))=d at u d8;refine⟨(by show 2<=sizeLine;decide),λc6 j0=>?_⟩;have c:Same d (upd d c6 (.tup [.ref l1,.int 1])):=Same.new j0;have d2:=u.trans c;have tk:=iQ (K:=K) (d2 _ _ U);have i6:(idM (famD k)).getD j []=r:=by rw[zqc,o];rfl
    exact J _ _ d2 ⟨c6,rfl,by rw[i6];exact⟨l1,tk.k _ _ oQ,tk.k _ _ (c _ _ d8)⟩⟩
   ·intro v ys a8 f5 d9 j7;have b6:=(d7.trans d6).trans a8;symm;simp only[mU];ext;have l2:∃ps:LA,ys=ps.map V.ref/\Paired (λq r=>nP v q r 1) ps (idM (famD k)):=iR (by rw[d9,b7]) λj y c3=>by
     obtain⟨q,b8,a5⟩:=j7 j y c3;have a6:j<(idM (famD k)).length:=by rw[←b7,←d9];exact(zqa c3).1
     obtain⟨r,o⟩:=fW rfl a6;exact⟨q,r,b8,o,by rw[zqc,o]at a5;exact a5.upS gN⟩
    obtain⟨ps,rfl,a4⟩:=l2;have i3:ps.length=famD k:=(nX a4).trans l1;have c0:=I.up b6;obtain⟨k2,m6,l6,l7,l9,j1,_⟩:=id c0;refine⟨k2,_,j1,rfl,g,famD k,ms,srt,rfl,c0,?_⟩;exfalso;refine⟨false,⟨_,SqB.lst f5⟩,λc9 g3=>?_⟩;refine nO (DdR K c9 ((idM (famD k)).map λr=>(idM (famD k),r,1))) g3 (SqB.lst f5) (by rw[zqe];omega) DdR.mono ?_ ?_
    ·intro j y d zs M u U N J;obtain⟨q,b2,rfl⟩:=mY M;obtain⟨r,o,b1⟩:=mZ a4 b2;have X:r.length=famD k:=nM.2 r (zqb o);have g7:∀z∈r,z.natAbs<2^1:=λz e=>yZ (jQ r (zqb o) z e) ∅;subst eB;show mC _ _ _ _ [some (.ref q),some (.ref f)] d N;ext;refine⟨q,r,1,famD k,rfl,b1.upS u,X,O,∅,iO (B:=1) ∅ ∅,λj5 j6 c c4=>?_⟩;obtain⟨h8,k7⟩:=fV (u:=1) (ns:=r) ∅ (dE _);rw[h8,k7]at c4;refine⟨j5,f,famD k,(idM (famD k),r,1),rfl,mX.s c4,a7.up ((b6.trans u).trans c),O,nM,X,⟨by show(0:Int)<1;decide,by show(1:Int)<2^150;decide⟩,λr hr z e=>zI (yZ (jQ r hr z e) (∅:1<2^1)) (zX ∅ ∅),λz e=>zI (g7 z e) (zX ∅ ∅),dE _,λg8 d0 b9 k4=>?_⟩;have c8:=c.trans b9;exact J _ _ c8 ⟨g8,_,rfl,by rw[zD,o];rfl,k4.tk (iQ (c8 _ _ U))⟩
    ·intro d m9 u l0 k5 b1;obtain⟨us,rfl,f3⟩:=Eo (by rw[k5,zqe,zqe,i3,l1]) b1;have l4:us.length=famD k:=by rw[nX f3,zqe,l1]
     have e4:=((R.trans d6).trans a8).trans u;have f8:=b6.trans u;refine⟨a9,c9,_,_,rfl,rfl,e4 _ _ e2,l0,by rw[zqe,zqe];exact yH (show C.length+us.length<=1000 by omega) ∅,λW h9=>?_⟩;have c:Same d (upd d W (.lst (C.map V.ref++us.map V.ref))):=Same.new h9;have e7:(upd d W (.lst (C.map V.ref++us.map V.ref))) W=some (.lst ((C++us).map V.ref)):=by rw[oQ,yV]
     generalize upd d W (.lst (C.map V.ref++us.map V.ref))=j6 at c e7;have a2:∀m∈srt.map (·.1)++(idM (famD k)).map λr=>((idM (famD k),r,1):Dd),lC (famD k) m/\oZ m∈srt.map (·.1)/\InF (frm k p L S Y) (oZ m):=λm n=>by
      rcases oA.mp n with h|h
      ·obtain⟨y,a,rfl⟩:=pS.mp h;have b:=Z y a;rw[b.rest];exact⟨b.fine,h,e0 y a⟩
      ·obtain⟨r,e8,rfl⟩:=pS.mp h;have X:r.length=famD k:=nM.2 r e8;rw[Mp X];exact⟨⟨nM,X,by show(0:Int)<1;decide,Mo,λz e=>zI (yZ (jQ r e8 z e) (∅:1<2^1)) (zX ∅ ∅),by show(1:Int)<_;decide⟩,f2,Bs okF⟩
     refine⟨false,W,C++us,_,k,p,L,S,Y,rfl,SqB.lst e7,Xa (Paired.mapP d5 λ_ _ z=>(z.up e4).up c) (Paired.mapP f3 λ_ _ z=>z.up c),ok,λm n=>⟨(a2 m n).1,(a2 m n).2.2⟩,by rw[zS,zqe,zqe,l1];omega,λg' d4 i9 d0 b9 h3 D h6=>?_⟩;have g9:∀s∈d4.map oZ,InF (frm k p L S Y) s:=λs h=>by
      obtain⟨m,n,rfl⟩:=pS.mp h;exact(a2 m (D.sub m n)).2.2
     have f7:=dL okF g9 192;have G:=Le okF c7 (N:=192) (zE _);refine j4 g' d4 i9 d0 (f8.trans (c.trans b9)) h3 (λx=>⟨λF=>?_,λF=>?_⟩) (by rw[D.pm.length_eq];exact yH f7.1 ∅) D.od ((D.pm.map _).nodup_iff.mpr bL)
     ·obtain⟨y,a,rfl⟩:=pS.mp F;refine(a0.map (·.1)).mem_iff.mpr (Mq G (λs h=>?_) y (D.pm.mem_iff.mp a));obtain⟨m,n,rfl⟩:=pS.mp h;exact(a0.map (·.1)).mem_iff.mp (a2 m (D.sub m n)).2.1
     ·have:=h6 x (xN _ F);obtain⟨y,a,rfl⟩:=pS.mp F;rw[(Z y a).rest]at this;exact this
section
variable {d:Nat} {T L:List Dd}
def coI(d:Nat)(T L:List Dd)(i:Nat):List Nat:=(List.range T.length).filter λj=>decide (∃x∈L,T[j]?=some (nD d x (T.getD i (oX d))))
def shN(d:Nat)(T L:List Dd):Nat->List (List Nat)
 |0=>[]
 |i+1=>if i∈(shN d T L i).flatten then shN d T L i else shN d T L i++[coI d T L i]
def shR(d:Nat)(T L:List Dd):List (List Nat):=shN d T L T.length
theorem kJ{i j:Nat}:j∈coI d T L i↔j<T.length/\∃x∈L,T[j]?=some (nD d x (T.getD i (oX d))):=by
 unfold coI;rw[List.mem_filter,pO,decide_eq_true_eq]
theorem gU{i:Nat}:(coI d T L i).Pairwise (· < ·):=List.Pairwise.filter _ List.pairwise_lt_range
structure Sub(d:Nat)(T L:List Dd):Prop where
 t:Grp d T
 l:Grp d L
 s:∀x∈L,x∈T
theorem at_D{i:Nat}(h:i<T.length):T[i]?=some (T.getD i (oX d))/\T.getD i (oX d)∈T:=by
 rw[zqc,zqd h];exact⟨rfl,xD h⟩
theorem Sub.self(h:Sub d T L){i:Nat}(hi:i<T.length):i∈coI d T L i:=by
 obtain⟨e,m⟩:=at_D (d:=d) hi;exact kJ.mpr ⟨hi,_,h.l.one,by rw[(gT h.t.dim (h.t.rs _ m)).1];exact e⟩
theorem Sub.same(h:Sub d T L){i j:Nat}(hi:i<T.length)(o:j∈coI d T L i):coI d T L j=coI d T L i:=by
 obtain⟨m,x,b,p⟩:=kJ.mp o;obtain⟨e1,c⟩:=at_D (d:=d) hi;obtain⟨l,r⟩:=at_D (d:=d) m;have g:T.getD j (oX d)=nD d x (T.getD i (oX d)):=zQ (l.symm.trans p);unfold coI;refine List.filter_congr λn _=>pN.mpr ⟨?_,?_⟩
 ·rintro⟨y,a,e⟩;refine⟨nD d y x,h.l.mul y a x b,?_⟩;rw[e,g,fU h.t.dim (h.l.rs y a) (h.l.rs x b) (h.t.rs _ c)]
 ·rintro⟨y,a,e⟩;obtain⟨z,f,q,k⟩:=h.l.inv x b;refine⟨nD d y z,h.l.mul y a z f,?_⟩;rw[e,g,fU h.t.dim (h.l.rs y a) (h.l.rs z f) ((h.t.rs _ (h.s x b)).step (h.t.rs _ c)),←fU h.t.dim (h.l.rs z f) (h.l.rs x b) (h.t.rs _ c),k,(gT h.t.dim (h.t.rs _ c)).1]
structure ShI(d:Nat)(T L:List Dd)(i:Nat)(R:List (List Nat)):Prop where
 of:∀r∈R,∃n,n<i/\r=coI d T L n/\r.head?=some n
 all:∀j,j<i->j∈R.flatten
 hd:R.Pairwise λr r'=>(∀a∈r,∀b∈r',a≠b)/\∀a b,r.head?=some a->r'.head?=some b->a<b
theorem fX(h:Sub d T L):∀{i:Nat},i<=T.length->ShI d T L i (shN d T L i)
 |0,_=>⟨λ_ h=>(by cases h),λ_ h=>absurd h (tN _),List.Pairwise.nil⟩
 | i+1,hi=>by
  have c:=fX h (i:=i) ⋯;unfold shN;split
  ·next q =>
   refine⟨λr hr=>?_,λj m=>?_,c.hd⟩
   ·obtain⟨n,g,e⟩:=c.of r hr;exact⟨n,⋯,e⟩
   ·rcases Nat.lt_succ_iff_lt_or_eq.mp m with z|rfl
    ·exact c.all j z
    ·exact q
  ·next q =>
   have p:(coI d T L i).head?=some i:=by
    have f:=h.self (L:=L) (show i<T.length by omega);have u:=gU (d:=d) (T:=T) (L:=L) (i:=i);cases e:coI d T L i with
    |nil=>rw[e]at f;cases f
    | cons a l =>
     rw[e]at u f;rcases xE.mp f with rfl|f
     ·rfl
     ·have y:=(pW.mp u).1 i f;have k:a∈coI d T L i:=by rw[e];exact .head _
      obtain⟨r,hr,C⟩:=oJ.mp (c.all a y);obtain⟨n,g,rfl,_⟩:=c.of r hr;refine absurd (oJ.mpr ⟨_,hr,?_⟩) q;rw[←h.same ⋯ C,h.same ⋯ k];exact h.self ⋯
   refine⟨λr hr=>?_,λj m=>?_,?_⟩
   ·rcases oA.mp hr with hr|hr
    ·obtain⟨n,g,e⟩:=c.of r hr;exact⟨n,⋯,e⟩
    ·rw[pY.mp hr];exact⟨i,uY i,rfl,p⟩
   ·rw[tJ,oA];rcases Nat.lt_succ_iff_lt_or_eq.mp m with z|rfl
    ·exact .inl (c.all j z)
    ·exact .inr (by simpa using h.self ⋯)
   ·refine oE.mpr ⟨c.hd,List.pairwise_singleton _ _,λr hr F D=>?_⟩;rw[pY.mp D];obtain⟨n,g,rfl,hh⟩:=c.of r hr;refine⟨λa k b x e=>q ?_,λa b v o=>?_⟩
    ·subst e;have:i∈coI d T L n:=by rw[←h.same ⋯ k,h.same ⋯ x];exact h.self ⋯
     exact oJ.mpr ⟨_,hr,this⟩
    ·rw[hh]at v;rw[p]at o;cases v;cases o;exact g
theorem Sub.idx(h:Sub d T L){i:Nat}(hi:i<T.length){x:Dd}(b:x∈L):∃j∈coI d T L i,T[j]?=some (nD d x (T.getD i (oX d))):=by
 obtain⟨e,m⟩:=at_D (d:=d) hi;obtain⟨j,a⟩:=yX (h.t.mul x (h.s x b) _ m);exact⟨j,kJ.mpr ⟨(zqa a).1,x,b,a⟩,a⟩
theorem Sub.perm(h:Sub d T L){i:Nat}(hi:i<T.length):((coI d T L i).map λj=>T.getD j (oX d)).Perm (L.map λx=>nD d x (T.getD i (oX d))):=by
 obtain⟨e,m⟩:=at_D (d:=d) hi;refine(tH ?_ ?_).mpr λy=>?_
 ·refine Br (gU.imp λF=>zY F) λa n b l q=>?_;have g:=(kJ.mp n).1;have o:=(kJ.mp l).1;have e1:=(at_D (d:=d) g).1;have v:=(at_D (d:=d) o).1;rw[q,←v]at e1;exact(uN g h.t.nd).mp e1
 ·refine Br h.l.nd λx c y p q=>?_;obtain⟨z,C,u,I⟩:=h.t.inv _ m;have k:∀x∈L,nD d (nD d x (T.getD i (oX d))) z=x:=λx c=>by rw[fU h.t.dim (h.l.rs x c) (h.t.rs _ m) (h.t.rs z C),u,(gT h.t.dim (h.l.rs x c)).2]
  rw[←k x c,←k y p,q]
 ·rw[pS,pS];constructor
  ·rintro⟨j,f,rfl⟩;obtain⟨D,x,c,G⟩:=kJ.mp f;exact⟨x,c,(zQ ((at_D (d:=d) D).1.symm.trans G)).symm⟩
  ·rintro⟨x,c,rfl⟩;obtain⟨j,f,r⟩:=h.idx hi c;exact⟨j,f,zQ ((at_D (d:=d) (kJ.mp f).1).1.symm.trans r)⟩
theorem Sub.len(h:Sub d T L){i:Nat}(hi:i<T.length):(coI d T L i).length=L.length:=by
 have:=(h.perm hi).length_eq
 rwa[zqe,zqe]at this
theorem Yz{R:List (List Nat)}(e:∀r∈R,r.Nodup)(j:R.Pairwise λr c=>∀a∈r,∀b∈c,a≠b):R.flatten.Nodup:=by
 induction R with
 |nil=>exact sG
 |cons r R i =>
  rw[vP];have p:=pW.mp j;refine List.nodup_append.mpr ⟨e r (.head _),i (λx k=>e x (.tail _ k)) p.2,λa g b f=>?_⟩;obtain⟨c,l,m⟩:=oJ.mp f;exact p.1 c l a g b m
theorem Sub.flat(h:Sub d T L):(shR d T L).flatten.Perm (List.range T.length):=by
 have k:=fX h (zE T.length);refine(tH ?_ List.nodup_range).mpr λj=>?_
 ·refine Yz (λr hr=>?_) (k.hd.imp λz=>z.1);obtain⟨n,_,e,_⟩:=k.of r hr;rw[e];exact gU.imp λb=>zY b
 ·rw[pO];refine⟨λa=>?_,k.all j⟩;obtain⟨r,hr,a⟩:=oJ.mp a;obtain⟨n,_,rfl,_⟩:=k.of r hr;exact(kJ.mp a).1
theorem Mn{R:List (List Nat)}{c:Nat}(h:∀r∈R,r.length=c):R.flatten.length=R.length*c:=by
 induction R with
 |nil=>simp
 |cons r R a=>rw[vP,zS,a λx b=>h x (.tail _ b),h r (.head _),zW,sF,pF]
theorem Sub.count(h:Sub d T L):(shR d T L).length*L.length=T.length:=by
 have k:=fX h (zE T.length);rw[←Mn (R:=shR d T L) (c:=L.length) λr hr=>by
  obtain⟨n,a,e,_⟩:=k.of r hr;rw[e];exact h.len a]
 have:=h.flat.length_eq
 rwa[vO]at this
theorem Yy(h:Grp d T):shR d T T=[List.range T.length]:=by
 have all:∀{i},i<T.length->coI d T T i=List.range T.length:=λ{i}hi=>by
  obtain⟨e,m⟩:=at_D (d:=d) hi;obtain⟨z,b,p,f⟩:=h.inv _ m;refine List.filter_eq_self.mpr λj o=>zL ?_;have n:=pO.mp o;obtain⟨l,a⟩:=at_D (d:=d) n;refine⟨nD d (T.getD j (oX d)) z,h.mul _ a z b,?_⟩;rw[l,fU h.dim (h.rs _ a) (h.rs z b) (h.rs _ m),f,(gT h.dim (h.rs _ a)).2]
 have k:0<T.length:=List.length_pos_of_mem h.one;have go:∀i,i+1<=T.length->shN d T T (i+1)=[List.range T.length]:=by
  intro i
  induction i with
  |zero =>
   intro _;show(if 0∈([]:List (List Nat)).flatten then _ else[]++[coI d T T 0])=_;rw[zF (by simp),all k];rfl
  |succ i g =>
   intro hi;unfold shN;rw[g ⋯,zG (by simp;omega)]
 obtain⟨m,c⟩:∃m,T.length=m+1:=⟨T.length-1,⋯⟩;unfold shR;rw[c,go m ⋯,c]
end
structure GK(K:Frag)(t:Adr)(H:Hp)(g:Addr)(d:Nat)(L:List Dd):Prop where
 f:∃(ms:List Dd)(srt:Tb),GrpF K t H g d ms srt/\srt.map (·.1)=L
 g:Grp d L
 mb:∀x∈L,MbOk d x
 len:L.length<=200
 od:L.Pairwise λx y=>lx (fl (dat y)) (fl (dat x))=false
theorem GK.up{H H':Hp}{g:Addr}{d:Nat}{L:List Dd}(h:GK K t H g d L)(s:Same H H'):GK K t H' g d L:=by
 obtain⟨⟨ms,srt,b,e⟩,a,c,i,f⟩:=h;exact⟨⟨ms,srt,b.up s,e⟩,a,c,i,f⟩
theorem Mm{y:Dd}:∀{srt:Tb}{i n:Nat},(srt.map (·.1)).Nodup->(srt.map (·.1))[i]?=some y->vT (numT srt n) (dat y)=some (.int ((n+i:Nat):Int))
 |[],_,_,_,e=>by cases e
 |z:: srt,0,n,_,e=>by
  have e:z.1=y:=by simpa using e
  show vT ((dat z.1,V.int ((n:Nat):Int)):: numT srt (n+1)) (dat y)=_;rw[eK (by rw[e])];rfl
 |z:: srt,i+1,n,c,e=>by
  have a:=rK.mp c;have b:(srt.map (·.1))[i]?=some y:=by simpa using e
  show vT ((dat z.1,V.int ((n:Nat):Int)):: numT srt (n+1)) (dat y)=_;have d:z.1≠y:=λq=>a.1 (by show z.1∈_;rw[q];exact zqb b);rw[fL (λq=>d (hJ.mp q)),Mm a.2 b,show n+1+i=n+(i+1) by omega]
theorem Ml{H:Hp}{g p:Addr}{d:Nat}{L:List Dd}{x:Dd}{Q:VK}{E:XK}(h:GK K t H g d L)(k:DdS K H p x)(l1:x.1.length<=100)(l2:x.2.1.length<=100)(f:0<x.2.2)(k1:∀(i:Nat) H',Same H H'->L[i]?=some (oZ x)->Q (.int i) H')(k2:∀H',Same H H'->oZ x∉L->Q .non H'):∃a fs,H g=some (.ins t.a_3 a fs)/\fs.lookup (Str.ofString "at")=none/\sp_f K t [.ref g,.ref p] H Q E:=by
 obtain⟨ms,srt,b,rfl⟩:=h.f;obtain⟨a,o,lo,n,m,l,_⟩:=id b;refine⟨a,_,l,rfl,g,p,d,ms,srt,x,rfl,b,k,l1,l2,f,λH' s=>?_⟩
 by_cases z:oZ x∈srt.map (·.1)
 ·obtain⟨i,e⟩:=yX z;rw[Mm h.g.nd e,show 0+i=i by omega];exact k1 i H' s e
 ·rcases Bp (y:=oZ x) (srt:=srt) (n:=0) with⟨_,c⟩|⟨j,_⟩
  ·rw[c];exact k2 H' s z
  ·exact absurd j z
theorem Yx{b c e:Type}{R:b->e->Prop}{f:c->e}{d:List b}{xs:List c}(h:Paired (λp x=>R p (f x)) d xs):Paired R d (xs.map f):=by
 induction h with
 |nil=>exact .nil
 |cons a _ g=>exact .cons a g
theorem gW{H:Hp}{g:Addr}{d:Nat}{L:List Dd}{Q:VK}{E:XK}(h:GK K t H g d L)(k:∀l a H',Same H H'->H l=none->H' l=some (.lst (a.map V.ref))->Paired (λp x=>Dt K H' (.ref p) (dat x)) a L->Q (.ref l) H'):∃b fs,H g=some (.ins t.a_3 b fs)/\fs.lookup (Str.ofString "members")=none/\sp_1 K t [.ref g] H Q E:=by
 obtain⟨ms,srt,c,rfl⟩:=h.f;obtain⟨b,o,lo,m,n,j,_⟩:=id c;exact⟨b,_,j,rfl,g,d,ms,srt,rfl,c,λl a H' s f e i=>k l a H' s f e (Yx (f:=λx:Dd×List Nat=>x.1) (R:=λp y=>Dt K H' (.ref p) (dat y)) i)⟩
theorem Bo{H:Hp}{g:Addr}{d:Nat}{L:List Dd}{Q:VK}{E:XK}(h:GK K t H g d L)(k:Q (.int d) H):∃a fs,H g=some (.ins t.a_3 a fs)/\fs.lookup (Str.ofString "axes")=none/\sp_6 K t [.ref g] H Q E:=by
 obtain⟨ms,srt,b,rfl⟩:=h.f;obtain⟨a,i,lo,f,e,c,_⟩:=id b;exact⟨a,_,c,rfl,g,d,ms,srt,rfl,b,k⟩
def sp_a(K:Frag)(t:Adr):Sp:=λvs H Q _=>E5 λ(g h:Addr)(d:Nat)(L M:List Dd)=>A4 (vs=[.ref g,.ref h]) (GK K t H g d L) (GK K t H h d M) (Q .non H)
theorem ok_a(T:Txt K mg t):FnOk P w K mg base CX0 3 t.a_a t.d_a pB' (sp_a K t):=by
 have a:=@ok_6 P w K mg base t T;apply T.F_a.ok sc_a
 ·obtain⟨g,h,d,L,M,rfl,c,hh,b⟩:=h;refine⟨_,(oP (nT (nL kS (kA (C:=t.a_3) (pq 0) T.cl_3 T.me_6 a hr.mo T.b_6 .nil mK) (kA (C:=t.a_3) (pq 1) T.cl_3 T.me_6 a hr.mo T.b_6 .nil mK) (nJ _))
   (oP jL)
   nS)),?_⟩
  show tIfS _ _ _ _ [some (.ref g),some (.ref h)] H;ext;simp only[mU];ext;refine Bo c (Bo hh ?_)
  try ext
  exact b
def sp_1p(K:Frag)(t:Adr):Sp:=λvs H Q _=>E5 λ(g h:Addr)(d:Nat)(L M:List Dd)=>A4 (vs=[.ref g,.ref h]) (GK K t H g d L) (GK K t H h d M) (∀v H',Same H H'->((∀x∈L,x∈M)/\v=.non\/(∃x∈L,x∉M)/\∃n:Nat,v=.int n)->Q v H')
theorem ok_1p(T:Txt K mg t):FnOk P w K mg base CX0 4 t.a_1p t.d_1p pB' (sp_1p K t):=by
 have W:=@ok_a P w K mg base t T;have S:=@ok_1 P w K mg base t T;have a0:=@ok_f P w K mg base t T;apply T.F_1p.ok sc_1p
 ·obtain⟨g,h,d,L,M,rfl,c,hh,G⟩:=h;have a3:=c.g.dim;refine⟨_,(oN (kR (oS W hr.mo T.F_a (oK (pq 0) (oK (pq 1) oM))))
   (oN (lF yD rfl (eI rfl T.z_enumerate (oK (kA (C:=t.a_3) (pq 0) T.cl_3 T.me_1 S hr.mo T.b_1 .nil mK) oM)) (lY rfl (nU (nN (i:=2) sc_1p.nd rfl (Or.inl rfl)) (nU (nN (i:=3) sc_1p.nd rfl (Or.inl rfl)) lW)))
   (oP (nT (nL Bj (aC (C:=t.a_3) (pq 1) T.cl_3 T.me_f a0 hr.mo T.b_f .nil mK (oK (pq 3) oM)) dP (nJ _))
   (oP (nA (pq 2)))
   nS)))
   (oP (nA dP)))),?_⟩
  show tSeq _ _ _ [some (.ref g),some (.ref h),none,none] H;right;refine⟨g,h,d,L,M,rfl,c,hh,?_⟩;subst e1;refine st λN1 e1=>lH λB eB=>?_;simp only[fI];ext;simp only[mU];ext;refine gW c λl a4 a1 k a6 hl C=>?_;refine⟨false,l,rfl,⟨_,SqB.lst hl⟩,?_⟩;refine aU (g:=gTup K 2 (nV (oU 2) (nV (oU 3) gNil))) (tb:=B) (λi e H'=>∃(v2 v3:Option V),e=[some (.ref g),some (.ref h),v2,v3]/\Same a1 H'/\∀j x,j<i->L[j]?=some x->x∈M)
   ⟨none,none,rfl,Same.refl _,λj x h=>absurd h (tN j)⟩ (λi e H' _⟨_,_,_,s,_⟩=>SqB.lst (s _ _ hl)) ?_ ?_
  ·rintro i y p e I N ⟨v2,v3,rfl,f,u⟩ R;obtain⟨q,a2,rfl⟩:=mY N;obtain⟨x,m,X⟩:=mZ C a2;have O:=Same.new (o:=.tup [.int (i:Int),.ref q]) R;refine⟨p,[.int i,.ref q],rfl,SqT.of oQ,rfl,_,[.ref q],rfl,_,[],rfl,rfl,?_⟩;have b:=f.trans O;generalize upd I p (.tup [.int (i:Int),.ref q])=Z at*
   have a:=c.mb x (zqb m);subst eB;show tIfS _ _ _ _ [some (.ref g),some (.ref h),some (.int i),some (.ref q)] Z;ext;simp only[mU];ext;refine Ml ((hh.up k).up b) ((hZ X).up b) (by rw[a.sq.1];omega) (by rw[a.len];omega) a.pos (λn U o v=>?_) (λU o F=>?_)
   ·rw[a.rest]at v
    try ext
    rw[zN (by simp)];refine iteF ⟨b.trans o,λj z a5 r=>?_⟩
    by_cases J:j=i
    ·subst J;rw[m]at r;cases r;exact zqb v
    ·exact u j z ⋯ r
   ·rw[a.rest]at F
    try ext
    rw[zL trivial];refine iteT ?_
    try ext
    exact G _ _ (k.trans (b.trans o)) (.inr ⟨⟨x,zqb m,F⟩,i,rfl⟩)
  ·rintro e I ⟨v2,v3,rfl,f,u⟩;subst e1
   try ext
   refine G _ _ (k.trans f) (.inl ⟨λx a=>?_,rfl⟩);obtain⟨j,D⟩:=yX a;refine u j x ?_ D;have Y:=(zqa D).1;rw[zqe,nX C];exact Y
def sp_j(K:Frag)(t:Adr):Sp:=λvs H Q E=>E5 λ(g h:Addr)(d:Nat)(L M:List Dd)=>A5 (vs=[.ref g,.ref h]) (GK K t H g d L) (GK K t H h d M) (((∃x∈M,x∉L)->∀H',Same H H'->E (.ref t.a_1q) none H')) (((∀x∈M,x∈L)->∀H',Same H H'->Q .non H'))
theorem ok_j(T:Txt K mg t):FnOk P w K mg base (CX1 P w) 5 t.a_j t.d_j pz' (sp_j K t):=by
 have k:=@ok_1p P w K mg base t T;have b:=@ok_6 P w K mg base t T;refine T.F_j.okX sc_j (λvs H Q E h=>?_) (λcdv A outer s H vs Q E hr h=>?_)
 ·obtain⟨g,h,d,L,M,rfl,_⟩:=h;rfl
 ·obtain⟨g,h,d,L,M,rfl,c,hh,i,j⟩:=h;refine⟨_,(oP (nT (PW.pt (iC (nL kS (kA (C:=t.a_3) (pq 1) T.cl_3 T.me_6 b hr.mo T.b_6 .nil mK) (kA (C:=t.a_3) (pq 0) T.cl_3 T.me_6 b hr.mo T.b_6 .nil mK) (nJ _)) (iU (nL Nc (oS k hr.mo T.F_1p (oK (pq 1) (oK (pq 0) oM))) dP (nJ _)))))
   (oP (fG rfl fF rfl T.m_1q T.x_1q xU (oK gZ oM)))
   nS)),?_⟩
  show tIfS _ _ _ _ [some (.ref g),some (.ref h)] H;ext;simp only[mU];ext;refine Bo hh (Bo c ?_)
  try ext
  refine⟨h,g,d,M,L,rfl,hh,c,λv f e l=>?_⟩;rcases l with⟨a,rfl⟩|⟨a,n,rfl⟩
  ·try ext
   exact j a f e
  ·try ext
   exact⟨∅,i a f e⟩
section
variable {d:Nat} {T L:List Dd}
theorem Yw(h:Sub d T L){i:Nat}(hi:i<T.length){N:List Nat}(hl:N.length=L.length)(l:∀j k:Nat,N[j]?=some k->∃x,L[j]?=some x/\T[k]?=some (nD d x (T.getD i (oX d)))):N.Perm (coI d T L i):=by
 have lt:∀k∈N,k<T.length:=λk p=>by
  obtain⟨j,e⟩:=yX p;obtain⟨x,_,c⟩:=l j k e;exact(zqa c).1
 have inj:∀a b,a<T.length->b<T.length->T.getD a (oX d)=T.getD b (oX d)->a=b:=λa b f m e=>by
  have e1:=(at_D (d:=d) f).1;have c:=(at_D (d:=d) m).1;rw[←e]at c;have q:T[a]?=T[b]?:=by rw[e1,c]
  exact(uN f h.t.nd).mp q
 have u:N.map (λk=>T.getD k (oX d))=L.map λx=>nD d x (T.getD i (oX d)):=by
  refine qJ λj=>?_;rw[zD,zD];cases g:N[j]? with
  |none =>
   have:L[j]?=none:=by rw[List.getElem?_eq_none_iff]at g ⊢;omega
   rw[this];rfl
  |some k =>
   obtain⟨x,e1,c⟩:=l j k g;rw[e1];show some (T.getD k (oX d))=some _;rw[zqc,c];rfl
 have v:((coI d T L i).map λj=>T.getD j (oX d)).Nodup:=by
  refine pZ.mpr ((gU (d:=d) (T:=T) (L:=L) (i:=i)).imp_of_mem λ{a b}f m D e=>?_);have:=inj a b (kJ.mp f).1 (kJ.mp m).1 e;omega
 have C:(N.map λk=>T.getD k (oX d)).Nodup:=by
  rw[u];exact(h.perm hi).nodup_iff.mp v
 have o:N.Nodup:=(pZ.mp C).imp λh e=>h (by rw[e]);have z:(coI d T L i).Nodup:=gU.imp λh e=>⋯
 refine(tH o z).mpr λa=>⟨λf=>?_,λf=>?_⟩
 ·obtain⟨j,e⟩:=yX f;obtain⟨x,e1,c⟩:=l j a e;exact kJ.mpr ⟨lt a f,x,zqb e1,c⟩
 ·obtain⟨r,x,y,e⟩:=kJ.mp f;obtain⟨j,n⟩:=yX y;have G:=(zqa n).1;obtain⟨k,g⟩:∃k,N[j]?=some k:=⟨_,zqd ⋯⟩;obtain⟨F,e1,c⟩:=l j k g;rw[n]at e1;cases e1;have:a=k:=(uN r h.t.nd).mp (by rw[e,c]);rw[this];exact zqb g
theorem Mj{i:Nat}{N:List Nat}{ns:LI'}(e:N.Perm (coI d T L i))(p:ns.Perm (N.map λn=>((n:Nat):Int)))(s:ns.Pairwise (·<=·)):ns=(coI d T L i).map λn=>((n:Nat):Int):=by
 refine sD (le:=λa b=>a<=b) (λa b _ _ c f=>Int.le_antisymm c f) s (pZ.mpr (gU.imp λh=>⋯)) (p.trans (e.map _))
theorem Fp{i:Nat}:∀{F:List Nat},(i∈F/\vI (F.map λn=>(Sum.inl ((n:Nat):Int),V.bl true)) i=some (.bl true))\/(i∉F/\vI (F.map λn=>(Sum.inl ((n:Nat):Int),V.bl true)) i=none)
 |[]=>.inr ⟨by simp,rfl⟩
 | n:: F=>by
  unfold vI;rw[zK,vL]
  by_cases z:n=i
  ·refine .inl ⟨by rw[z];exact .head _,?_⟩;rw[z];simp
  ·rcases Fp (i:=i) (F:=F) with⟨b,a⟩|⟨b,a⟩
   ·refine .inl ⟨.tail _ b,?_⟩;have:¬ ((n:Nat):Int)=(i:Nat):=⋯
    simp only[Sum.inl.injEq,this,decide_false];exact a
   ·refine .inr ⟨λq=>by rcases xE.mp q with q|q;exact z q.symm;exact b q,?_⟩;have:¬ ((n:Nat):Int)=(i:Nat):=⋯
    simp only[Sum.inl.injEq,this,decide_false];exact a
end
def LsI(H:Hp)(l:Addr)(R:List (List Nat)):Prop:=∃rs:LA,H l=some (.lst (rs.map V.ref))/\Paired (λp r=>H p=some (.lst (r.map λn=>V.int (n:Nat)))) rs R
def sp_u(K:Frag)(t:Adr):Sp:=λvs H Q E=>E5 λ(g h:Addr)(d:Nat)(L M:List Dd)=>A5 (vs=[.ref g,.ref h]) (GK K t H g d L) (GK K t H h d M) (((∃x∈M,x∉L)->∀H',Same H H'->E (.ref t.a_1q) none H')) (((∀x∈M,x∈L)->∀l H',Same H H'->H l=none->LsI H' l (shR d L M)->Q (.ref l) H'))
structure ShV(K:Frag)(H:Hp)(d:Nat)(L M:List Dd)(g h l a ml:Addr)(os:LA)(i:Nat)(H':Hp):Prop where
 s:Same H H'
 m:H' ml=some (.lst (os.map V.ref))
 o:Paired (λp x=>Dt K H' (.ref p) (dat x)) os L
 r:∃rs:LA,H' l=some (.lst (rs.map V.ref))/\Paired (λp r=>H' p=some (.lst (r.map λn=>V.int (n:Nat)))/\p≠l/\p≠a) rs (shN d L M i)
 k:H' a=some (.dK ((shN d L M i).flatten.map λn=>(Sum.inl ((n:Nat):Int),V.bl true)))
theorem Mi{H H':Hp}{a:Addr}(s:Same H H')(h:H' a=none):H a=none:=by
 cases z:H a with
 |none=>rfl
 |some o=>rw[s _ _ z]at h;cases h
theorem Mh:∀{ys:List V}{R:Nat->Nat->Prop},(∀j y,ys[j]?=some y->∃k:Nat,y=V.int k/\R j k)->∃N:List Nat,ys=N.map (λn=>V.int (n:Nat))/\∀j k:Nat,N[j]?=some k->R j k
 |[],_,_=>⟨[],rfl,λj k e=>by cases e⟩
 |y:: ys,R,h=>by
  obtain⟨k,rfl,a⟩:=h 0 y rfl;obtain⟨N,rfl,b⟩:=Mh (ys:=ys) (R:=λj k=>R (j+1) k) λj y e=>h (j+1) y e;refine⟨k:: N,rfl,λj c e=>?_⟩;cases j with
  |zero=>cases e;exact a
  |succ j=>exact b j c e
theorem bU{d:Nat}{T L:List Dd}:∀{i:Nat},(shN d T L i).length<=i
 |0=>zE _
 |i+1=>by
  have a:=bU (d:=d) (T:=T) (L:=L) (i:=i)
  by_cases z:i∈(shN d T L i).flatten
  ·rw[show shN d T L (i+1)=shN d T L i from zG z];omega
  ·rw[show shN d T L (i+1)=shN d T L i++[coI d T L i] from zF z,zS,List.length_singleton];omega
theorem Yv{d:Nat}{T L:List Dd}(h:Sub d T L){i:Nat}(hi:i<T.length)(f:i∉(shN d T L i).flatten){a:Nat}(e:a∈coI d T L i):a∉(shN d T L i).flatten:=λq=>by
 have b:=(fX h (i:=i+1) hi).hd;rw[show shN d T L (i+1)=shN d T L i++[coI d T L i] from zF f]at b;obtain⟨r,hr,c⟩:=oJ.mp q;exact((oE.mp b).2.2 r hr _ (.head _)).1 a c a e rfl
theorem Yu{d:Nat}{T L:List Dd}(h:Sub d T L){i:Nat}(hi:i<=T.length):(shN d T L i).flatten.length<=i*L.length:=by
 rw[Mn (c:=L.length) λr hr=>by
  obtain⟨n,a,b,_⟩:=(fX h hi).of r hr;rw[b];exact h.len (zI a hi)]
 exact wE _ bU
theorem Mg{c b:Type}{R:c->b->Prop}{xs:List c}{ys:List b}(h:Paired R xs ys){x:c}{y:b}(e:R x y):Paired R (xs++[x]) (ys++[y]):=by
 induction h with
 |nil=>exact .cons e .nil
 |cons a _ d=>exact .cons a d
theorem ok_u(T:Txt K mg t):FnOk P w K mg base (CX1 P w) 6 t.a_u t.d_u pz' (sp_u K t):=by
 have h1:=@ok_j P w K mg base t T;have d5:=@ok_1 P w K mg base t T;have j6:=@ok_f P w K mg base t T;have j4:=@ok_1i P w K mg base t T;refine T.F_u.okX sc_u (λvs H Q E h=>?_) (λcdv A outer s H vs Q E hr h=>?_)
 ·obtain⟨g,h,d,L,M,rfl,_⟩:=h;rfl
 ·obtain⟨g,h,d,L,M,rfl,F,hh,l0,j2⟩:=h;have h5:=hr.units;have l9:=F.g.dim;refine⟨_,(oN (kR (Gb h1 hr.mo rfl T.F_j.m T.F_j.kp T.F_j.b .nil Pj (oK (pq 0) (oK (pq 1) oM))))
   (oN (oY (i:=2) sc_u.nd rfl (Or.inl rfl) (lO oM))
   (oN (oY (i:=3) sc_u.nd rfl (Or.inl rfl) Uv)
   (oN (PS.nox (lF yD rfl (eI rfl T.z_enumerate (oK (kA (C:=t.a_3) (pq 0) T.cl_3 T.me_1 d5 hr.mo T.b_1 .nil mK) oM)) (lY rfl (nU (nN (i:=4) sc_u.nd rfl (Or.inl rfl)) (nU (nN (i:=5) sc_u.nd rfl (Or.inr rfl)) lW)))
   (oP (nT (nL Uq (pq 4) (pq 3) rfl)
   (oN (oY (i:=6) sc_u.nd rfl (Or.inl rfl) (mV (Dk (N:=200) bD h5) rfl T.z_sorted (nofun) (oK (nR (sc:=oO Ak) (N:=N_u) (fr:=[("group",0),("member",5)]) (te:=(mU t.a_3 "at" (sp_f K t) [] E0 (tVar 1) (oV (mC (sp_1i K) [] E0 (oV (tVar 0) (oV (tVar 2) tNil))) tNil))) rfl rfl (nofun) rfl (nofun) (nH (kA (C:=t.a_3) (pq 1) T.cl_3 T.me_1 d5 hr.mo T.b_1 .nil mK)) (λ_ _ _ l8=>(aC (C:=t.a_3) (pv 1) T.cl_3 T.me_f j6 hr.mo T.b_f .nil mK (oK (oS j4 hr.mo T.F_1i (oK (pv 0) (oK (pv 2) oM))) oM)))) oM)))
   (oN (kR (aE uC vV vU dX (pq 2) (oK (pq 6) oM)))
   (oP (PS.nox (lF yD rfl (nH (pq 6)) (nN (i:=7) sc_u.nd rfl (Or.inl rfl))
   (oP (iD kQ (bX (pq 3) (pq 7) Uu))))))))
   nS))))
   (oP (nA (pq 2))))))),?_⟩
  show tSeq _ _ _ [some (.ref g),some (.ref h),none,none,none,none,none,none] H;right;refine⟨g,h,d,L,M,rfl,F,hh,l0,λd1 O c8=>?_⟩;have sub:Sub d L M:=⟨F.g,hh.g,d1⟩;left;refine⟨by show 0<=sizeLine;decide,λl hl=>?_⟩;subst e1;refine st λN1 e1=>?_;simp only[Jq];ext;intro a b3;have c7:a≠l:=λz=>by rw[z,oQ]at b3;cases b3
  have e3:H l=none:=Mi c8 hl;have f1:Same O (upd O l (.lst [])):=Same.new hl;have i3:H a=none:=Mi (c8.trans f1) b3;have d4:Same (upd O l (.lst [])) (upd (upd O l (.lst [])) a (.dK [])):=Same.new b3;have f6:(upd (upd O l (.lst [])) a (.dK [])) l=some (.lst (([]:LA).map V.ref)):=d4 _ _ oQ;have e4:(upd (upd O l (.lst [])) a (.dK [])) a=some (.dK []):=oQ;have d6:=c8.trans (f1.trans d4);generalize upd (upd O l (.lst [])) a (.dK [])=n1 at*
  subst e1;refine st λN1 e1=>lH λB eB=>?_;simp only[fI];ext;simp only[mU];ext;refine gW (F.up d6) λZ b4 l7 c3 b1 f5 f3=>?_;have j8:Z≠l:=λz=>by rw[z,f6]at b1;cases b1
  have h8:Z≠a:=λz=>by rw[z,e4]at b1;cases b1
  refine⟨false,Z,rfl,⟨_,SqB.lst f5⟩,?_⟩;refine aU (g:=gTup K 2 (nV (oU 4) (nV (oU 5) gNil))) (tb:=B) (λi G H'=>∃(c2 c9 b8 u:Option V),G=[some (.ref g),some (.ref h),some (.ref l),some (.ref a),c2,c9,b8,u]/\ShV K H d L M g h l a Z b4 i H')
   ⟨none,none,none,none,rfl,d6.trans c3,f5,f3,⟨[],c3 _ _ f6,.nil⟩,c3 _ _ e4⟩ (λi G H' _⟨_,_,_,_,_,h⟩=>SqB.lst h.m) ?_ ?_
  ·rintro i y p G c1 a7 ⟨c2,c9,b8,u,rfl,a4⟩ j5;obtain⟨q,e2,rfl⟩:=mY a7;obtain⟨x,a2,_⟩:=mZ a4.o e2;have hi:i<L.length:=(zqa a2).1;have l4:L.getD i (oX d)=x:=by rw[zqc,a2];rfl
   have g3:=Same.new (o:=.tup [.int (i:Int),.ref q]) j5;refine⟨p,[.int i,.ref q],rfl,SqT.of oQ,rfl,_,[.ref q],rfl,_,[],rfl,rfl,?_⟩;have up:∀{a1 c0:Hp}{n:Nat},ShV K H d L M g h l a Z b4 n a1->Same a1 c0->ShV K H d L M g h l a Z b4 n c0:=λv s=>by
    obtain⟨m,W,R⟩:=v.r;exact⟨v.s.trans s,s _ _ v.m,Paired.mapP v.o λ_ z h=>kE (mL s) 4 (kI z) h,⟨m,s _ _ W,Paired.mapP R λ_ _⟨Y,S⟩=>⟨s _ _ Y,S⟩⟩,s _ _ v.k⟩
   have a5:=up a4 g3;generalize upd c1 p (.tup [.int (i:Int),.ref q])=a1 at*
   subst eB;show tIfS _ _ _ _ [some (.ref g),some (.ref h),some (.ref l),some (.ref a),some (.int i),some (.ref q),b8,u] a1;ext;refine⟨a,_,i,rfl,rfl,a5.k,?_⟩;rcases Fp (i:=i) (F:=(shN d L M i).flatten) with⟨b7,b2⟩|⟨b7,b2⟩
   ·rw[b2]
    try ext
    have e:shN d L M (i+1)=shN d L M i:=zG b7;obtain⟨i2,h9,i8,k8,j1⟩:=a5;exact⟨i2,h9,i8,by rw[e];exact k8,by rw[e];exact j1⟩
   rw[b2]
   try ext
   refine iteT ?_;have e:shN d L M (i+1)=shN d L M i++[coI d L M i]:=zF b7;have i4:DdS K a1 q x:=by
    obtain⟨m4,e0,j0⟩:=mZ a5.o e2;rw[a2]at e0;cases e0;exact hZ j0
   have i7:=F.mb x (zqb a2);refine nF λB eB=>?_;simp only[iSeq,mU];ext;refine gW (hh.up a5.s) λpl ps c0 f8 m9 f2 f7=>?_;have b9:=up a5 f8;have g7:ps.length=M.length:=nX f7;have m5:=hh.len;refine⟨false,pl,rfl,⟨_,SqB.lst f2⟩,λi6 h4=>?_⟩;refine nO (λj y _=>∃k:Nat,y=V.int k/\∃z,M[j]?=some z/\L[k]?=some (nD d z (L.getD i (oX d)))) h4 (SqB.lst f2) (by rw[zqe];omega) (λ_ _ _ _ r _=>r) ?_ ?_
   ·intro j y e9 zs i1 a0 m1 d7 f9;obtain⟨e6,h0,rfl⟩:=mY i1;obtain⟨z,c6,c4⟩:=mZ f7 h0;have g0:=hh.mb z (zqb c6);have f4:=g0.fine;have a3:=i7.fine;subst eB;show mU _ _ _ _ _ _ _ [some (.ref e6),some (.ref g),some (.ref q)] e9 d7;simp only[mU];ext;obtain⟨ms,srt,k9,m3⟩:=(F.up (b9.s.trans a0)).f;obtain⟨g1,m0,lo,m6,m7,i5,_⟩:=id k9;refine⟨g1,_,i5,rfl,?_⟩;refine⟨e6,q,_,_,_,_,_,_,d,rfl,(hZ c4).up a0,(i4.up f8).up a0,f4,a3,⋯,⋯,λr U b6 k2=>?_⟩;have h6:DdAt K U r (behD d z x):=k2;have l1:(behD d z x).1.length<=100:=by have:=(a3.sq.mul (B:=z.1)).1;show(mulM d x.1 z.1).length<=100;omega
    have l2:(behD d z x).2.1.length<=100:=by
     show(redT _ (movT _ _ _ _ _)).length<=100;unfold redT;rw[zqe,Fu a3.sq a3.len];omega
    obtain⟨_,_,_,_,l5⟩:=Ml (E:=E0) (Q:=d7) (F.up (b9.s.trans (a0.trans b6))) (mX.s h6) l1 l2 (cV _ (by have:=xF a3.pos f4.pos;omega)) (λn C d8 I=>f9 _ _ (b6.trans d8) ⟨n,rfl,z,c6,by rw[l4];exact I⟩) (λC d8 g8=>absurd (F.g.mul z (d1 z (zqb c6)) x (zqb a2)) g8);exact l5
   intro e9 ys a0 k1 d9 g9;obtain⟨N,rfl,h2⟩:=Mh (R:=λj k=>∃z,M[j]?=some z/\L[k]?=some (nD d z (L.getD i (oX d)))) g9;have j9:N.length=M.length:=by rw[zqe,zqe,g7]at d9;exact d9
   have k4:=Yw sub hi j9 h2;have d2:=up b9 a0;refine⟨i6,N.map λn=>((n:Nat):Int),rfl,by rw[zqe];omega,SqL.of (by rw[k1,yI];rfl),λf ns U b6 a8 e8 l3 j3=>?_⟩;have I:=Mj k4 l3 j3;subst I;have X:=up d2 b6;obtain⟨m,W,R⟩:=X.r;have d0:f≠l:=λz=>by obtain⟨_,k3,_⟩:=d2.r;rw[z,k3]at a8;cases a8
   have e7:f≠a:=λz=>by rw[z,d2.k]at a8;cases a8
   have m8:=F.len;have h7:m.length<=200:=by
    have Y:=nX R;have S:=bU (d:=d) (T:=L) (L:=M) (i:=i);omega
   refine⟨tyL W,l,_,_,rfl,rfl,W,by rw[zqe];exact yZ h7 ∅,?_⟩;have j7:(upd U l (.lst (m.map V.ref++[V.ref f]))) l=some (.lst ((m++[f]).map V.ref)):=by rw[oQ,yV];rfl
   have J:∀c,c≠l->(upd U l (.lst (m.map V.ref++[V.ref f]))) c=U c:=λc D=>nC D;generalize upd U l (.lst (m.map V.ref++[V.ref f]))=C at*
   have g4:TK K U C:=TK.off W (λ_ z=>by cases z) (λ_ _ z=>by cases z) J;have k5:Paired (λp r=>C p=some (.lst (r.map λn=>V.int (n:Nat)))/\p≠l/\p≠a) (m++[f]) (shN d L M (i+1)):=by
    rw[e];refine Mg (Paired.mapP R λ_ _⟨Y,S,b5⟩=>⟨by rw[J _ S];exact Y,S,b5⟩) ⟨by rw[J _ d0,e8,yI];rfl,d0,e7⟩
   show tFor _ _ _ _ [some (.ref g),some (.ref h),some (.ref l),some (.ref a),some (.int i),some (.ref q),some (.ref f),u] C;refine lH λB eB=>?_;simp only[iSeq];ext;have e5:C f=some (.lst ((coI d L M i).map λn=>V.int (n:Nat))):=by rw[J _ d0,e8,yI];rfl
   refine⟨false,⟨_,SqB.lst e5⟩,?_⟩;refine kZ (b:=false) (g:=oU 7) (tb:=B) (λj G H'=>∃u,G=[some (.ref g),some (.ref h),some (.ref l),some (.ref a),some (.int i),some (.ref q),some (.ref f),u]/\(∀c,c≠a->H' c=C c)/\H' a=some (.dK (((shN d L M i).flatten++(coI d L M i).take j).map λn=>(Sum.inl ((n:Nat):Int),V.bl true))))
    ⟨u,rfl,λ_ _=>rfl,by rw[J _ c7,X.k,vR,wX]⟩ (λj G H' _⟨_,_,z,_⟩=>SqB.lst (by rw[z _ e7];exact e5)) ?_ ?_
   ·rintro j y G b0 a7 ⟨u,rfl,D,a9⟩;rw[zD]at a7;obtain⟨n,I,rfl⟩:=oG.mp a7;have g5:=(zqa I).1;subst eB;show tAsg _ _ _ [some (.ref g),some (.ref h),some (.ref l),some (.ref a),some (.int i),some (.ref q),some (.ref f),some (.int n)] b0;ext
    try simp only[gSub]
    try ext
    have k7:n∉(shN d L M i).flatten++(coI d L M i).take j:=λz=>by
     rcases oA.mp z with z|z
     ·exact Yv sub hi b7 (zqb I) z
     ·obtain⟨k,d3⟩:=yX z;have c5:=(zqa d3).1;rw[yS]at c5;rw[tW ⋯]at d3;have h3:(coI d L M i).Nodup:=gU.imp λh e=>⋯
      have:=(uN g5 h3).mp (I.trans d3.symm);omega
    have i0:vI (((shN d L M i).flatten++(coI d L M i).take j).map λn=>(Sum.inl ((n:Nat):Int),V.bl true)) n=none:=by
     rcases Fp (i:=n) (F:=(shN d L M i).flatten++(coI d L M i).take j) with⟨z,_⟩|⟨_,z⟩
     ·exact absurd z k7
     ·exact z
    have l6:=Yu sub (wA hi);have m2:=sub.len hi;have c5:(((shN d L M i).flatten++(coI d L M i).take j).map λn=>((Sum.inl ((n:Nat):Int),V.bl true):Key×V)).length<sizeLine:=by
     rw[zqe,zS,yS];have b2:i*M.length<=200*200:=vD ⋯ ⋯;have n0:40400<sizeLine:=∅
     omega
    refine⟨a,_,n,rfl,rfl,a9,i0,c5,λc f0=>by rw[nC f0];exact D c f0,?_⟩;rw[oQ,wY,I,←yN,yV (l₁:=(shN d L M i).flatten++(coI d L M i).take j)];rfl
   ·rintro G b0 ⟨u,rfl,D,a9⟩;rw[zqe,xY (zE _)]at a9;have g6:Same H b0:=λb o a6=>by
     have k0:b≠a:=λz=>by rw[z,i3]at a6;cases a6
     have k6:b≠l:=λz=>by rw[z,e3]at a6;cases a6
     rw[D _ k0,J _ k6];exact X.s _ _ a6
    have i9:C a=some (.dK ((shN d L M i).flatten.map λn=>(Sum.inl ((n:Nat):Int),V.bl true))):=by rw[J _ c7];exact X.k
    have g2:TK K C b0:=TK.off i9 (λ_ z=>by cases z) (λ_ _ z=>by cases z) D;refine⟨_,_,_,_,rfl,g6,by rw[D _ h8,J _ j8];exact X.m,Paired.mapP X.o λ_ z c4=>kE g2.t 4 (kI z) (kE g4.t 4 (kI z) c4),⟨m++[f],by rw[D _ c7.symm];exact j7,Paired.mapP k5 λ_ _⟨Y,S,b5⟩=>⟨by rw[D _ b5];exact Y,S,b5⟩⟩,?_⟩;rw[a9,e,tJ];simp
  ·rintro G c1 ⟨c2,c9,b8,u,rfl,a4⟩;subst e1
   try ext
   obtain⟨m,W,R⟩:=a4.r;have le:(b4.map V.ref).length=L.length:=by rw[zqe,nX f3]
   rw[le]at R;exact j2 d1 l c1 a4.s e3 ⟨m,W,Paired.mapP R λ_ _ z=>z.1⟩
def sp_l(K:Frag)(t:Adr):Sp:=λvs H Q _=>E5 λ(g h:Addr)(d:Nat)(L M:List Dd)=>A4 (vs=[.ref g,.ref h]) (GK K t H g d L) (GK K t H h d M) (∀(b:Bool) H',Same H H'->(b=true ↔ ∃x∈M,x∉L)->Q (.bl b) H')
theorem ok_l(T:Txt K mg t):FnOk P w K mg base CX0 7 t.a_l t.d_l pk' (sp_l K t):=by
 have e:=@ok_u P w K mg base t T;apply T.F_l.ok sc_l
 ·obtain⟨g,h,d,L,M,rfl,i,hh,a⟩:=h;refine⟨_,(oN (oY (i:=2) sc_l.nd rfl (Or.inl rfl) kQ)
   (oN (Ru rfl rfl rfl rfl T.m_1q (λ_ _ _ b =>
   (oP (kR (Gb e hr.mo rfl T.F_u.m T.F_u.kp T.F_u.b .nil b (oK (pq 0) (oK (pq 1) oM)))))) (λ_ =>
   (oP (oY (i:=2) sc_l.nd rfl (Or.inl rfl) kQ))))
   (oP (nA (pq 2))))),?_⟩
  show tSeq _ _ _ [some (.ref g),some (.ref h),none] H;ext;unfold Hc;ext;refine⟨g,h,d,L,M,rfl,i,hh,λf H' s'=>?_,λk l H' s' _ _=>?_⟩
  ·exact⟨T.h_7,a true H' s' ⟨λ_=>f,λ_=>rfl⟩⟩
  ·exact a false H' s' ⟨(λz=>by cases z),λ⟨x,j,c⟩=>absurd (k x j) c⟩
def sp_m(K:Frag):Sp:=λvs H Q _=>E2 λ(p:Addr)(x:Dd)=>A5 (vs=[.ref p]) (DdS K H p x) (x.2.1.length<=100) (0<x.2.2) (∀r H',Same H H'->DdS K H' r (oZ x)->Q (.ref r) H')
theorem ok_m(T:Txt K mg t):FnOk P w K mg base CX0 5 t.a_m t.d_m ["_law_one"] (sp_m K):=by
 have C:=@ok_1a P w K mg base t T;apply T.F_m.ok sc_m
 ·obtain⟨p,x,rfl,e,l2,k,m⟩:=h;refine⟨_,(oN (iD (oS C hr.mo T.F_1a (oK (mG (oK (oT (pq 0)) (oK (oT (pq 0)) oM))) oM)) (lY rfl (nU (nN (i:=1) sc_m.nd rfl (Or.inl rfl)) (nU (nN (i:=2) sc_m.nd rfl (Or.inl rfl)) lW))))
   (oP (nA (mG (oK (oT (pq 0)) (oK (pq 1) (oK (pq 2) oM))))))),?_⟩
  show tSeq _ _ _ [some (.ref p),none,none] H;right;refine cX e λy l=>dC e ⟨(by show 2<=sizeLine;decide),λq j=>?_⟩;have d:=Same.new (o:=.tup [.ref y,.int x.2.2]) j;have o:(upd H q (.tup [.ref y,.int x.2.2])) q=some (.tup [.ref y,.int x.2.2]):=oQ;generalize upd H q (.tup [.ref y,.int x.2.2])=F at*
  refine⟨q,x.2.1,x.2.2,rfl,⟨y,SqT.of o,mL d _ _ l⟩,l2,k,λr D f u=>?_⟩;obtain⟨z,n,i⟩:=u;refine⟨r,[.ref z,.int x.2.2],rfl,SqT.of n,rfl,_,[.int x.2.2],rfl,_,[],rfl,rfl,?_⟩;symm;refine iN ((e.up d).up f) λa g=>⟨(by show 3<=sizeLine;decide),λc v=>?_⟩;have b:=Same.new (o:=.tup [.ref a,.ref z,.int x.2.2]) v;exact m c _ ((d.trans f).trans b) ⟨a,z,SqT.of oQ,g.up b,SqT.of (b _ _ i)⟩
def sp_p(K:Frag):Sp:=λvs H Q _=>E5 λ(p q:Addr)(x y:Dd)(d:Nat)=>A7 (vs=[.ref p,.ref q]) (DdS K H p x) (DdS K H q y) (MbOk d x) (MbOk d y) ((d=2\/d=3)) (∀r H',Same H H'->DdS K H' r (behD d x y)->Q (.ref r) H')
theorem ok_p(T:Txt K mg t):FnOk P w K mg base CX0 5 t.a_p t.d_p pl' (sp_p K):=by
 have a9:=@ok_9 P w K mg base t T;have a7:=@ok_k P w K mg base t T;apply T.F_p.ok sc_p
 ·obtain⟨p,q,x,y,d,rfl,o,F,g,f,J,a6⟩:=h;refine⟨_,(oN (oY (i:=2) sc_p.nd rfl (Or.inl rfl) (oS a9 hr.mo T.F_9 (oK (oT (pq 1)) (oK (oT (pq 0)) oM))))
   (oN (iD (oS a7 hr.mo T.F_k (oK (pq 1) (oK (mG (oK (oT (pq 0)) (oK (oT (pq 0)) oM))) oM))) (lY rfl (nU (nN (i:=3) sc_p.nd rfl (Or.inl rfl)) (nU (nN (i:=4) sc_p.nd rfl (Or.inl rfl)) lW))))
   (oP (nA (mG (oK (mP kL rfl T.z_tuple (nofun) (oK (nR (sc:=oO Ag) (N:=N_p) (fr:=[]) (te:=(tCB (gG K) (oV (tVar 0) tNil))) rfl rfl (nofun) rfl (nofun) (nH (pq 2)) (λ_ _ _ b0=>(mP kL rfl T.z_tuple (nofun) (oK (pv 0) oM)))) oM)) (oK (pq 3) (oK (pq 4) oM)))))))),?_⟩
  show tSeq _ _ _ [some (.ref p),some (.ref q),none,none,none] H;right;refine iN F λa a3=>iN o λb a1=>?_;refine⟨true,true,true,true,a,b,y.1,x.1,d,rfl,a3,a1,f.sq,g.sq,J,f.bm.le ∅,g.bm.le ∅,λI N i U=>?_⟩;left;refine cX (o.up i) λz n=>dC (o.up i) ⟨(by show 2<=sizeLine;decide),λc Y=>?_⟩;have m:=Same.new (o:=.tup [.ref z,.int x.2.2]) Y;have a4:(upd N c (.tup [.ref z,.int x.2.2])) c=some (.tup [.ref z,.int x.2.2]):=oQ;generalize upd N c (.tup [.ref z,.int x.2.2])=b6 at*
  have M:∀{w:Dd},MbOk d w->mO 1000 w.2.1:=λh k V=>by
   have b4:=h.bt k V;exact zI (show k.natAbs<2^7 by have e:(2:Nat)^7=128:=rfl;omega) (zX ∅ ∅)
  have R:∀{w:Dd},MbOk d w->w.2.2<2^150:=λh=>Int.lt_of_le_of_lt h.le ∅;refine⟨q,c,y,x.2.1,x.2.2,d,rfl,F.up (i.trans m),⟨z,SqT.of a4,mL m _ _ n⟩,f.sq,J,f.len,g.len,f.bm.le ∅,M f,M g,f.pos,R f,g.pos,R g,λr v D S=>?_⟩;obtain⟨W,a2,X⟩:=S;refine⟨r,_,rfl,SqT.of a2,rfl,?_⟩;simp only[nV,gNil,oU];refine⟨_,_,rfl,_,_,rfl,rfl,?_⟩;symm;refine nF λb3 eB=>?_;simp only[iSeq];ext;have L:MatB false false K v I (mulM d y.1 x.1):=(U.up (m.trans D)).b;obtain⟨b5,a0⟩:∃xs,SqB false K v I xs:=let ⟨ps,h,_⟩:=L;⟨_,h⟩
  refine⟨false,⟨_,a0⟩,λZ a8=>?_⟩;subst eB;have b1:=(f.sq.mul (B:=x.1)).1;refine Er L ⋯ a8 λG zs a5 n j=>?_;refine⟨Z,_,rfl,.inl ⟨SqL.of n,λl O=>?_⟩⟩;have C:Same v (upd G l (.tup zs)):=a5.trans (Same.new O);replace j:=j l O;generalize upd G l (.tup zs)=b2 at C j;exact⟨(by show 3<=sizeLine;decide),λw u=>a6 w _ (((i.trans (m.trans D)).trans C).trans (Same.new u)) ⟨l,W,SqT.of oQ,j.up (Same.new u),SqT.of (Same.new u _ _ (C _ _ X))⟩⟩
theorem eqI{H:Hp}{p q:Addr}{ns ms:LI'}{Q:VK}{b:Bool}(d:H p=some (.lst (ns.map V.int)))(c:H q=some (.lst (ms.map V.int)))(a:b=true↔ns=ms)(k:Q (.bl b) H):rEqD K (.ref p) (.ref q) H Q:=aQ 2 ∅ (Dt.intsB (b:=false) (SqB.lst d)) (Dt.intsB (b:=false) (SqB.lst c)) (aS _ _ _) (aS _ _ _) (by rw[aR];exact a) k
theorem neI{H:Hp}{p q:Addr}{ns ms:LI'}{Q:VK}{b:Bool}(d:H p=some (.lst (ns.map V.int)))(c:H q=some (.lst (ms.map V.int)))(a:b=true↔ns=ms)(k:Q (.bl (!b)) H):rNeD K (.ref p) (.ref q) H Q:=cH 2 ∅ (Dt.intsB (b:=false) (SqB.lst d)) (Dt.intsB (b:=false) (SqB.lst c)) (aS _ _ _) (aS _ _ _) (by rw[aR];exact a) k
def sp_g(_:Frag):Sp:=λvs H Q _=>E2 λ(l:Addr)(R:List (List Nat))=>A5 (vs=[.ref l]) (LsI H l R) (R.length<=200) ((∀r∈R,r≠[]/\r.length<=200)) (∀H',Same H H'->Q (.bl true) H')
theorem ok_g(T:Txt K mg t):FnOk P w K mg base CX0 2 t.a_g t.d_g pH' (sp_g K):=by
 have U:=@ok_13 P w K mg base t T;apply T.F_g.ok sc_g
 ·have x:=hr.units;obtain⟨l,R,rfl,⟨a4,d,g⟩,a6,a1,Z⟩:=h;have q:∀{a:Addr}{xs:List V}{C:VK}{H:Hp},H a=some (.lst xs)->C (.bl true) H->rIsi K [.ref a,.ty "list"] H C:=λd g=>⟨_,_,_,_,rfl,.ty (.lst d),rfl,T.h_i,g⟩;refine⟨_,(oN (nT (dQ (gD (mV aH rfl T.z_isinstance (nofun) (oK (pq 0) (oK (bW (v:=.ty "list") rfl T.z_list (nofun) rfl) oM)))))
   (oP (nA kQ))
   nS)
   (oN (lF yD rfl (nH (pq 0)) (nN (i:=1) sc_g.nd rfl (Or.inl rfl))
   (oP (nT (PW.pt (iC (dQ (gD (mV aH rfl T.z_isinstance (nofun) (oK (pq 1) (oK (bW (v:=.ty "list") rfl T.z_list (nofun) rfl) oM))))) (iC (nL (aG x) (pq 1) (lO oM) (nJ _)) (iU (nL (iW x) (kU (xs:=["_law_number"]) (fr:=[]) (g:=(oU 0)) (tt:=(jU (tNot (tB (mC (sp_13) [] E0 (oV (tVar 0) tNil)))) (tVar 0))) (lD (sc:=oO Af) (N:=N_g) rfl rfl (nofun)) rfl (nH (pq 1)) (λ_ _ _ o=>(kX (N:=["_law_number"]) (i:=0) o rfl (nofun))) (λ_ _ _ o=>(Cs (dQ (gD (oS U hr.mo T.F_13 (oK (pv 0) oM)))) (pv 0)))) (lO oM) (nJ _))))))
   (oP (nA kQ))
   nS)))
   (oP (nA kQ)))),?_⟩
  show tSeq _ _ _ [some (.ref l),none] H;right;refine q d ?_
  try ext
  subst e1;refine st λN1 e1=>lH λB eB=>?_;simp only[iSeq];ext;refine⟨false,⟨_,SqB.lst d⟩,?_⟩;refine kZ (b:=false) (g:=oU 1) (tb:=B) (λj f H'=>∃m,f=[some (.ref l),m]/\Same H H') ⟨none,rfl,Same.refl _⟩ (λj f H' _⟨_,_,z⟩=>SqB.lst (z _ _ d)) ?_ ?_
  ·rintro j y f b N ⟨m,rfl,e⟩;obtain⟨p,X,rfl⟩:=mY N;obtain⟨r,a0,S⟩:=mZ g X;obtain⟨L,a5⟩:=a1 r (zqb a0);have v:=e _ _ S;subst eB;show tIfS _ _ _ _ [some (.ref l),some (.ref p)] b;ext;refine q v ?_
   try ext
   refine⟨by show 0<=sizeLine;decide,λc W=>?_⟩;have u:=Same.new (o:=.lst []) W;have Y:(upd b c (.lst [])) c=some (.lst (([]:LI').map V.int)):=oQ;generalize upd b c (.lst [])=a2 at*
   have i:a2 p=some (.lst ((r.map λn=>((n:Nat):Int)).map V.int)):=by rw[u _ _ v,yI];rfl
   refine eqI (b:=false) i Y ⟨(λz=>by cases z),λz=>absurd (List.map_eq_nil_iff.mp z) L⟩ ⟨_,rfl,iteF ?_⟩;simp only[nW,iSeq];ext;refine⟨false,⟨_,SqB.lst i⟩,λa3 I=>?_⟩;refine Xh I (SqB.lst i) (by rw[zqe];omega) λF G J=>?_;refine⟨by show 0<=sizeLine;decide,λk M=>?_⟩;have D:=Same.new (o:=.lst []) M;have O:(upd F k (.lst [])) k=some (.lst (([]:LI').map V.int)):=oQ;generalize upd F k (.lst [])=a7 at*
   exact neI (b:=true) (ns:=[]) (D _ _ J) O ⟨λ_=>rfl,λ_=>rfl⟩ ⟨_,rfl,iteF (e.trans (u.trans (G.trans D)))⟩
  ·rintro f b ⟨m,rfl,e⟩;subst e1
   try ext
   exact Z b e
theorem Yt{d n:Nat}{T L P:List Dd}(h:Sub d T L)(i:∀x∈T,MbOk d x)(v:T.Pairwise λx y=>lx (fl (dat y)) (fl (dat x))=false)(u:n<T.length)(J:P.Perm (L.map λx=>nD d x (T.getD n (oX d))))(I:P.Pairwise λx y=>lx (fl (dat y)) (fl (dat x))=false):P=(coI d T L n).map λj=>T.getD j (oX d):=by
 have k:=J.trans (h.perm u).symm;have l:∀y∈(coI d T L n).map λj=>T.getD j (oX d),y∈T:=λy m=>by
  obtain⟨j,C,rfl⟩:=pS.mp m;exact(at_D (d:=d) (kJ.mp C).1).2
 refine sD (le:=λx y=>lx (fl (dat y)) (fl (dat x))=false) (λa b f e F o=>?_) I ?_ k
 ·have G:=(i a (l a (k.mem_iff.mp f))).fine;have q:=(i b (l b e)).fine;exact hJ.mp (cQ _ _ (Bz G q) (Dr _ _ o F))
 ·refine pZ.mpr ((gU (d:=d) (T:=T) (L:=L) (i:=n)).imp_of_mem λ{a b}f e r=>?_);have c:=(kJ.mp f).1;have g:=(kJ.mp e).1;have z:=pR.mp v a b c g r;have p:=zQ ((at_D (d:=d) c).1.symm.trans (zqd c));have D:=zQ ((at_D (d:=d) g).1.symm.trans (zqd g));rw[p,D];exact z
theorem Ys{d n:Nat}{T L:List Dd}{ns:LI'}(p:ns.Perm ((coI d T L n).map λk=>((k:Nat):Int)))(s:ns.Pairwise (·<=·)):ns=(coI d T L n).map λk=>((k:Nat):Int):=Mj (qV _) p s
theorem Yr{d:Nat}{T L:List Dd}(h:Sub d T L){ns:LI'}(p:ns.Perm ((shR d T L).flatten.map λk=>((k:Nat):Int)))(s:ns.Pairwise (·<=·)):ns=(List.range T.length).map λk=>((k:Nat):Int):=
 sD (le:=λa b=>a<=b) (λa b _ _ c e=>Int.le_antisymm c e) s (pZ.mpr (List.pairwise_lt_range.imp λh=>⋯)) (p.trans (h.flat.map _))
theorem Yq{d:Nat}:lC d (oX d):=⟨nM,by show(List.replicate d (0:Int)).length=d;rw[xH],by show(0:Int)<1;decide,Mo,λz a=>by
 rw[wG (show z∈List.replicate d (0:Int) from a)];exact wU _,by show(1:Int)<2^1500;decide⟩
def DlAt(K:Frag)(H:Hp)(r:Addr)(L:List Dd):Prop:=∃ps:LA,H r=some (.lst (ps.map V.ref))/\Paired (λp x=>Dt K H (.ref p) (dat x)) ps L
theorem DlAt.up{H H':Hp}{r:Addr}{L:List Dd}(h:DlAt K H r L)(s:Same H H'):DlAt K H' r L:=by
 obtain⟨ps,a,b⟩:=h;exact⟨ps,s _ _ a,Paired.mapP b λ_ x z=>kE (mL s) 4 (kI x) z⟩
theorem Mf{K:Frag}{H:Hp}{ps:LA}{L:List Dd}(h:Paired (λp x=>Dt K H (.ref p) (dat x)) ps L):∃d:List (V×PyData),d.map (·.1)=ps.map V.ref/\d.map (·.2)=L.map dat/\∀q∈d,Dt K H q.1 q.2:=by
 induction h with
 |nil=>exact⟨[],rfl,rfl,λq f=>by cases f⟩
 |@cons p x ps L i _ g =>
  obtain⟨d,a,b,c⟩:=g;refine⟨(.ref p,dat x):: d,by rw[zK,zK,a],by rw[zK,zK,b],λq f=>?_⟩;rcases xE.mp f with e|e
  ·rw[e];exact i
  ·exact c q e
theorem Me{K:Frag}{H:Hp}:∀{ps:List (V×PyData)}{L:List Dd},L.map dat=ps.map (·.2)->(∀p∈ps,Dt K H p.1 p.2)->∃b:LA,ps.map (·.1)=b.map V.ref/\Paired (λp x=>Dt K H (.ref p) (dat x)) b L
 |[],[],_,_=>⟨[],rfl,.nil⟩
 |p:: ps,x:: L,e,h=>by
  rw[zK,zK,yL]at e;obtain⟨b,e1,d⟩:=Me (ps:=ps) (L:=L) e.2 λx f=>h x (.tail _ f);have a:=h p (.head _);rw[←e.1]at a;obtain⟨q,c⟩:=Ko a;rw[c]at a;exact⟨q:: b,by rw[zK,e1,c];rfl,.cons a d⟩
theorem gX{H:Hp}{a:Addr}{L:List Dd}(h:DlAt K H a L):Dt K H (.ref a) (.list (L.map dat)):=by
 obtain⟨e,b,c⟩:=h;refine .lst (SqL.of b) ?_;clear b
 induction c with
 |nil=>exact .nil
 |cons h _ d=>exact .cons h d
theorem gY(ms:List Dd):iT 5 (.list (ms.map dat))=true:=by
 show(ms.map dat).all (iT 4)=true;rw[wR];intro d a;obtain⟨x,_,rfl⟩:=pS.mp a;exact gI 4 _ (kI x)
theorem Fo{H:Hp}{l:Addr}{L:List Dd}{Q:VK}{n:Nat}{I:Int}{y:Dd}(h:DlAt K H l L)(e:L[n]?=some y)(f:I=n)(q:∀p,Dt K H (.ref p) (dat y)->Q (.ref p) H):rIxB K (.ref l) (.int I) H Q:=by
 obtain⟨i,c,b⟩:=h;obtain⟨p,ep⟩:=fW (nX b) (zqa e).1;obtain⟨g,a,d⟩:=mZ b ep;rw[e]at a;cases a;exact fS (i:=n) c (by rw[zD,ep];rfl) f (q p d)
theorem fY{H:Hp}{l:Addr}{L:List Dd}{Q:VK}(h:DlAt K H l L)(q:Q (.int L.length) H):kY K [.ref l] H Q:=by
 obtain⟨c,a,b⟩:=h;exact⟨false,l,_,rfl,SqB.lst a,by rw[zqe,nX b];exact q⟩
theorem Yp{H:Hp}{a:Addr}{d:Nat}{L:List Dd}{Q:VK}(h:DlAt K H a L)(J:∀x∈L,lC d x)(hl:L.length<=200)(q:∀r c H',Same H H'->DlAt K H' r c->c.Perm L->(c.Pairwise λx y=>lx (fl (dat y)) (fl (dat x))=false)->Q (.ref r) H'):Jz K 200 [.ref a] H Q:=by
 obtain⟨ps,O,D⟩:=h;obtain⟨g,e1,i,k⟩:=Mf D;have S:g.length=L.length:=by
  have:=wF List.length i
  rwa[zqe,zqe]at this
 have j:∀q∈g,∃z∈L,q.2=dat z:=λq b=>by
  have:q.2∈L.map dat:=by rw[←i];exact pS.mpr ⟨q,b,rfl⟩
  obtain⟨z,f,e⟩:=pS.mp this;exact⟨z,f,e.symm⟩
 refine⟨a,g,[.tuple ((List.replicate d (0:Int)).map PyData.int),.int 1],(idM d).map (λr=>PyData.tuple (r.map PyData.int)),rfl,⋯,by rw[e1];exact SqL.of O,λq b=>?_,λN ps' v l T o n R=>?_⟩
 ·obtain⟨z,f,e⟩:=j q b;refine⟨by rw[e];exact kI z,?_,k q b⟩;rw[e];exact Bz Yq (J z f)
 obtain⟨c,C,u⟩:=Em (f:=dat) (l:=ps'.map (·.2)) (tb:=L) (by rw[←i];exact n.map _);obtain⟨F,I,G⟩:=Me (K:=K) (H:=v) u λp M=>by
  have b:=n.mem_iff.mp M;obtain⟨z,f,e⟩:=j p b;exact kE (mL l) 4 (by rw[e];exact kI z) (k p b)
 rw[I]at o;refine q N c v l ⟨F,o,G⟩ C ?_;have m:(ps'.map (·.2)).Pairwise λp q=>lx (fl q) (fl p)=false:=pZ.mpr R;rw[←u]at m;exact pZ.mp m
def sp_4(K:Frag):Sp:=λvs H Q _=>E6 λ(l ma la:Addr)(d:Nat)(T L:List Dd)=>A10 (vs=[.ref l,.ref ma,.ref la]) (LsI H l (shR d T L)) (DlAt K H ma T) (DlAt K H la L) (Sub d T L) ((∀x∈T,MbOk d x)) (T.length<=200) (L.length<=200) ((T.Pairwise λx y=>lx (fl (dat y)) (fl (dat x))=false)) (∀H',Same H H'->Q (.bl true) H')
theorem ok_4(TT:Txt K mg t):FnOk P w K mg base CX0 6 t.a_4 t.d_4 pb' (sp_4 K):=by
 have T:=TT;have h4:=@ok_m P w K mg base t T;have h1:=@ok_p P w K mg base t T;apply T.F_4.ok sc_4
 ·have D:=hr.units;obtain⟨l,M,c7,d,b,L,rfl,⟨k3,O,a2⟩,a8,hl,sub,Z,k7,j0,j4,i4⟩:=h;have c5:ShI d b L b.length (shR d b L):=fX sub (zE b.length);have k0:(shR d b L).flatten.length=b.length:=by rw[sub.flat.length_eq,vO]
  have e0:∀r∈shR d b L,r.length=L.length:=λr hr=>by
   obtain⟨n,a0,e,_⟩:=c5.of r hr;rw[e];exact sub.len a0
  have k8:(shR d b L).length<=b.length:=bU;refine⟨_,(oN (oY (i:=3) sc_4.nd rfl (Or.inl rfl) (lO oM))
   (oN (lF yD rfl (nH (pq 0)) (nN (i:=4) sc_4.nd rfl (Or.inr rfl))
   (oP (oY (i:=3) sc_4.nd rfl (Or.inl rfl) (oR dY (pq 3) (pq 4)))))
   (oN (nT (PW.pt (iC (nL (iW D) (mV (Dk (N:=200) bD D) rfl T.z_sorted (nofun) (oK (pq 3) oM)) (Jo rfl rfl T.z_list rfl T.z_range (oK (nQ T.z_len (pq 1)) oM)) (nJ _)) (iU (nL kS (oR mF (nQ T.z_len (pq 0)) (nQ T.z_len (pq 2))) (nQ T.z_len (pq 1)) (nJ _)))))
   (oP (nA kQ))
   nS)
   (oN (oY (i:=5) sc_4.nd rfl (Or.inl rfl) (fA fC oW))
   (oN (lF yD rfl (nH (pq 0)) (nN (i:=4) sc_4.nd rfl (Or.inr rfl))
   (oN (nT (PW.pt (iC (nL Nd (oT (pq 4)) (pq 5) (nJ _)) (iU (nL (iW D) (pq 4) (mV (Dk (N:=200) bD D) rfl T.z_sorted (nofun) (oK (pq 4) oM)) (nJ _)))))
   (oP (nA kQ))
   nS)
   (oN (oY (i:=5) sc_4.nd rfl (Or.inl rfl) (oT (pq 4)))
   (oN (iX (i:=6) (sc:=oO s_4) (N:=N_4) (fr:=[("_law_members",1),("_law_row",4)]) (te:=(mC (sp_m K) [] E0 (oV (mC (sp_p K) [] E0 (oV (tVar 0) (oV (tOp (rIxB K) (tVar 1) (tOp (rIxB K) (tVar 2) (tC (.int 0)))) tNil))) tNil))) rfl rfl (nofun) rfl sc_4.nd rfl rfl (nofun) (nH (pq 2)) (λ_ _ _ g8=>(oS h4 hr.mo T.F_m (oK (oS h1 hr.mo T.F_p (oK (pv 0) (oK (mI ix_B (pv 1) (oT (pv 2)) (λ_ _=>rfl)) oM))) oM))))
   (oP (nT (nL (iW D) (mV (Tt (N:=200) bD D) rfl T.z_sorted (nofun) (oK (pq 6) oM)) (nR (sc:=oO s_4) (N:=N_4) (fr:=[("_law_members",1)]) (te:=(tOp (rIxB K) (tVar 1) (tVar 0))) rfl rfl (nofun) rfl (nofun) (nH (pq 4)) (λ_ _ _ g8=>(mI ix_B (pv 1) (pv 0) (λ_ _=>rfl)))) (nJ _))
   (oP (nA kQ))
   nS))))))
   (oP (nA kQ))))))),?_⟩
  show tSeq _ _ _ [some (.ref l),some (.ref M),some (.ref c7),none,none,none,none] H;right;refine⟨by show 0<=sizeLine;decide,λc h2=>?_⟩;have f1:=Same.new (o:=.lst []) h2;have f4:(upd H c (.lst [])) c=some (.lst (([]:LI').map V.int)):=oQ;generalize upd H c (.lst [])=k4 at*
  subst e1;refine st λN1 e1=>lH λB eB=>?_;simp only[iSeq];ext;refine⟨false,⟨_,SqB.lst (f1 _ _ O)⟩,?_⟩;refine kZ (b:=false) (g:=oU 4) (tb:=B) (λj f H'=>∃c u,f=[some (.ref l),some (.ref M),some (.ref c7),some (.ref c),u,none,none]/\Same H H'/\H' c=some (.lst ((((shR d b L).take j).flatten.map λn=>((n:Nat):Int)).map V.int))) ⟨c,none,rfl,f1,by rw[f4];rfl⟩ (λj f H' _⟨_,_,_,z,_⟩=>SqB.lst (z _ _ O)) ?_ ?_
  ·rintro j y f g7 b0 ⟨c,u,rfl,a7,I⟩;obtain⟨p,b2,rfl⟩:=mY b0;obtain⟨r,C,d0⟩:=mZ a2 b2;subst eB;simp only[oU];ext;have l0:((shR d b L).take j).flatten.length<=200:=by
    have:=wF (λl=>l.flatten.length) (xS j (shR d b L));simp only[List.flatten_append,List.length_append]at this;omega
   have h7:=e0 r (zqb C);refine⟨c,p,_,_,rfl,rfl,I,a7 _ _ d0,by rw[zqe,zqe,zqe,h7];exact yH (show _+_<=1000 by omega) ∅,λq g=>?_⟩;have Y:=a7.trans (Same.new (o:=.lst (((((shR d b L).take j).flatten.map λn=>((n:Nat):Int)).map V.int)++r.map λn=>V.int (n:Nat))) g);refine⟨q,rfl,Y,?_⟩;rw[oQ,wY,C,tJ,yV,yV];simp
  ·rintro f g7 ⟨c,u,rfl,a7,I⟩;rw[zqe,nX a2,xY (zE _)]at I;left;refine⟨c,_,rfl,by rw[zqe];omega,SqL.of I,λq ns f3 Y d4 g W a6=>?_⟩;have c2:=Yr sub W a6;subst c2;have e4:=a7.trans Y
   try ext
   refine fY (a8.up e4) ?_;refine⟨b.length,rfl,⋯,λc8 d6=>?_⟩;have b8:=Same.new (o:=.lst ((List.range b.length).map λ(i:Nat)=>V.int (i:Int))) d6;have d7:(upd f3 c8 (.lst ((List.range b.length).map λ(i:Nat)=>V.int (i:Int)))) c8=some (.lst (((List.range b.length).map λk=>((k:Nat):Int)).map V.int)):=by rw[oQ,yI];rfl
   generalize upd f3 c8 (.lst ((List.range b.length).map λ(i:Nat)=>V.int (i:Int)))=j9 at*;have J:=e4.trans b8;refine neI (b:=true) (b8 _ _ g) d7 (by simp) ⟨_,rfl,iteF ?_⟩;refine⟨false,l,_,rfl,SqB.lst (J _ _ O),fY (hl.up J) ?_⟩;rw[zqe,nX a2];refine⟨_,_,rfl,rfl,vZ (uD ⋯ ⋯),fY (a8.up J) ?_⟩;refine⟨_,_,rfl,rfl,_,rfl,?_⟩;rw[zL (show((shR d b L).length:Int)*(L.length:Int)=(b.length:Int) by have:=sub.count;rw[←this];simp)];refine iteF ?_;clear g d7 d6 d4 W a6 I b8 Y;left;subst e1;refine st λN1 e1=>lH λB eB=>?_;simp only[iSeq];ext;refine⟨false,⟨_,SqB.lst (J _ _ O)⟩,?_⟩;refine kZ (b:=false) (g:=oU 4) (tb:=B) (λj f H'=>∃(u d2:Option V)(z:Int),f=[some (.ref l),some (.ref M),some (.ref c7),some (.ref c),u,some (.int z),d2]/\Same H H'/\∀i r a,j<=i->(shR d b L)[i]?=some r->r.head?=some a->z<(a:Nat)) ⟨_,_,-1,rfl,J,λi r a _ _ _=>⋯⟩ (λj f H' _⟨_,_,_,_,z,_⟩=>SqB.lst (z _ _ O)) ?_ ?_
   ·rintro j y f b5 b0 ⟨u,d2,z,rfl,a5,a4⟩;obtain⟨p,b2,rfl⟩:=mY b0;obtain⟨r,C,d0⟩:=mZ a2 b2;obtain⟨n,a0,b6,c4⟩:=c5.of r (zqb C);have k2:=e0 r (zqb C);have k1:=a4 j r n (zE _) C c4;have N:=a5 _ _ d0;have c3:(r.map λn=>V.int (n:Nat))[0]?=some (.int (n:Nat)):=by rw[zD,←List.head?_eq_getElem?,c4];rfl
    subst eB;simp only[oU];ext;refine fS (i:=0) N c3 rfl ⟨_,_,rfl,rfl,_,rfl,?_⟩;rw[zN ⋯];refine iteF ?_;have e7:b5 p=some (.lst ((r.map λn=>((n:Nat):Int)).map V.int)):=by rw[N,yI];rfl
    refine⟨p,_,rfl,by rw[zqe];omega,SqL.of e7,λq ns j8 U d4 g W a6=>?_⟩;have c2:ns=r.map λn=>((n:Nat):Int):=by rw[b6]at W ⊢;exact Ys W a6
    subst c2;have b7:=a5.trans U;refine neI (b:=true) (U _ _ e7) g (by simp) ⟨_,rfl,iteF ?_⟩;refine fS (i:=0) (U _ _ N) c3 rfl ?_
    try ext
    exfalso;obtain⟨k5,d5,e9⟩:=hl.up b7;have g4:=nX e9;refine⟨false,⟨_,SqB.lst d5⟩,λf5 h6=>?_⟩;obtain⟨h8,e2⟩:=at_D (d:=d) a0;have d8:=Z _ e2;have o:=d8.fine;have f6:=sub.t.dim;refine nO (λj y H'=>∃q x,y=V.ref q/\L[j]?=some x/\DdS K (offH f5 H') q (nD d x (b.getD n (oX d)))) h6 (SqB.lst d5) (by rw[zqe];omega) (λ_ _ _ _⟨q,x,e1,b9,c6⟩c0=>⟨q,x,e1,b9,c6.up (gO c0)⟩) ?_ ?_
    ·intro i y b4 zs i9 G c1 b1 a9;obtain⟨e5,g6,rfl⟩:=mY i9;obtain⟨x,d3,b3⟩:=mZ e9 g6;have e6:=Z x (sub.s x (zqb d3));have R:=e6.fine;subst eB;show mC _ _ _ _ [some (.ref e5),some (.ref M),some (.ref p)] b4 b1;ext;refine fS (i:=0) ((U.trans G) _ _ N) c3 rfl ?_;refine Fo (a8.up (b7.trans G)) h8 rfl λj1 g5=>?_;refine⟨e5,j1,x,_,d,rfl,(hZ b3).up G,hZ g5,e6,d8,f6,λf0 i6 S a1=>?_⟩;refine⟨f0,_,rfl,a1,?_,cV _ (by have:=xF o.pos R.pos;omega),λg9 a3 F c9=>?_⟩
     ·show(redT _ (movT _ _ _ _ _)).length<=100;unfold redT;rw[zqe,Fu o.sq o.len];omega
     ·have d9:=S.trans F;exact a9 _ _ d9 ⟨g9,x,rfl,d3,DdS.tk c9 (iQ (d9 _ _ c1))⟩
    ·intro b4 ys G j3 i8 f9;have e8:=b7.trans G;have j6:∃v:LA,ys=v.map V.ref/\Paired (λq z=>Dt K b4 (.ref q) (dat z)) v (L.map λx=>nD d x (b.getD n (oX d))):=iR (by rw[i8,zqe,zqe,g4]) λi y X=>by
      obtain⟨q,x,R,o,d1⟩:=f9 i y X;exact⟨q,_,R,by rw[zD,o];rfl,DdS.dt (d1.up gN)⟩
     obtain⟨v,rfl,i2⟩:=j6;refine Yp (d:=d) ⟨v,j3,i2⟩ (λz a4=>?_) (by rw[zqe];exact j0) λf0 k9 i6 S i1 j7 i0=>?_
     ·obtain⟨x,b3,rfl⟩:=pS.mp a4;exact(Z _ (sub.t.mul x (sub.s x b3) _ e2)).fine
     have g0:=Yt sub Z j4 a0 j7 i0;exfalso;have h9:=G.trans S;have a1:=(U.trans h9) _ _ N;refine⟨false,⟨_,SqB.lst a1⟩,λj2 h5=>?_⟩;refine nO (λj y H'=>∃q m,y=V.ref q/\r[j]?=some m/\DdS K (offH j2 H') q (b.getD m (oX d))) h5 (SqB.lst a1) (by rw[zqe];omega) (λ_ _ _ _⟨q,x,e1,b9,c6⟩c0=>⟨q,x,e1,b9,c6.up (gO c0)⟩) ?_ ?_
     ·intro i y a3 zs f2 F c1 b1 a9;rw[zD]at f2;obtain⟨m,e3,rfl⟩:=oG.mp f2;have g3:m<b.length:=by
       have:=zqb e3;rw[b6]at this;exact(kJ.mp this).1
      subst eB;show tOp _ _ _ [some (.int m),some (.ref M)] a3 b1;ext;exact Fo (a8.up (e8.trans (S.trans F))) (at_D (d:=d) g3).1 rfl λq g=>a9 _ _ (Same.refl _) ⟨q,m,rfl,e3,DdS.tk (hZ g) (iQ c1)⟩
     ·intro a3 ys F h3 f7 c9;have j5:∃v:LA,ys=v.map V.ref/\Paired (λq z=>Dt K a3 (.ref q) (dat z)) v (r.map λm=>b.getD m (oX d)):=iR (by rw[f7,zqe,zqe]) λi y X=>by
       obtain⟨q,m,R,o,d1⟩:=c9 i y X;exact⟨q,_,R,by rw[zD,o];rfl,DdS.dt (d1.up gN)⟩
      obtain⟨h0,rfl,i5⟩:=j5;refine cH 5 ∅ (gX (i1.up F)) (gX ⟨h0,h3,i5⟩) (gY _) (gY _) (b:=true) (by rw[g0,←b6];simp) ⟨_,rfl,iteF ⟨e8.trans (S.trans F),λi k6 a hi g2 i3=>?_⟩⟩;obtain⟨f8,g1⟩:=zqa C;obtain⟨i7,X⟩:=zqa g2;have z:=(pR.mp c5.hd j i f8 i7 ⋯).2 n a ((wF List.head? g1).trans c4) ((wF List.head? X).trans i3);omega
   ·rintro f b5 ⟨u,d2,z,rfl,a5,a4⟩;symm;exact i4 b5 a5
theorem Yo{d:Nat}{T c:List Dd}(G:Grp d T)(p:c.Perm T):Grp d c:=
 ⟨G.dim,p.nodup_iff.mpr G.nd,λx a=>G.rs x (p.mem_iff.mp a),p.mem_iff.mpr G.one,λx a y b=>p.mem_iff.mpr (G.mul x (p.mem_iff.mp a) y (p.mem_iff.mp b)),λx a=>by
  obtain⟨y,b,e⟩:=G.inv x (p.mem_iff.mp a);exact⟨y,p.mem_iff.mpr b,e⟩⟩
theorem Fn{k p:Nat}{b:List Stp}{c:LI'}{a:Int}(ok:iB k p b c a){ds ms:List Dd}{srt:Tb}{H:Hp}{g:Addr}(q:GrpF K t H g (famD k) ms srt)(d:GoIn k p b c a ds ms srt)(l:∀m∈ds,lC (famD k) m/\InF (frm k p b c a) (oZ m)):GK K t H g (famD k) (srt.map (·.1))/\∀x∈srt.map (·.1),InF (frm k p b c a) x:=by
 have okF:=ok.frm;have f:∀s∈ms.map oZ,InF (frm k p b c a) s:=λs o=>by
  obtain⟨m,n,rfl⟩:=pS.mp o;exact(l m (d.sub m n)).2
 have tb:=dL okF f 192;have i:∀x∈srt.map (·.1),InF (frm k p b c a) x:=λx e=>by
  obtain⟨y,j,rfl⟩:=pS.mp e;exact tb.2 y (d.pm.mem_iff.mp j)
 exact⟨⟨⟨ms,srt,q,rfl⟩,Yo (Le okF f (N:=192) (zE _)) (d.pm.map _),λx e=>Mw ok (i x e),by rw[zqe,d.pm.length_eq];exact yH tb.1 ∅,pZ.mpr d.od⟩,i⟩
theorem LsI.up{H H':Hp}{l:Addr}{R:List (List Nat)}(h:LsI H l R)(s:Same H H'):LsI H' l R:=by
 obtain⟨b,a,c⟩:=h;exact⟨b,s _ _ a,Paired.mapP c λ_ _ z=>s _ _ z⟩
def lsD(R:List (List Nat)):PyData:=.list (R.map λr=>.list (r.map λn=>PyData.int (n:Nat)))
theorem dM{H:Hp}{l:Addr}{R:List (List Nat)}(h:LsI H l R):Dt K H (.ref l) (lsD R):=by
 obtain⟨e,a,c⟩:=h;refine .lst (SqL.of a) ?_;clear a
 induction c with
 |nil=>exact .nil
 | @cons p r _ _ h _ b =>
  refine .cons ?_ b;have:Dt K H (.ref p) (jV false (r.map λn=>((n:Nat):Int))):=Dt.intsB (b:=false) (SqB.lst (by rw[yI];exact h));have d:jV false (r.map λn=>((n:Nat):Int))=.list (r.map λn=>PyData.int (n:Nat)):=by
   show PyData.list ((r.map λn=>((n:Nat):Int)).map PyData.int)=_;rw[yI];rfl
  show Dt K H (.ref p) (.list (r.map λn=>PyData.int (n:Nat)));rw[←d];exact this
theorem dN(R:List (List Nat)):iT 3 (lsD R)=true:=by
 show(R.map λr=>PyData.list (r.map λn=>PyData.int (n:Nat))).all (iT 2)=true;rw[wR];intro d a;obtain⟨r,_,rfl⟩:=pS.mp a;show(r.map λn=>PyData.int (n:Nat)).all (iT 1)=true;rw[wR];intro d a;obtain⟨i,_,rfl⟩:=pS.mp a;rfl
theorem Yn{d:Nat}{L M:List Dd}(f:∀x∈L,MbOk d x)(i:L.Nodup)(j:M.Nodup)(g:L.Pairwise λx y=>lx (fl (dat y)) (fl (dat x))=false)(k:M.Pairwise λx y=>lx (fl (dat y)) (fl (dat x))=false)(h:∀x,x∈M↔x∈L):M=L:=by
 have c:∀x∈L,∀y∈L,sm (dat x) (dat y)=true:=λx b y a=>Bz (f x b).fine (f y a).fine;exact Mt (f:=λx=>fl (dat x)) (Mr (f:=dat) j (λx _ y _ e=>hJ.mp e) (λx b y a=>c x ((h x).mp b) y ((h y).mp a)) k) (Mr (f:=dat) i (λx _ y _ e=>hJ.mp e) c g) h
theorem neB{H:Hp}{b:Bool}{Q:VK}(q:Q (.bl false) H):rNeD K (.bl b) (.bl b) H Q:=⟨_,_,.bl b,.bl b,by cases b <;> rfl,by cases b <;> rfl,by cases b <;> rfl,by cases b <;> exact q⟩
theorem Ym{L M:List Dd}(d:L.Nodup)(e:M.Nodup)(s:∀x∈M,x∈L):(∃x∈L,x∉M)↔M.length<L.length:=by
 refine⟨λ⟨x,b,c⟩=>?_,λh=>?_⟩
 ·exact bK (rK.mpr ⟨c,e⟩) λy a=>by
   rcases xE.mp a with rfl|a
   ·exact b
   ·exact s y a
 ·refine tM λq=>?_;have:L.length<=M.length:=bK d λx b=>tM λz=>q ⟨x,b,z⟩;omega
theorem Yl{K:Frag}{H:Hp}{l p:Addr}{L:List Dd}{x:Dd}{neg:Bool}{Q:VK}(h:DlAt K H l L)(o:Dt K H (.ref p) (dat x))(q:Q (.bl (if neg=true then !decide (x∈L) else decide (x∈L))) H):rInD K neg (.ref p) (.ref l) H Q:=by
 obtain⟨ps,i,k⟩:=h;obtain⟨f,a,b,c⟩:=Mf k;have g:∀y∈f,tT 4 y.2=true/\Dt K H y.1 y.2:=λy d=>by
  refine⟨?_,c y d⟩;have:y.2∈L.map dat:=by rw[←b];exact pS.mpr ⟨y,d,rfl⟩
  obtain⟨z,_,e⟩:=pS.mp this;rw[←e];exact kI z
 have r:(f.any λy=>decide (y.2=dat x))=decide (x∈L):=by
  rw[qP,List.any_eq_true,decide_eq_true_iff];constructor
  ·rintro⟨y,d,e⟩;have:y.2∈L.map dat:=by rw[←b];exact pS.mpr ⟨y,d,rfl⟩
   obtain⟨z,n,j⟩:=pS.mp this;rw[←hJ.mp (j.trans (yM e))];exact n
  ·intro m;have:dat x∈f.map (·.2):=by rw[b];exact pS.mpr ⟨x,m,rfl⟩
   obtain⟨y,d,e⟩:=pS.mp this;exact⟨y,d,zL e⟩
 refine⟨l,f,dat x,rfl,.inl (by rw[a];exact SqL.of i),g,kI x,o,?_⟩;rw[r];exact q
theorem ok_1u(T:Txt K mg t):FnOk P w K mg base CX0 18 t.a_1u t.d_1u pD' (Hy K):=by
 have aa:=@ok_o P w K mg base t T;have r3:=@ok_h P w K mg base t T;have g9:=@ok_d P w K mg base t T;have h2:=@ok_0 P w K mg base t T;have c7:=@ok_1 P w K mg base t T;have c1:=@ok_u P w K mg base t T;have bm:=@ok_g P w K mg base t T;have au:=@ok_4 P w K mg base t T;have l4:=@ok_l P w K mg base t T;have v6:=@ok_1j P w K mg base t T;have bw:=@ok_8 P w K mg base t T;apply T.F_1u.ok sc_1u
 ·have I:=hr.units;obtain⟨a,ns,rfl,p4,dl,dk,v8⟩:=h;have a6:SqB false K H a (ns.map V.int):=p4;refine⟨_,(oN (oY (i:=1) sc_1u.nd rfl (Or.inl rfl) (oS aa hr.mo T.F_o (oK (pq 0) oM)))
   (oN (oY (i:=2) sc_1u.nd rfl (Or.inr rfl) (nQ T.z_len (oT (oT (pq 1)))))
   (oN (oY (i:=3) sc_1u.nd rfl (Or.inl rfl) (oS r3 hr.mo T.F_h (oK (eG sl_B (pq 0) (iF oW) (iF (oR lK oW (oR lA (oR kG (oS g9 hr.mo T.F_d (oK (pq 0) (oK oW oM))) oW) oW)))) (oK (pq 1) oM))))
   (oN (oY (i:=4) sc_1u.nd rfl (Or.inl rfl) (dW (C:=t.a_3) (T.mk_3) h2 hr.mo rfl T.m_3 T.bd_Group___init__ (dvs:=[.int 200]) (.cons ⟨_,rfl⟩ .nil) mK (oK (pq 2) (oK (pq 3) oM))))
   (oN (oY (i:=5) sc_1u.nd rfl (Or.inr rfl) (kA (C:=t.a_3) (pq 4) T.cl_3 T.me_1 c7 hr.mo T.b_1 .nil mK))
   (oN (oY (i:=6) sc_1u.nd rfl (Or.inl rfl) (dW (C:=t.a_3) (T.mk_3) h2 hr.mo rfl T.m_3 T.bd_Group___init__ (dvs:=[.int 200]) (.cons ⟨_,rfl⟩ .nil) mK (oK (pq 2) (oK (nR (sc:=oO s_1u) (N:=N_1u) (fr:=[("_law_members",5)]) (te:=(tOp (rIxB K) (tVar 1) (tOp (rI (λ_ j=>j≠0) λi j=>.int (i.fmod j)) (tVar 0) (tCB (kY K) (oV (tVar 1) tNil))))) rfl rfl (nofun) rfl (nofun) (nH (eG sl_B (pq 0) (iF oW) (iF (oR lK oW (oR lA (oS g9 hr.mo T.F_d (oK (pq 0) (oK oW oM))) oW))))) (λ_ _ _ M=>(mI ix_B (pv 1) (oR lA (pv 0) (nQ T.z_len (pv 1))) (λ_ _=>rfl)))) oM))))
   (oN (oY (i:=7) sc_1u.nd rfl (Or.inl rfl) (kA (C:=t.a_3) (pq 6) T.cl_3 T.me_1 c7 hr.mo T.b_1 .nil mK))
   (oN (oY (i:=8) sc_1u.nd rfl (Or.inl rfl) (kK c1 hr.mo rfl T.F_u.m T.F_u.kp T.F_u.b .nil jG (oK (pq 4) (oK (pq 6) oM))))
   (oN (nT (PW.pt (iC (dQ (gD (oS bm hr.mo T.F_g (oK (pq 8) oM)))) (iU (dQ (gD (oS au hr.mo T.F_4 (oK (pq 8) (oK (pq 5) (oK (pq 7) oM)))))))))
   (oP (nA kQ))
   nS)
   (oN (nT (nL (iW I) (oS l4 hr.mo T.F_l (oK (pq 6) (oK (pq 4) oM))) (jR dS (nQ T.z_len (pq 7)) (nQ T.z_len (pq 5)) (nJ _)) (nJ _))
   (oP (nA kQ))
   nS)
   (oN (iX (i:=9) (sc:=oO s_1u) (N:=N_1u) (fr:=[]) (te:=(tOp (rI0 λi j=>.int (i+j)) (tOp (rI jH λi j=>.int (i.fdiv j)) (tVar 0) (tC (.int 5))) (tC (.int 3)))) rfl rfl (nofun) rfl sc_1u.nd rfl rfl (nofun) (nH (eG sl_B (pq 0) (iF oW) (iF (oR lK oW (oR lA (oR kG (oS g9 hr.mo T.F_d (oK (pq 0) (oK oW oM))) oW) oW))))) (λ_ _ _ M=>(oR lK (oR kG (pv 0) oW) oW)))
   (oN (oY (i:=10) sc_1u.nd rfl (Or.inl rfl) (dW (C:=t.a_3) (T.mk_3) h2 hr.mo rfl T.m_3 T.bd_Group___init__ (dvs:=[.int 200]) (.cons ⟨_,rfl⟩ .nil) mK (oK (pq 2) (oK (oS r3 hr.mo T.F_h (oK (pq 9) (oK (pq 1) oM))) oM))))
   (oN (nT (nL (iW I) (oS l4 hr.mo T.F_l (oK (pq 4) (oK (pq 10) oM))) (jR (iW I) (kU (xs:=["_law_one"]) (fr:=[("_law_members",5)]) (g:=(oU 0)) (tt:=(jU (fD (tOp (rInD K true) (tVar 0) (tVar 1))) (tVar 0))) (lD (sc:=oO s_1u) (N:=N_1u) rfl rfl (nofun)) rfl (nH (kA (C:=t.a_3) (pq 10) T.cl_3 T.me_1 c7 hr.mo T.b_1 .nil mK)) (λ_ _ _ M=>(kX (N:=["_law_one","_law_members"]) (i:=0) M rfl (nofun))) (λ_ _ _ M=>(Cs (nL (Uz I) (pv 0) (pv 1) rfl) (pv 0)))) (lO oM) (nJ _)) (nJ _))
   (oP (nA kQ))
   nS)
   (oN (nT (PW.pt (iC (nL (iW I) (kK c1 hr.mo rfl T.F_u.m T.F_u.kp T.F_u.b .nil jG (oK (pq 4) (oK (pq 4) oM))) (lO (oK (Jo rfl rfl T.z_list rfl T.z_range (oK (nQ T.z_len (pq 5)) oM)) oM)) (nJ _)) (iU (nL (iW I) (kA (C:=t.a_3) (pq 4) T.cl_3 T.me_1 c7 hr.mo T.b_1 .nil mK) (pq 5) (nJ _)))))
   (oP (nA kQ))
   nS)
   (oN (fH (i:=11) (xs:=["_law_i"]) (fr:=[("_law_d",2)]) (g:=(oU 0)) (tt:=(tEl (tTup (oV (tCB (gG K) (oV (nW (mH (oV (tVar 1) tNil)) (oU 0) (tEl (tCB (λxs H Q=>(∃i,xs=[.int i]/\Q (.int i) H)\/∃k,xs=[.bl k]/\Q (.int (if k then 1 else 0)) H) (oV (tOp (rI0 λi j=>.bl (decide (i=j))) (tVar 1) (tVar 0)) tNil))) 1 [("_law_i",0)]) tNil)) (oV (tC (.int 1)) tNil))))) (lD (sc:=oO s_1u) (N:=N_1u) rfl rfl (nofun)) rfl sc_1u.nd rfl rfl (lJ rfl T.z_range (oK (pq 2) oM)) (λ_ _ _ M=>(jO (N:=["_law_i","_law_d"]) (i:=0) M rfl (nofun) rfl)) (λ_ _ _ M=>(lP (mG (oK (mP kL rfl T.z_tuple (nofun) (oK (nR (N:=["_law_i","_law_d"]) (fr:=[("_law_i",0)]) (te:=(tCB (λxs H Q=>(∃i,xs=[.int i]/\Q (.int i) H)\/∃k,xs=[.bl k]/\Q (.int (if k then 1 else 0)) H) (oV (tOp (rI0 λi j=>.bl (decide (i=j))) (tVar 1) (tVar 0)) tNil))) M rfl (nofun) rfl (nofun) (lJ rfl T.z_range (oK (pv 1) oM)) (λ_ _ _ ei=>(mP Bi rfl T.z_int (nofun) (oK (jR jM (pv 1) (pv 0) (nJ _)) oM)))) oM)) (oK oW oM))))))
   (oN (oY (i:=12) sc_1u.nd rfl (Or.inl rfl) (kK bw hr.mo rfl T.m_8 T.F_8.kp T.bd_changed (dvs:=[.int 200]) (.cons ⟨_,rfl⟩ .nil) mK (oK (pq 4) (oK (oS v6 hr.mo T.F_1j (oK (pq 11) (oK (mG (oK (mP kL rfl T.z_tuple (nofun) (oK (nR (sc:=oO s_1u) (N:=N_1u) (fr:=[]) (te:=(tC (.int 0))) rfl rfl (nofun) rfl (nofun) (lJ rfl T.z_range (oK (pq 2) oM)) (λ_ _ _ M=>oW)) oM)) (oK oW oM))) oM))) oM))))
   (oP (nA (Bm (jR (aG I) (kA (C:=t.a_3) (pq 12) T.cl_3 T.me_1 c7 hr.mo T.b_1 .nil mK) (pq 5) (nJ _)) (Bm (jR (aG I) (kK c1 hr.mo rfl T.F_u.m T.F_u.kp T.F_u.b .nil jG (oK (pq 12) (oK (pq 6) oM))) (pq 8) (nJ _)) (Fi (jR (aG I) (kK c1 hr.mo rfl T.F_u.m T.F_u.kp T.F_u.b .nil jG (oK (pq 4) (oK (pq 12) oM))) (kK c1 hr.mo rfl T.F_u.m T.F_u.kp T.F_u.b .nil jG (oK (pq 4) (oK (pq 4) oM))) (nJ _))))))))))))))))))))))),?_⟩
  show tSeq _ _ _ [some (.ref a),none,none,none,none,none,none,none,none,none,none,none,none] H;right;refine⟨a,ns,rfl,p4,λj4 k p f2 e6 e9 b8 k4 g6 ok=>?_⟩;have bi:=kO k;have okF:=ok.frm;obtain⟨lq,t9,cr,a0,a2,i0,x8⟩:=id g6;left;refine⟨true,j4,_,_,_,rfl,rfl,SqB.tup a0,rfl,true,t9,_,_,_,rfl,rfl,SqB.tup i0,rfl,?_⟩;refine kM (SqB.lst x8) ?_;rw[ok.lS];left;refine⟨a,ns,2,rfl,a6.up k4,∅,?_⟩;generalize ns.getD (Int.toNat 2) 0=n4
  try ext
  refine⟨⟨∅,∅⟩,∅,?_⟩;refine⟨false,a,_,rfl,a6.up k4,(by intro e;cases e),λc0 t6=>?_⟩;rw[eJ];have dq:=fms (n4.fdiv 12) 4 ∅;obtain⟨r0,w5⟩:=xK (show 0<=3+(n4.fdiv 12).fmod 4 by omega);rw[w5];have o8:((ns.drop (HT.sIx ns.length 0 (some 3))).take (HT.sIx ns.length ns.length (some (r0:Int))-HT.sIx ns.length 0 (some 3))).length<=3:=by
   rw[yS,show((3:Int))=((3:Nat):Int) from rfl,HT.sIx_nat,HT.sIx_nat];omega
  generalize (ns.drop (HT.sIx ns.length 0 (some 3))).take (HT.sIx ns.length ns.length (some (r0:Int))-HT.sIx ns.length 0 (some 3))=cs at o8;have t1:(upd b8 c0 (seqO false (cs.map V.int))) c0=some (.lst (cs.map V.int)):=oQ;have f3:Same b8 (upd b8 c0 (seqO false (cs.map V.int))):=Same.new t6;generalize upd b8 c0 (seqO false (cs.map V.int))=dy at t1 f3;refine⟨false,c0,j4,cs,k,p,f2,e6,e9,rfl,SqB.lst t1,o8,g6.up f3,ok,λmk dw ms j6 k7 w2 az k2 eg=>?_⟩;left;simp only[eF];ext;intro g r2 o4 y4 ce;have d9:Same j6 (upd (upd j6 r2 (.own g)) g (.ins t.a_3 r2 [])):=(Same.new y4).trans (Same.new (by rw[nC (yA ce)];exact o4));refine bT ok k2 (λm h=>h) ⋯ oQ (d9 _ _ w2) (Paired.mapP az λ_ _ z=>(DdAt.s z).up d9) λsrt u5 m7 t2 p2=>⟨rfl,?_⟩;have a9:Same j6 u5:=λb o e=>m7 b o (λz=>by rw[z,o4]at e;cases e) (d9 _ _ e);have t8:=(k4.trans (f3.trans k7)).trans a9;clear d9 m7;obtain⟨d,bf⟩:=Fn ok t2 p2 k2;have dz:0<srt.length:=by
   have:=List.length_pos_of_mem d.g.one
   rwa[zqe]at this
  left;simp only[mU];ext;refine gW d λf7 cd b6 e3 cx hl n0=>?_;have U:DlAt K b6 f7 (srt.map (·.1)):=⟨cd,hl,n0⟩;have d5:=t8.trans e3;clear hl n0;left;simp only[eF];ext;exfalso;refine⟨a,ns,7,rfl,a6.up d5,∅,?_⟩;generalize ns.getD (Int.toNat 7) 0=c8
  try ext
  refine⟨∅,?_⟩;refine⟨false,a,_,rfl,a6.up d5,(by intro e;cases e),λc2 bc=>?_⟩;rw[eJ];have dn:=fms c8 4 ∅;obtain⟨n9,y2⟩:=xK (show 0<=14+c8.fmod 4 by omega);rw[y2];have q9:((ns.drop (HT.sIx ns.length 0 (some 14))).take (HT.sIx ns.length ns.length (some (n9:Int))-HT.sIx ns.length 0 (some 14))).length<=3:=by
   rw[yS,show((14:Int))=((14:Nat):Int) from rfl,HT.sIx_nat,HT.sIx_nat];omega
  generalize (ns.drop (HT.sIx ns.length 0 (some 14))).take (HT.sIx ns.length ns.length (some (n9:Int))-HT.sIx ns.length 0 (some 14))=J at q9;have h4:(upd b6 c2 (seqO false (J.map V.int))) c2=some (.lst (J.map V.int)):=oQ;have c5:Same b6 (upd b6 c2 (seqO false (J.map V.int))):=Same.new bc;generalize upd b6 c2 (seqO false (J.map V.int))=eb at h4 c5;have cg:=d5.trans c5;refine⟨false,c2,rfl,⟨_,SqB.lst h4⟩,λw6 x7=>?_⟩;have O:=d.up e3;generalize eL:srt.map (·.1)=L at*
  have dp:L.length=srt.length:=by rw[←eL,zqe]
  have s0:∀c:Int,L.getD (c.fmod (L.length:Nat)).toNat (oX (famD k))∈L/\L[(c.fmod (L.length:Nat)).toNat]?=some (L.getD (c.fmod (L.length:Nat)).toNat (oX (famD k)))/\c.fmod (L.length:Nat)=((c.fmod (L.length:Nat)).toNat:Nat):=λc=>by
   have ej:=fms c L.length ⋯;obtain⟨ah,z1⟩:=at_D (d:=famD k) (T:=L) (i:=(c.fmod (L.length:Nat)).toNat) ⋯;exact⟨z1,ah,⋯⟩
  refine nO (λj y H'=>∃q x,y=V.ref q/\(J.map λc=>L.getD (c.fmod (L.length:Nat)).toNat (oX (famD k)))[j]?=some x/\DdS K (offH w6 H') q x) x7 (SqB.lst h4) (by rw[zqe];omega) (λ_ _ _ _⟨q,x,e1,y0,cb⟩d4=>⟨q,x,e1,y0,cb.up (gO d4)⟩) ?_ ?_
  ·intro j y b0 zs D e2 Z a1 W;obtain⟨c,i1,rfl⟩:=mS D;obtain⟨cq,al,v0⟩:=s0 c;subst eB;show tOp _ _ _ [some (.int c),some (.ref f7)] b0 a1;ext;refine fY (U.up (c5.trans e2)) ⟨_,_,rfl,rfl,⋯,?_⟩;exact Fo (U.up (c5.trans e2)) al v0 λq aq=>W _ _ (Same.refl _) ⟨q,_,rfl,by rw[zD,i1];rfl,DdS.tk (hZ aq) (iQ Z)⟩
  intro b0 ys e2 ap h9 ab;have ai:∃F:LA,ys=F.map V.ref/\Paired (DdS K b0) F (J.map λc=>L.getD (c.fmod (L.length:Nat)).toNat (oX (famD k))):=iR (by rw[h9,zqe,zqe]) λi y aw=>by
   obtain⟨q,x,a0,a2,i0⟩:=ab i y aw;exact⟨q,_,a0,a2,i0.up gN⟩
  obtain⟨de,rfl,r4⟩:=ai;have b9:∀m∈J.map λc=>L.getD (c.fmod (L.length:Nat)).toNat (oX (famD k)),m∈L:=λm a5=>by
   obtain⟨c,_,rfl⟩:=pS.mp a5;exact(s0 c).1
  have w3:(J.map λc=>L.getD (c.fmod (L.length:Nat)).toNat (oX (famD k))).length<=3:=by rw[zqe];exact q9
  generalize (J.map λc=>L.getD (c.fmod (L.length:Nat)).toNat (oX (famD k)))=bg at r4 b9 w3;have q8:∀m∈bg,lC (famD k) m/\InF (frm k p f2 e6 e9) (oZ m):=λm a5=>by
   have s3:=d.mb m (b9 m a5);exact⟨s3.fine,by rw[s3.rest];exact bf m (b9 m a5)⟩
  intro c6 n1 l7 s6 q6;have g0:Same b0 (upd (upd b0 n1 (.own c6)) c6 (.ins t.a_3 n1 [])):=(Same.new s6).trans (Same.new (by rw[nC (yA q6)];exact l7));refine bT ok q8 (λm h=>h) ⋯ oQ (g0 _ _ ap) (Paired.mapP r4 λ_ _ z=>DdS.up z g0) λr1 v1 b5 n6 k0=>⟨rfl,?_⟩;have x6:Same b0 v1:=λb o e=>b5 b o (λz=>by rw[z,l7]at e;cases e) (g0 _ _ e);have o2:=(c5.trans e2).trans x6;have x9:=d5.trans o2;clear g0 b5 s6 q6;obtain⟨d2,_⟩:=Fn ok n6 k0 q8;have d7:∀x∈r1.map (·.1),x∈L:=λx f=>by
   obtain⟨y,ay,rfl⟩:=pS.mp f;refine Mq d.g (λs bt=>?_) y (k0.pm.mem_iff.mp ay);obtain⟨m,a5,rfl⟩:=pS.mp bt;rw[(d.mb m (b9 m a5)).rest];exact b9 m a5
  clear k0 n6;generalize r1.map (·.1)=v at*
  left;simp only[mU];ext;refine gW d2 λn2 z0 o0 b5 dj r8 t3=>?_;have q5:DlAt K o0 n2 v:=⟨z0,r8,t3⟩;clear r8 t3;have cy:=x9.trans b5;have j9:=o2.trans b5;left;have sub:Sub (famD k) L v:=⟨d.g,d2.g,d7⟩;have v7:ShI (famD k) L v L.length (shR (famD k) L v):=fX sub (zE _);have k9:=d.len;have m0:=d2.len;have ak:=O.up j9;have h0:=d2.up b5;refine⟨g,c6,famD k,L,v,rfl,ak,h0,λ⟨x,f,u⟩=>absurd (d7 x f) u,λ_ fl bj r6 dg g1=>?_⟩;have y8:(shR (famD k) L v).length<=200:=yH bU k9;have df:=j9.trans r6;left;refine⟨fl,_,rfl,g1,y8,λr hr=>?_,λdc j1=>?_⟩
  ·obtain⟨n,u,e,s1⟩:=v7.of r hr;exact⟨(λz=>by rw[z]at s1;cases s1),by rw[e,sub.len u];exact m0⟩
  have g7:=r6.trans j1;have m8:=j9.trans g7
  try ext
  refine⟨fl,f7,n2,famD k,L,v,rfl,g1.up j1,U.up m8,q5.up g7,sub,d.mb,k9,m0,d.od,λcw h7=>?_⟩;have q7:=g7.trans h7;have s5:=m8.trans h7
  try ext
  left;refine⟨c6,g,famD k,v,L,rfl,h0.up q7,O.up s5,λb1 d1 i3 l8=>?_⟩;have q2:=q7.trans i3;have j5:=s5.trans i3;refine fY (q5.up q2) (fY (U.up j5) ⟨_,_,rfl,rfl,?_⟩);have m6:b1=decide ((v.length:Int)<(L.length:Int)):=by
   rw[qP,l8,Ym d.g.nd d2.g.nd d7,decide_eq_true_iff];omega
  show rNeD _ (V.bl b1) (V.bl (decide ((v.length:Int)<(L.length:Int)))) d1 _;rw[←m6];refine neB ⟨_,rfl,iteF ?_⟩;clear m6 l8;have m1:=d5.trans j5;left;exfalso;refine⟨a,ns,7,rfl,a6.up m1,∅,?_⟩;generalize ns.getD (Int.toNat 7) 0=c8
  try ext
  refine⟨⟨∅,∅⟩,∅,?_⟩;refine⟨false,a,_,rfl,a6.up m1,(by intro e;cases e),λc3 x4=>?_⟩;rw[eJ];have cm:=fms (c8.fdiv 4) 3 ∅;obtain⟨o7,y9⟩:=xK (show 0<=3+(c8.fdiv 4).fmod 3 by omega);rw[y9];have n7:((ns.drop (HT.sIx ns.length 0 (some 3))).take (HT.sIx ns.length ns.length (some (o7:Int))-HT.sIx ns.length 0 (some 3))).length<=3:=by
   rw[yS,show((3:Int))=((3:Nat):Int) from rfl,HT.sIx_nat,HT.sIx_nat];omega
  generalize (ns.drop (HT.sIx ns.length 0 (some 3))).take (HT.sIx ns.length ns.length (some (o7:Int))-HT.sIx ns.length 0 (some 3))=N at n7;have k3:(upd d1 c3 (seqO false (N.map V.int))) c3=some (.lst (N.map V.int)):=oQ;have f5:Same d1 (upd d1 c3 (seqO false (N.map V.int))):=Same.new x4;generalize upd d1 c3 (seqO false (N.map V.int))=dd at k3 f5;refine⟨false,c3,rfl,⟨_,SqB.lst k3⟩,λac x5=>?_⟩;refine nO (λj y _=>∃n,(N.map λc=>c.fdiv 5+3)[j]?=some n/\y=.int n) x5 (SqB.lst k3) (by rw[zqe];omega) (λ_ _ _ _ h _=>h) ?_ ?_
  ·intro j y s8 zs D e5 Z a1 W;obtain⟨c,i1,rfl⟩:=mS D;subst eB;show tOp _ _ _ [some (.int c)] s8 a1;ext;exact⟨⟨∅,∅⟩,W _ _ (Same.refl _) ⟨_,by rw[zD,i1];rfl,rfl⟩⟩
  intro s8 ys e5 s9 v4 u8;have D:ys=(N.map λc=>c.fdiv 5+3).map V.int:=mD (by rw[v4,zqe,zqe]) u8;subst D;have s4:(N.map λc=>c.fdiv 5+3).length<=3:=by rw[zqe];exact n7
  generalize (N.map λc=>c.fdiv 5+3)=bb at s9 s4;have o5:=j5.trans (f5.trans e5);have u9:=q2.trans (f5.trans e5);have u0:=g6.up (((f3.trans k7).trans a9).trans (e3.trans o5));left;simp only[eF];ext;refine⟨false,ac,j4,bb,k,p,f2,e6,e9,rfl,SqB.lst s9,s4,u0,ok,λdv dr ck j8 be x2 aj m4 ds=>?_⟩;intro g3 q1 s2 l6 r9;have c9:Same j8 (upd (upd j8 q1 (.own g3)) g3 (.ins t.a_3 q1 [])):=(Same.new l6).trans (Same.new (by rw[nC (yA r9)];exact s2));refine bT ok m4 (λm h=>h) ⋯ oQ (c9 _ _ x2) (Paired.mapP aj λ_ _ z=>(DdAt.s z).up c9) λbh G b4 p1 n8=>⟨rfl,?_⟩;have t7:Same j8 G:=λb o e=>b4 b o (λz=>by rw[z,s2]at e;cases e) (c9 _ _ e);have i4:=be.trans t7;have s7:=o5.trans i4;have x3:=u9.trans i4;clear c9 b4 l6 r9;obtain⟨j2,_⟩:=Fn ok p1 n8 m4;clear n8 p1;generalize bh.map (·.1)=a3 at*
  left;refine⟨g,g3,famD k,L,a3,rfl,O.up s7,j2,λb2 i6 Y l3=>?_⟩;have t5:=s7.trans Y;refine Hn λC B bp eB=>?_;simp only[iSeq,mU]
  try ext
  refine gW (j2.up Y) λad cj cn b3 _ p9 p8=>?_;have n3:=t5.trans b3;have cf:=nX p8;have cz:=j2.len;refine⟨false,ad,rfl,⟨_,SqB.lst p9⟩,λl0 ae=>?_⟩;refine Mx (λi zs H'=>zs.length<=i/\∃F:LA,zs=F.map V.ref/\Paired (λq x=>DdS K (offH l0 H') q x) F ((a3.take i).filter λx=>!decide (x∈L))) ae (SqB.lst p9) (by rw[zqe];omega) ⟨zE _,[],rfl,by rw[vR];exact .nil⟩ (λi zs b8 p=>p.1) (λi zs ct dx⟨k5,F,ar,f1⟩d4=>⟨k5,F,ar,Paired.mapP f1 λ_ _ z=>DdS.up z (gO d4)⟩) ?_ ?_
  ·rintro i y a4 zs D a8 Z ⟨k5,F,rfl,f1⟩ cp bo z8;obtain⟨q3,u2,rfl⟩:=mY D;obtain⟨x,ba,f⟩:=mZ p8 u2;have m9:=(hZ f).up a8;have m5:a3.take (i+1)=a3.take i++[x]:=by rw[wY,ba];rfl
   subst bp;subst eB;simp only[jU];show fD _ [some (.ref q3),some (.ref f7)] a4 _;ext;refine Yl (U.up (n3.trans a8)) (DdS.dt m9) ?_;refine⟨_,rfl,?_⟩
   by_cases e7:x∈L
   ·rw[zG rfl,zL e7];refine iteF (z8 _ (Same.refl _) ⟨⋯,F,rfl,?_⟩);rw[m5,List.filter_append];rw[show List.filter (λx=>!decide (x∈L)) [x]=[] by simp[e7],wX];exact f1
   ·rw[zG rfl,zN e7];refine iteT ?_
    try ext
    refine bo _ _ (Same.refl _) ⟨by rw[zS];exact Nat.succ_le_succ k5,F++[q3],by rw[yV];rfl,?_⟩;rw[m5,List.filter_append];rw[show List.filter (λx=>!decide (x∈L)) [x]=[x] by simp[e7]];exact Mg f1 (DdS.tk m9 (iQ Z))
  rintro a4 ys a8 t0 ⟨_,y6,rfl,i8⟩;rw[zqe,cf,vS]at i8;have p7:DlAt K a4 l0 (a3.filter λx=>!decide (x∈L)):=⟨y6,t0,Paired.mapP i8 λ_ _ z=>DdS.dt (z.up gN)⟩;have bz:=n3.trans a8;refine⟨∅,λf6 as=>?_⟩;have d0:Same a4 (upd a4 f6 (.lst [])):=Same.new as;have h6:DlAt K (upd a4 f6 (.lst [])) f6 []:=⟨[],oQ,.nil⟩;generalize upd a4 f6 (.lst [])=eh at d0 h6;have i5:=bz.trans d0;refine cH 5 ∅ (gX (p7.up d0)) (gX h6) (gY _) (gY _) (b:=decide ((a3.filter λx=>!decide (x∈L))=[])) ⟨λz=>by rw[yM z],λz=>zL (List.map_eq_nil_iff.mp (PyData.list.inj z))⟩ ?_;have r5:b2=!decide ((a3.filter λx=>!decide (x∈L))=[]):=by
   rw[qP,l3];simp[List.filter_eq_nil_iff]
  rw[←r5];refine neB ⟨_,rfl,iteF ?_⟩;clear r5 l3 p7 i8 t0 h6;have l9:=O.up i5;left;refine⟨g,g,famD k,L,L,rfl,l9,l9,λ⟨x,f,u⟩=>absurd f u,λ_ cu e8 p5 _ h1=>?_⟩;rw[Yy d.g]at h1;refine fY (U.up (i5.trans p5)) ⟨L.length,rfl,⋯,λS w8=>?_⟩;have i7:Same e8 (upd e8 S (.lst ((List.range L.length).map λ(i:Nat)=>V.int (i:Int)))):=Same.new w8;have i2:(upd e8 S (.lst ((List.range L.length).map λ(i:Nat)=>V.int (i:Int)))) S=some (.lst ((List.range L.length).map λ(i:Nat)=>V.int (i:Int))):=oQ;generalize upd e8 S (.lst ((List.range L.length).map λ(i:Nat)=>V.int (i:Int)))=e0 at i7 i2;refine⟨by show 1<=sizeLine;decide,λf8 ax=>?_⟩;have e4:Same e0 (upd e0 f8 (.lst [.ref S])):=Same.new ax;have j7:LsI (upd e0 f8 (.lst [.ref S])) f8 [List.range L.length]:=⟨[S],oQ,.cons (e4 _ _ i2) .nil⟩;generalize upd e0 f8 (.lst [.ref S])=ci at e4 j7;have k1:=p5.trans (i7.trans e4);have g8:=i5.trans k1;refine cH 3 ∅ (dM (h1.up (i7.trans e4))) (dM j7) (dN _) (dN _) (b:=true) (by simp) ⟨_,rfl,iteF ?_⟩;simp only[mU]
  try ext
  refine gW (O.up g8) λee bu ch f9 _ o3 p0=>?_;refine cH 5 ∅ (gX ⟨bu,o3,p0⟩) (gX (U.up (g8.trans f9))) (gY _) (gY _) (b:=true) (by simp) ⟨_,rfl,iteF ?_⟩;have ca:=g8.trans f9;clear h1 i2 j7 o3 p0;left;refine nF λB eB=>?_;simp only[mH];ext;refine⟨⋯,⋯,λn5 ag=>?_⟩;rw[zV];have l1:=(nM (d:=famD k)).1;refine kC (λj y H'=>∃b7,y=V.ref b7/\nP (offH n5 H') b7 ((idM (famD k)).getD j []) 1) ag ⋯ (λ_ _ _ _⟨b7,a0,a2⟩d4=>⟨b7,a0,a2.upS (gO d4)⟩) ?_ ?_
  ·intro j y3 zs a7 c9 Z a1 W;subst eB;show tTup _ [some (.int (0+(j:Int))),some (.int (famD k))] y3 a1;ext;refine nF λB eB=>?_;simp only[mH];ext;refine⟨⋯,⋯,λw7 y1=>?_⟩;rw[zV];obtain⟨l,X⟩:=fW l1 a7;have bq:(idM (famD k)).getD j []=l:=by rw[zqc,X];rfl
   have w0:l.length=famD k:=nM.2 l (zqb X);have v5:l=(List.range (famD k)).map λi=>if j=i then(1:Int) else 0:=by
    unfold idM at X;rw[zD,yP a7]at X;exact(zQ X).symm
   refine kC (λi y _=>∃n,l[i]?=some n/\y=.int n) y1 ⋯ (λ_ _ _ _ h _=>h) ?_ ?_
   ·intro i G ef hi b4 ed br bx;subst eB;show tCB _ _ [some (.int (0+(i:Int))),some (.int (0+(j:Int)))] G br;ext;refine .inr (bx _ _ (Same.refl _) ⟨_,by rw[v5,zD,yP hi];rfl,?_⟩);show _=V.int (if j=i then 1 else 0)
    by_cases z:j=i
    ·rw[zG z,zL ⋯];rfl
    ·rw[zF z,zN ⋯];rfl
   ·intro G ys b4 av h9 z3;have D:ys=l.map V.int:=mD (by rw[h9,w0]) z3;subst D;refine⟨w7,_,rfl,.inl ⟨SqL.of av,λl2 j3=>?_⟩⟩;have Y:Same G (upd G l2 (.tup (l.map V.int))):=Same.new j3;have d6:(upd G l2 (.tup (l.map V.int))) l2=some (.tup (l.map V.int)):=oQ;generalize upd G l2 (.tup (l.map V.int))=i6 at Y d6;refine⟨(by show 2<=sizeLine;decide),λR g5=>?_⟩;have b3:Same i6 (upd i6 R (.tup [.ref l2,.int 1])):=Same.new g5;have p3:=(b4.trans Y).trans b3;have tk:=iQ (K:=K) (p3 _ _ Z);exact W _ _ p3 ⟨R,rfl,by rw[bq];exact⟨l2,tk.k _ _ oQ,tk.k _ _ (b3 _ _ d6)⟩⟩
  intro bd ys g4 z4 q0 bv;have d8:∃ps:LA,ys=ps.map V.ref/\Paired (λq r=>nP bd q r 1) ps (idM (famD k)):=iR (by rw[q0,l1]) λj y r7=>by
   obtain⟨q,a0,a2⟩:=bv j y r7;have a7:j<(idM (famD k)).length:=by rw[l1,←q0];exact(zqa r7).1
   obtain⟨r,o9⟩:=fW rfl a7;exact⟨q,r,a0,o9,by rw[zqc,o9]at a2;exact a2.upS gN⟩
  obtain⟨l5,rfl,d8⟩:=d8;have z9:l5.length=famD k:=(nX d8).trans l1;have u1:=ca.trans g4;left;refine nF λB eB=>?_;simp only[mH];ext;refine⟨⋯,⋯,λaf z7=>?_⟩;rw[zV];refine kC (λj y _=>∃n,(List.replicate (famD k) (0:Int))[j]?=some n/\y=.int n) z7 ⋯ (λ_ _ _ _ h _=>h) ?_ ?_
  ·intro j G zs a7 b4 Z a1 W;subst eB;show tC _ [some (.int (0+(j:Int)))] G a1;ext;exact W _ _ (Same.refl _) ⟨0,by rw[sH,zG a7],rfl⟩
  intro f0 ys ao an w1 u7;have D:ys=(List.replicate (famD k) (0:Int)).map V.int:=mD (by rw[w1];simp) u7;subst D;refine⟨af,_,rfl,.inl ⟨SqL.of an,λl2 j3=>?_⟩⟩;have k8:Same f0 (upd f0 l2 (.tup ((List.replicate (famD k) (0:Int)).map V.int))):=Same.new j3;have d6:(upd f0 l2 (.tup ((List.replicate (famD k) (0:Int)).map V.int))) l2=some (.tup ((List.replicate (famD k) (0:Int)).map V.int)):=oQ;generalize upd f0 l2 (.tup ((List.replicate (famD k) (0:Int)).map V.int))=f4 at k8 d6;refine⟨(by show 2<=sizeLine;decide),λR g5=>?_⟩;have h8:Same f4 (upd f4 R (.tup [.ref l2,.int 1])):=Same.new g5;have p6:nP (upd f4 R (.tup [.ref l2,.int 1])) R (List.replicate (famD k) 0) 1:=⟨l2,oQ,h8 _ _ d6⟩;generalize upd f4 R (.tup [.ref l2,.int 1])=dm at h8 p6;have c4:=(ao.trans k8).trans h8;refine⟨n5,R,l5,famD k,rfl,c4 _ _ z4,z9,λi b7 e=>?_,p6,bi,λz2 dh j0 am=>?_⟩
  ·obtain⟨l,X,z⟩:=mZ d8 e;have:(idM (famD k)).getD i []=l:=by rw[zqc,X];rfl
   rw[this];exact z.upS c4
  have m2:=(u1.trans c4).trans j0;refine⟨g,z2,k,p,f2,e6,e9,ms,srt,rfl,(t2.up e3).up m2,am,ok,λm h=>(k2 m h).2,p2.pm,λh3 t4 o1 k6 g2 w9 q4 cl v9 y5=>?_⟩;rw[eL]at q4;have u3:o1.map (·.1)=L:=Yn d.mb d.g.nd y5 d.od (pZ.mpr v9) q4;have i9:GK K t k6 h3 (famD k) L:=⟨⟨t4,o1,w9,u3⟩,d.g,d.mb,d.len,d.od⟩;have x1:=m2.trans g2;symm;simp only[mU]
  try ext
  have w4:Same o0 k6:=x3.trans ((Y.trans (b3.trans (a8.trans d0))).trans (((k1.trans f9).trans g4).trans ((c4.trans j0).trans g2)));have u6:Same bj k6:=j1.trans (h7.trans (i3.trans ((f5.trans e5).trans (i4.trans ((Y.trans (b3.trans (a8.trans d0))).trans (((k1.trans f9).trans g4).trans ((c4.trans j0).trans g2)))))));refine gW i9 λco y7 di d3 _ z6 x0=>?_;have o6:=x1.trans d3;refine aQ 5 ∅ (gX ⟨y7,z6,x0⟩) (gX (U.up o6)) (gY _) (gY _) (b:=true) (by simp) ⟨_,rfl,iteT ?_⟩;refine⟨h3,c6,famD k,L,v,rfl,i9.up d3,h0.up (w4.trans d3),λ⟨x,f,u⟩=>absurd (d7 x f) u,λ_ ea cv a9 _ bn=>?_⟩;have h5:=o6.trans a9;refine aQ 3 ∅ (dM bn) (dM (g1.up ((u6.trans d3).trans a9))) (dN _) (dN _) (b:=true) (by simp) ⟨_,rfl,iteT ?_⟩;refine⟨g,h3,famD k,L,L,rfl,O.up h5,(i9.up d3).up a9,λ⟨x,f,u⟩=>absurd f u,λ_ db da m3 _ z5=>?_⟩;refine⟨g,g,famD k,L,L,rfl,O.up (h5.trans m3),O.up (h5.trans m3),λ⟨x,f,u⟩=>absurd f u,λ_ ec du cc _ u4=>?_⟩;exact aQ 3 ∅ (dM (z5.up cc)) (dM u4) (dN _) (dN _) (b:=true) (by simp) (v8 _)
end
theorem us1{b:Type}{us:List b}(h:us.length=1):∃a,us=[a]:=match us,h with|[a],_=>⟨a,rfl⟩
theorem us2{c:Type}{us:List c}(h:us.length=2):∃b a,us=[b,a]:=match us,h with|[b,a],_=>⟨b,a,rfl⟩
theorem us3{d:Type}{us:List d}(h:us.length=3):∃b a c,us=[b,a,c]:=match us,h with|[b,a,c],_=>⟨b,a,c,rfl⟩
theorem us4{e:Type}{us:List e}(h:us.length=4):∃a b c d,us=[a,b,c,d]:=match us,h with|[a,b,c,d],_=>⟨a,b,c,d,rfl⟩
theorem us5{f:Type}{us:List f}(h:us.length=5):∃a b d e c,us=[a,b,d,e,c]:=match us,h with|[a,b,d,e,c],_=>⟨a,b,d,e,c,rfl⟩
abbrev caG(K:Frag)(C:Addr):Prop:=findIn K (.ref C) "__class__"=some (some (.builtin "object.__class__"))
abbrev nG(K:Frag)(x:Str)(f:Addr):Prop:=nsIn K mainGlobals x=some (some (.ref f))
local macro_rules | `(tactic| walk_at "1")=>`(tactic| (intro _ _ _ _ _ _ us hl; obtain ⟨_,hh⟩:=us1 hl; subst hh; rfl))
local macro_rules | `(tactic| walk_at "2")=>`(tactic| (intro _ _ _ _ _ _ us hl; obtain ⟨_,_,hh⟩:=us2 hl; subst hh; rfl))
theorem txt_mk{K:Frag}{h:Heap}{h3:MT}(X:K.In h)(G:h.Ns mainGlobals h3)
  {f0 c2 l e0 k5 a g9 h9 c J c8 Y c1 k D c7 a1 q b9 c9 w n S p b4 I a5 W d1 b2 V a6 U c5 b8 f e i g t m b5 c4 d0 d2 a7 y b1 a3 o b6 P r R a0 c0 d3 F c6 d5 d6 d4 z O j a2 b0 Z b3 x c3 N b7 T u a4:Addr}{p3 as ci y5 cb ba bn r6 r4 p6 bc ce x3 q2 z7 w8 t0 x5 cx x4 ai aq cv o9 w5 bw o7 r8 s1 z6 q6 bp t2 o5 bm ct ay r7 bd p4 n1 bi l4 x2 t9 r0 y1 v7 cf bu v8 cj m0 cm l8 q0 p9 ca n4 q8 v9 t8 u1 y3 cn x9 s9:FuncData}
  {b:Addr}{ag m8:Option Addr}{u9:Array (Option Value)}{m1 bg z8 t7 f9 v0:Value}
  {f3:Addr}{aa:Value}{cu:Option Addr}{ab:Nat}{av:Array (Option Value)}{a8:Tok}
  {d:Addr}{n0 t6:Option Addr}{ax:Array (Option Value)}{s4 cg cl an e4 r3:Value}
  {i5:Addr}{r1:Value}{p5:Option Addr}{t1:Nat}{ak:Array (Option Value)}{M:Tok}
  {s8:Tok}
  (p0:nG K "CrystalError" f0)
  (q1:nG K "NoPlace" c2)
  (z5:nG K "NoDeed" l)
  (n8:nG K "TooMany" e0)
  (x7:nG K "NoNumber" k5)
  (r9:nG K "Group" a)
  (l5:nG K "NotKept" g9)
  (s7:nG K "NoChange" h9)
  (bq:nG K "NotWithin" c)
  (w6:nG K "divisor" J)
  (i0:Fun K "divisor" "divisor" s_15 J p3)
  (o1:nG K "multiple" c8)
  (k1:Fun K "multiple" "multiple" s_17 c8 as)
  (q9:nG K "place" Y)
  (j1:Fun K "place" "place" s_11 Y ci)
  (m5:nG K "rest_place" c1)
  (k3:Fun K "rest_place" "rest_place" Am c1 y5)
  (n5:nG K "place_sum" k)
  (i2:Fun K "place_sum" "place_sum" s_12 k cb)
  (s6:nG K "opposite" D)
  (e3:Fun K "opposite" "opposite" s_1b D ba)
  (p1:nG K "place_less" c7)
  (e2:Fun K "place_less" "place_less" s_10 c7 bn)
  (al:nG K "still_rows" a1)
  (j5:Fun K "still_rows" "still_rows" Al a1 r6)
  (p8:nG K "dot" q)
  (j0:Fun K "dot" "dot" s_1v q r4)
  (n3:nG K "turned" b9)
  (i9:Fun K "turned" "turned" s_1g b9 p6)
  (o4:nG K "times" c9)
  (h8:Fun K "times" "times" s_1o c9 bc)
  (m9:nG K "without" w)
  (f4:Fun K "without" "without" s_1e w ce)
  (t3:nG K "determinant" n)
  (g8:Fun K "determinant" "determinant" s_2 n x3)
  (y9:nG K "cofactor" S)
  (e9:Fun K "cofactor" "cofactor" s_16 S q2)
  (y0:nG K "crossed" p)
  (g6:Fun K "crossed" "crossed" s_1h p z7)
  (af:nG K "scaled" b4)
  (k2:Fun K "scaled" "scaled" s_1l b4 w8)
  (v6:nG K "joined" I)
  (i6:Fun K "joined" "joined" s_1c I t0)
  (cd:nG K "deed" a5)
  (f5:Fun K "deed" "deed" s_1r a5 x5)
  (bh:nG K "still" W)
  (i1:Fun K "still" "still" s_1s W cx)
  (ch:nG K "move" d1)
  (d9:Fun K "move" "move" s_1x d1 x4)
  (bt:nG K "moved" b2)
  (g7:Fun K "moved" "moved" s_1m b2 ai)
  (ah:nG K "behind" V)
  (g2:Fun K "behind" "behind" s_1i V aq)
  (w9:nG K "rest" a6)
  (f2:Fun K "rest" "rest" s_1t a6 cv)
  (r5:nG K "check_most" U)
  (i8:Fun K "check_most" "check_most" Dj U o9)
  (cw:nG K "check_axes" c5)
  (j7:Fun K "check_axes" "check_axes" Di c5 w5)
  (am:nG K "closed" b8)
  (k9:Fun K "closed" "closed" s_1f b8 bw)
  (da:findIn K (.ref a) "__init__"=some (some (.ref b)))
  (s2:K.lookup b=some ⟨m1,ag,.func (fnOf "__init__" "Group.__init__" (jS s_0) (kF s_0) (oO s_0) (.ref f3) bg z8 t7 m8 f9 v0),u9⟩)
  (aw:K.lookup f3=some ⟨aa,cu,.seq #[.int 200 a8] ab,av⟩)
  (z2:codeIn K f9 "Group.__init__"=true)
  (y7:keepIn K (.ref b)=true)
  (de:findIn K (.ref a) "axes"=some (some (.ref f)))
  (e7:Fun K "axes" "Group.axes" s_6 f o7)
  (dc:findIn K (.ref a) "makers"=some (some (.ref e)))
  (k8:Fun K "makers" "Group.makers" Dh e r8)
  (dd:findIn K (.ref a) "members"=some (some (.ref i)))
  (j3:Fun K "members" "Group.members" s_1 i s1)
  (db:findIn K (.ref a) "at"=some (some (.ref g)))
  (f1:Fun K "at" "Group.at" Dg g z6)
  (w1:nG K "group_of" t)
  (g3:Fun K "group_of" "group_of" s_18 t q6)
  (v4:nG K "check_alike_axes" m)
  (i7:Fun K "check_alike_axes" "check_alike_axes" Df m bp)
  (m6:nG K "lacks" b5)
  (h6:Fun K "lacks" "lacks" s_1p b5 t2)
  (l9:nG K "check_within" c4)
  (l2:Fun K "check_within" "check_within" De c4 o5)
  (p7:nG K "shares" d0)
  (j9:Fun K "shares" "shares" Ak d0 bm)
  (v5:nG K "change" d2)
  (f7:Fun K "change" "change" s_1j d2 ct)
  (o0:nG K "check_beside" a7)
  (h5:Fun K "check_beside" "check_beside" Dc a7 ay)
  (z0:nG K "forth" y)
  (f6:Fun K "forth" "forth" s_1k y r7)
  (q3:nG K "home" b1)
  (l3:Fun K "home" "home" s_1w b1 bd)
  (ap:nG K "led" a3)
  (j4:Fun K "led" "led" s_20 a3 p4)
  (be:nG K "new_place" o)
  (e8:Fun K "new_place" "new_place" s_14 o n1)
  (ao:nG K "new_deed" b6)
  (h4:Fun K "new_deed" "new_deed" cR b6 bi)
  (r2:nG K "check_moves" P)
  (f8:Fun K "check_moves" "check_moves" Db P l4)
  (bv:nG K "grown" r)
  (g5:Fun K "grown" "grown" s_1n r x2)
  (q4:nG K "changed" d)
  (cz:K.lookup d=some ⟨s4,n0,.func (fnOf "changed" "changed" (jS s_8) (kF s_8) (oO s_8) (.ref i5) cg cl an t6 e4 r3),ax⟩)
  (n2:K.lookup i5=some ⟨r1,p5,.seq #[.int 200 M] t1,ak⟩)
  (o6:codeIn K e4 "changed"=true)
  (bb:keepIn K (.ref d)=true)
  (bf:nG K "_law_cell_at" R)
  (l1:Fun K "_law_cell_at" "_law_cell_at" Da R t9)
  (q5:nG K "_law_whole" a0)
  (k4:Fun K "_law_whole" "_law_whole" s_13 a0 r0)
  (l6:nG K "_law_digits" c0)
  (e6:Fun K "_law_digits" "_law_digits" Ez c0 y1)
  (ck:nG K "_law_shared" d3)
  (h2:Fun K "_law_shared" "_law_shared" Ey d3 v7)
  (m2:nG K "_law_place" F)
  (g0:Fun K "_law_place" "_law_place" Aj F cf)
  (ar:nG K "_law_family" c6)
  (h1:Fun K "_law_family" "_law_family" cS c6 bu)
  (w3:nG K "_law_rows_times" d5)
  (k0:Fun K "_law_rows_times" "_law_rows_times" s_9 d5 v8)
  (o3:nG K "_law_led" d6)
  (g1:Fun K "_law_led" "_law_led" s_1d d6 cj)
  (w4:nG K "_law_maker" d4)
  (l0:Fun K "_law_maker" "_law_maker" Ai d4 m0)
  (bj:nG K "_law_step" z)
  (i3:Fun K "_law_step" "_law_step" s_19 z cm)
  (x1:nG K "_law_rows_there" O)
  (k6:Fun K "_law_rows_there" "_law_rows_there" s_5 O l8)
  (q7:nG K "_law_tops_there" j)
  (h0:Fun K "_law_tops_there" "_law_tops_there" Ex j q0)
  (n6:nG K "_law_deed_there" a2)
  (d7:Fun K "_law_deed_there" "_law_deed_there" s_7 a2 p9)
  (az:nG K "_law_frame" b0)
  (g4:Fun K "_law_frame" "_law_frame" cT b0 ca)
  (ae:nG K "_law_makers" Z)
  (j8:Fun K "_law_makers" "_law_makers" Ew Z n4)
  (n7:nG K "_law_reached" b3)
  (h7:Fun K "_law_reached" "_law_reached" Ah b3 q8)
  (au:nG K "_law_rest" x)
  (i4:Fun K "_law_rest" "_law_rest" s_1a x v9)
  (bx:nG K "_law_behind" c3)
  (j2:Fun K "_law_behind" "_law_behind" Ag c3 t8)
  (u5:nG K "_law_rest_of" N)
  (e5:Fun K "_law_rest_of" "_law_rest_of" Ev N u1)
  (br:nG K "_law_is_lists" b7)
  (d8:Fun K "_law_is_lists" "_law_is_lists" Af b7 y3)
  (t5:nG K "_law_shared_out" T)
  (j6:Fun K "_law_shared_out" "_law_shared_out" s_4 T cn)
  (y2:nG K "_law_refused" u)
  (k7:Fun K "_law_refused" "_law_refused" Eu u x9)
  (p2:nG K "law" a4)
  (L:Fun K "law" "law" s_1u a4 s9)
  (ac:nsIn K mainGlobals "MOST_MEMBERS"=some (some (.int 200 s8)))
  (co:nsIn K mainGlobals "any"=some none)
  (bo:nsIn K mainGlobals "sum"=some none)
  (m4:nsIn K mainGlobals "zip"=some none)
  (cc:nsIn K mainGlobals "enumerate"=some none)
  (v1:nsIn K mainGlobals "range"=some none)
  (x0:nsIn K mainGlobals "len"=some none)
  (aj:nsIn K mainGlobals "abs"=some none)
  (z3:nsIn K mainGlobals "isinstance"=some none)
  (u8:nsIn K mainGlobals "int"=some none)
  (y6:nsIn K mainGlobals "bool"=some none)
  (cp:nsIn K mainGlobals "list"=some none)
  (z4:nsIn K mainGlobals "tuple"=some none)
  (cr:nsIn K mainGlobals "sorted"=some none)
  (cq:nsIn K mainGlobals "dict"=some none)
  (o8:kitOne K (.type "int") (.type "int")=some true)
  (z1:kitOne K (.type "int") (.type "bool")=some false)
  (w0:kitOne K (.type "tuple") (.type "tuple")=some true)
  (u3:kitOne K (.type "list") (.type "list")=some true)
  (bz:PySem.W.excIn K c2 [.type "ValueError",.type "Exception",.type "BaseException",.type "object"] "ValueError.__new__"=true)
  (o2:PySem.W.excIn K l [.type "ValueError",.type "Exception",.type "BaseException",.type "object"] "ValueError.__new__"=true)
  (x6:L2.Cls K a)
  (u2:L2.Mk K a b)
  (u0:L2.Meth K a "members" i)
  (y4:findIn K (.ref a) "dimension"=some none)
  (l7:findIn K (.ref a) "given"=some none)
  (m3:findIn K (.ref a) "ordered"=some none)
  (y8:findIn K (.ref a) "shortest"=some none)
  (u4:findIn K (.ref a) "numbers"=some none)
  (cy:L2.Meth K a "axes" f)
  (ad:L2.Meth K a "makers" e)
  (m7:L2.Meth K a "at" g)
  (u7:PySem.W.excIn K c [.type "ValueError",.type "Exception",.type "BaseException",.type "object"] "ValueError.__new__"=true)
  (t4:PySem.W.exmOne K (.ref c) (.ref c)=some true)
  :∃x8,Txt K h3 x8:=by
 have a9:=Js (st:=s_0) (ds:=[.int 200 a8]) s2 z2 y7 aw;have w2:=a9.bindsA (ps:=pf') λ_ _ _ _ _ _ _ us hl=>by obtain⟨_,_,_,_,rfl⟩:=us4 hl;exact⟨_,rfl,rfl⟩
 have w7:=a9.binds (ps:=pf') λ_ _ _ _ _ _ _ us hl=>by obtain⟨_,_,_,rfl⟩:=us3 (rO hl);exact⟨_,rfl,rfl⟩
 have n9:=e7.binds (ps:=pL') (by walk_at "1");have z9:=k8.binds (ps:=pL') (by walk_at "1");have s5:=j3.binds (ps:=pL') (by walk_at "1");have s3:=f1.binds (ps:=pE') (by walk_at "2");have C:=Js (st:=s_8) (ds:=[.int 200 M]) cz o6 bb n2;have u6:=C.bindsA (ps:=pq') λ_ _ _ _ _ _ _ us hl=>by obtain⟨_,_,_,rfl⟩:=us3 hl;exact⟨_,rfl,rfl⟩
 have s0:=C.binds (ps:=pq') λ_ _ _ _ _ _ _ us hl=>by obtain⟨_,_,rfl⟩:=us2 (rO hl);exact⟨_,rfl,rfl⟩
 obtain⟨_,_,_,_,_,_,_,_,_,rfl,_,_⟩:=id L.ex;exact⟨⟨J,c8,Y,c1,k,D,c7,a1,q,b9,c9,w,n,S,p,b4,I,a5,W,d1,b2,V,a6,U,c5,b8,b,f,e,i,g,t,m,b5,c4,d0,d2,a7,y,b1,a3,o,b6,P,r,d,R,a0,c0,d3,F,c6,d5,d6,d4,z,O,j,a2,b0,Z,b3,x,c3,N,b7,T,u,a4,_,_,_,_,_,_,_,_,_,_,_,_,_,_,_,_,_,_,_,_,_,_,_,_,_,_,_,_,_,_,_,_,_,_,_,_,_,_,_,_,_,_,_,_,_,_,_,_,_,_,_,_,_,_,_,_,_,_,_,_,_,_,_,_,_,_,_,_,_,f0,c2,l,e0,k5,a,g9,h9,c,a8,M⟩,⟨⟨i0,yB X G w6,i0.binds (λ_ _ _ _ _ _ us hl=>by obtain⟨_,_,rfl⟩:=us2 hl;rfl)⟩,⟨k1,yB X G o1,k1.binds (λ_ _ _ _ _ _ us hl=>by obtain⟨_,rfl⟩:=us1 hl;rfl)⟩,⟨j1,yB X G q9,j1.binds (λ_ _ _ _ _ _ us hl=>by obtain⟨_,_,rfl⟩:=us2 hl;rfl)⟩,⟨k3,yB X G m5,k3.binds (λ_ _ _ _ _ _ us hl=>by obtain⟨_,rfl⟩:=us1 hl;rfl)⟩,⟨i2,yB X G n5,i2.binds (λ_ _ _ _ _ _ us hl=>by obtain⟨_,_,rfl⟩:=us2 hl;rfl)⟩,⟨e3,yB X G s6,e3.binds (λ_ _ _ _ _ _ us hl=>by obtain⟨_,rfl⟩:=us1 hl;rfl)⟩,⟨e2,yB X G p1,e2.binds (λ_ _ _ _ _ _ us hl=>by obtain⟨_,_,rfl⟩:=us2 hl;rfl)⟩,⟨j5,yB X G al,j5.binds (λ_ _ _ _ _ _ us hl=>by obtain⟨_,rfl⟩:=us1 hl;rfl)⟩,⟨j0,yB X G p8,j0.binds (λ_ _ _ _ _ _ us hl=>by obtain⟨_,_,rfl⟩:=us2 hl;rfl)⟩,⟨i9,yB X G n3,i9.binds (λ_ _ _ _ _ _ us hl=>by obtain⟨_,rfl⟩:=us1 hl;rfl)⟩,⟨h8,yB X G o4,h8.binds (λ_ _ _ _ _ _ us hl=>by obtain⟨_,_,rfl⟩:=us2 hl;rfl)⟩,⟨f4,yB X G m9,f4.binds (λ_ _ _ _ _ _ us hl=>by obtain⟨_,_,_,rfl⟩:=us3 hl;rfl)⟩,⟨g8,yB X G t3,g8.binds (λ_ _ _ _ _ _ us hl=>by obtain⟨_,rfl⟩:=us1 hl;rfl)⟩,⟨e9,yB X G y9,e9.binds (λ_ _ _ _ _ _ us hl=>by obtain⟨_,_,_,rfl⟩:=us3 hl;rfl)⟩,⟨g6,yB X G y0,g6.binds (λ_ _ _ _ _ _ us hl=>by obtain⟨_,rfl⟩:=us1 hl;rfl)⟩,⟨k2,yB X G af,k2.binds (λ_ _ _ _ _ _ us hl=>by obtain⟨_,_,rfl⟩:=us2 hl;rfl)⟩,⟨i6,yB X G v6,i6.binds (λ_ _ _ _ _ _ us hl=>by obtain⟨_,_,rfl⟩:=us2 hl;rfl)⟩,⟨f5,yB X G cd,f5.binds (λ_ _ _ _ _ _ us hl=>by obtain⟨_,_,_,rfl⟩:=us3 hl;rfl)⟩,⟨i1,yB X G bh,i1.binds (λ_ _ _ _ _ _ us hl=>by obtain⟨_,rfl⟩:=us1 hl;rfl)⟩,⟨d9,yB X G ch,d9.binds (λ_ _ _ _ _ _ us hl=>by obtain⟨_,rfl⟩:=us1 hl;rfl)⟩,⟨g7,yB X G bt,g7.binds (λ_ _ _ _ _ _ us hl=>by obtain⟨_,_,rfl⟩:=us2 hl;rfl)⟩,⟨g2,yB X G ah,g2.binds (λ_ _ _ _ _ _ us hl=>by obtain⟨_,_,rfl⟩:=us2 hl;rfl)⟩,⟨f2,yB X G w9,f2.binds (λ_ _ _ _ _ _ us hl=>by obtain⟨_,rfl⟩:=us1 hl;rfl)⟩,⟨i8,yB X G r5,i8.binds (λ_ _ _ _ _ _ us hl=>by obtain⟨_,rfl⟩:=us1 hl;rfl)⟩,⟨j7,yB X G cw,j7.binds (λ_ _ _ _ _ _ us hl=>by obtain⟨_,_,rfl⟩:=us2 hl;rfl)⟩,⟨k9,yB X G am,k9.binds (λ_ _ _ _ _ _ us hl=>by obtain⟨_,_,_,rfl⟩:=us3 hl;rfl)⟩,a9,w7,w2,e7,n9,k8,z9,j3,s5,f1,s3,⟨g3,yB X G w1,g3.binds (λ_ _ _ _ _ _ us hl=>by obtain⟨_,_,rfl⟩:=us2 hl;rfl)⟩,⟨i7,yB X G v4,i7.binds (λ_ _ _ _ _ _ us hl=>by obtain⟨_,_,rfl⟩:=us2 hl;rfl)⟩,⟨h6,yB X G m6,h6.binds (λ_ _ _ _ _ _ us hl=>by obtain⟨_,_,rfl⟩:=us2 hl;rfl)⟩,⟨l2,yB X G l9,l2.binds (λ_ _ _ _ _ _ us hl=>by obtain⟨_,_,rfl⟩:=us2 hl;rfl)⟩,⟨j9,yB X G p7,j9.binds (λ_ _ _ _ _ _ us hl=>by obtain⟨_,_,rfl⟩:=us2 hl;rfl)⟩,⟨f7,yB X G v5,f7.binds (λ_ _ _ _ _ _ us hl=>by obtain⟨_,_,rfl⟩:=us2 hl;rfl)⟩,⟨h5,yB X G o0,h5.binds (λ_ _ _ _ _ _ us hl=>by obtain⟨_,_,rfl⟩:=us2 hl;rfl)⟩,⟨f6,yB X G z0,f6.binds (λ_ _ _ _ _ _ us hl=>by obtain⟨_,rfl⟩:=us1 hl;rfl)⟩,⟨l3,yB X G q3,l3.binds (λ_ _ _ _ _ _ us hl=>by obtain⟨_,rfl⟩:=us1 hl;rfl)⟩,⟨j4,yB X G ap,j4.binds (λ_ _ _ _ _ _ us hl=>by obtain⟨_,_,rfl⟩:=us2 hl;rfl)⟩,⟨e8,yB X G be,e8.binds (λ_ _ _ _ _ _ us hl=>by obtain⟨_,_,rfl⟩:=us2 hl;rfl)⟩,⟨h4,yB X G ao,h4.binds (λ_ _ _ _ _ _ us hl=>by obtain⟨_,_,rfl⟩:=us2 hl;rfl)⟩,⟨f8,yB X G r2,f8.binds (λ_ _ _ _ _ _ us hl=>by obtain⟨_,_,rfl⟩:=us2 hl;rfl)⟩,⟨g5,yB X G bv,g5.binds (λ_ _ _ _ _ _ us hl=>by obtain⟨_,_,rfl⟩:=us2 hl;rfl)⟩,C,s0,yB X G q4,u6,⟨l1,yB X G bf,l1.binds (λ_ _ _ _ _ _ us hl=>by obtain⟨_,_,rfl⟩:=us2 hl;rfl)⟩,⟨k4,yB X G q5,k4.binds (λ_ _ _ _ _ _ us hl=>by obtain⟨_,rfl⟩:=us1 hl;rfl)⟩,⟨e6,yB X G l6,e6.binds (λ_ _ _ _ _ _ us hl=>by obtain⟨_,_,_,rfl⟩:=us3 hl;rfl)⟩,⟨h2,yB X G ck,h2.binds (λ_ _ _ _ _ _ us hl=>by obtain⟨_,_,rfl⟩:=us2 hl;rfl)⟩,⟨g0,yB X G m2,g0.binds (λ_ _ _ _ _ _ us hl=>by obtain⟨_,_,rfl⟩:=us2 hl;rfl)⟩,⟨h1,yB X G ar,h1.binds (λ_ _ _ _ _ _ us hl=>by obtain⟨_,rfl⟩:=us1 hl;rfl)⟩,⟨k0,yB X G w3,k0.binds (λ_ _ _ _ _ _ us hl=>by obtain⟨_,_,rfl⟩:=us2 hl;rfl)⟩,⟨g1,yB X G o3,g1.binds (λ_ _ _ _ _ _ us hl=>by obtain⟨_,_,rfl⟩:=us2 hl;rfl)⟩,⟨l0,yB X G w4,l0.binds (λ_ _ _ _ _ _ us hl=>by obtain⟨_,_,_,rfl⟩:=us3 hl;rfl)⟩,⟨i3,yB X G bj,i3.binds (λ_ _ _ _ _ _ us hl=>by obtain⟨_,_,rfl⟩:=us2 hl;rfl)⟩,⟨k6,yB X G x1,k6.binds (λ_ _ _ _ _ _ us hl=>by obtain⟨_,_,rfl⟩:=us2 hl;rfl)⟩,⟨h0,yB X G q7,h0.binds (λ_ _ _ _ _ _ us hl=>by obtain⟨_,_,rfl⟩:=us2 hl;rfl)⟩,⟨d7,yB X G n6,d7.binds (λ_ _ _ _ _ _ us hl=>by obtain⟨_,_,_,_,_,rfl⟩:=us5 hl;rfl)⟩,⟨g4,yB X G az,g4.binds (λ_ _ _ _ _ _ us hl=>by obtain⟨_,rfl⟩:=us1 hl;rfl)⟩,⟨j8,yB X G ae,j8.binds (λ_ _ _ _ _ _ us hl=>by obtain⟨_,_,rfl⟩:=us2 hl;rfl)⟩,⟨h7,yB X G n7,h7.binds (λ_ _ _ _ _ _ us hl=>by obtain⟨_,_,rfl⟩:=us2 hl;rfl)⟩,⟨i4,yB X G au,i4.binds (λ_ _ _ _ _ _ us hl=>by obtain⟨_,rfl⟩:=us1 hl;rfl)⟩,⟨j2,yB X G bx,j2.binds (λ_ _ _ _ _ _ us hl=>by obtain⟨_,_,rfl⟩:=us2 hl;rfl)⟩,⟨e5,yB X G u5,e5.binds (λ_ _ _ _ _ _ us hl=>by obtain⟨_,rfl⟩:=us1 hl;rfl)⟩,⟨d8,yB X G br,d8.binds (λ_ _ _ _ _ _ us hl=>by obtain⟨_,rfl⟩:=us1 hl;rfl)⟩,⟨j6,yB X G t5,j6.binds (λ_ _ _ _ _ _ us hl=>by obtain⟨_,_,_,rfl⟩:=us3 hl;rfl)⟩,⟨k7,yB X G y2,k7.binds (λ_ _ _ _ _ _ us hl=>by obtain⟨_,_,rfl⟩:=us2 hl;rfl)⟩,⟨L,yB X G p2,L.binds (λ_ _ _ _ _ _ us hl=>by obtain⟨_,rfl⟩:=us1 hl;rfl)⟩,yY X G co,yY X G bo,yY X G m4,yY X G cc,yY X G v1,yY X G x0,yY X G aj,yY X G z3,yY X G u8,yY X G y6,yY X G cp,yY X G z4,yY X G cr,yY X G cq,yB X G p0,yB X G q1,yB X G z5,yB X G n8,yB X G x7,yB X G r9,yB X G l5,yB X G s7,yB X G bq,⟨_,yB X G ac,_,rfl⟩,o8,z1,w0,u3,bz,o2,x6,u2,u0,y4,l7,m3,y8,u4,cy,ad,m7,u7,t4,λs v=>.of_eq rfl⟩⟩
end Cw
end
open PySem PySem.W PyProof.Rows
/-! Names that the head would else lay equations under: the proof wants none of them. -/
namespace PySem.W.Fast
local macro_rules|`(command|include $x)=>`(def $x:ident:=Nat)|`(command|include $x $y $z*)=>`(def $x:ident:=Nat
include $y $z*)
include tw1765528422812231122 tw11917616194240770263 tw17734031158219248162 tw9515626039185745922 tw668535528769821778 tw12149037968833849692 tw385307542525574007 tw11983954552935556962 tw6910830496273861787 tw11100201213974258360 tw11905008387101379623 tw7858642965216976168 tw6399265841569288029 tw11933286629649646911 tw11616316714809576158 tw6446710788411908321 tw9175870472364035569 tw5095614433613825685 tw272043616395207864 tw8900354292398973148 tw5676648525538486799 tw380172795481300353 tw8406139566567854009 tw921233068168482981 tw10252836639826451386 tw6147026923383954514 tw3664216958151036224 tw12965038342711968213 tw8763820102086834106 tw14202186363252241159 tw8658515092453949331 tw11115660211083844580 tw11185114987665117911 tw12441137388325048919 tw9741724204404929533 tw2734862754900190865 tw7194199595895984135 tw17196711173165987037 tw2173671710353503730 tw931992070488678763 tw15138888683281829674 tw6774579317776366162 tw15929110031228290822 tw13555547148040614990 tw15669048821579516687 tw17576060055988287088 tw11235847854092729778 tw2573228665170651125 tw15984947141762755831 tw5077578191197568484 tw10212715250105574811 tw6434151176306400933 tw7623328645468660886 tw3371408107467209065 tw16831545882464155333 tw3544337944332990580 tw8072492886487790361 tw14424443141796510484 tw1201006930317864816 tw3829637594593759226 tw10011547384613421795 tw555107363180502539 tw11650278070257074040 tw3686052960874189851 tw4593558705700580254 tw17132041689301079552 tw15262443035887089830 tw17431992695447624826 tw12381764072130055156 tw2880245045424611819 tw2086095330576028994 tw15894216978808878385 tw1801388453375870559 tw15186830080136755625 tw16292646000316676840 tw16920853338501069385 tw241085535773042285 tw1871013043718503642 tw17379790104517053661 tw10252855963040448653 tw15096551402909834914 tw3319317061416858574 tw10950600908318682810 tw4776229419158879906 tw13545485249530966496 tw7096495101470256268 tw22574528505758529 tw2564486275233788684 tw17295915649139727510 tw2622069780465819686 tw12430161450361275399 tw14610575358103643329 tw7211352911574077033 tw16079899848281047829 tw9227135041945080023 tw9565698446072362477 tw17179860471207720672 tw15118179066419668803 tw1726055046657294736 tw15389394416710409541 tw8450036622647822947 tw393366767887194133 tw13986895400167761474 tw15881568918113535302 tw4640435636486572606 tw14612564704216233040 tw10700120880130681170 tw236294639695116949 tw10478047320054983588 tw3586873742263017132 tw6533207567980073941 tw10633091713142372083 tw7697531680777835379 tw4265069780266921985 tw7627438939662834267 tw18071761932680237471 tw10701774135677698981 tw18059581784987911310 tw8932534677256206312 tw15689457403221414858 tw15179094092421409591 tw12066739576113737922 tw18445068084306429723 tw17451242774277487159 tw16688741387184824859 tw11855457868875319303 tw14865555656918005915 tw11211061350040774559 tw15464234520058919287 tw14053044948376627184 tw7786310881637463185 tw12694036849018604732 tw2568603764731936940 tw4955710828958569046 tw818763774563901632 tw785981200303731914 tw4071084828467203884 tw14199170386312574088 tw14167956156163218222 tw2582683822555054832 tw13694462894053023041 tw1965605684937225546 tw6978271143935383077 tw6678996255691222363 tw8478834640508690774 tw13784465576334662849 tw445357432609637812 tw5855406349594062672 tw2405206628161521705 tw11401895418525435965 tw3502224713588994724 tw8225622734453686690 tw6094651214841687350 tw3101957962886575753 tw7801661785089533943 tw13084232949227767937 tw13652289924180049895 tw12523368374881325790 tw13923219490801219391 tw16745260503822634454 tw11507207554563880026 tw3739263243002234993 tw14118393215295221198 tw14267776457434133886 tw16704238201222549455 tw7490110475239466162 tw1290721960604753132 tw4471330609816042281 tw4631490625179176535 tw7508482499726762599 tw682680761921476700 tw4981890874429407765 tw9655401345947964836 tw1683688194832495053 tw13243241240167108478 tw3166520480525161276 tw3231398080038089430 tw2029765440834962004 tw69880324038612362 tw10696360551868025152 tw1712084113521255252 tw289402390099758976 tw6374254230457006688 tw13322835673765991153 tw8472283204853103371 tw6774509414052183883 tw3860004777774692956 tw281969021738183243 tw2103509847056791134 tw8908197736599641666 tw2687154746192214835 tw4736319864206001492 tw13192142341947273841 tw3537580531774203874 tw13935931574734685093 tw18410528861773627870 tw2909606762659838574 tw10665319702953867489 tw8694140026175655713 tw13775555814609147997 tw2466736340584242549 tw1511532949518028131 tw5983352498190349590 tw2915167354026651946 tw8806839256060879481 tw18400536157905266501 tw4609140151179557280 tw6801217401087194684 tw6279420655592672527 tw237770575501276775 tw14350911639793104396 tw7604718012866499618 tw17603187398916213707 tw17976210821496283223 tw9557798532658599312 tw13190213341634748563 tw5132642086854175873 tw10127501613625507270 tw2426415533861539439 tw9981938023411159426 tw3304581641578128570 tw2134706058777023253 tw7430796158771015284 tw8480192997306921685 tw7560249226099913127 tw12040722584354989066 tw2199469808448325322 tw15143117393099921893 tw7029275646183734296 tw11067816174209976642 tw18228003375761225442 tw5669650015645098998 tw6028104223040434794 tw1516784811249525172 tw12280901951975382426 tw3905418573296934230 tw9080194578432286040 tw17357830397294833004 tw16458748719717571417 tw12798069250697488789 tw13084866397600014391 tw8107264562367238892 tw16710504127974157911 tw13446914784393480250 tw16337199536942126087 tw10342594416148923586 tw667652811893726998 tw797978514091762093 tw17372853057823790250 tw6449507659141000662 tw5472464801354690431 tw7445373869219940817 tw13118455289327013520 tw9619050374156725647 tw76486690406795484 tw18179069305624478242 tw6084975430011517815 tw5872767756282765598 tw1157233316831943982 tw13277381545414888349 tw8621449002989971716 tw5234356006105926264 tw6877496480965309966 tw3315871188896302749 tw7336335169078414023 tw13978273007968815865 tw13819616129121983415 tw1478007591229937006 tw15163444623332643829 tw15005631260748061090 tw7741199575122792762 tw13855868439370863267 tw14978264743322056667 tw12521506363983651805 tw8043062459864798345 tw9344589219838232092 tw11687321155760186283 tw18298585459085522091 tw15326115583476353206 tw17971065764240982232 tw16096077154860195385 tw15482709204650081250 tw9176727871111345189 tw16735277643980000967 tw17681600860970785333 tw15669571253719681632 tw12043934867439626217 tw14990050197216547628 tw807730236266222091 tw12587881123908010066 tw17268282974907747380 tw14234685885458832536 tw10258961737560459330 tw4059204795478077880 tw14543285403248833175 tw9194536593903714521 tw69339444565774592 tw16851320446789173330 tw8786267461719506674 tw10630763151095843727 tw15545774020511952793 tw1909261434835434621 tw3353241067324639547 tw3002727076757804288 tw6298556393965387301 tw16747788464811059105 tw875171824672267391 tw16601924030200562146 tw7703903099288628519 tw17169676320251896303 tw3873702632488516896 tw8298599237849521682 tw15518666680515872449 tw545200614347920171 tw3398151105101557424 tw11277270394655155476 tw12611756515909755035 tw17542831624350352578 tw18111610117373407393 tw5600142600535407670 tw14323473418092768367 tw13404305742349750263 tw6046355525035596639 tw9318353409024647729 tw402554460887357311 tw5304132147650346907 tw1306560927415819685 tw3956913080107890094 tw5538351569343736432 tw13490858015253851891 tw10555573650683092511 tw9475159149776122318 tw9908148712279445228 tw12780801996607790923 tw13753225825205549403 tw1070666528353673079 tw8849459234401438281 tw13152492167826229252 tw11878819639444989622 tw17086072741249434182 tw8767322252297299559 tw8042978806661731170 tw6174802368703279861 tw14776272184860059295 tw13433553556358176857 tw16984776841065078082 tw14553678577707399306 tw11348729990635542853 tw18166872120343890572 tw17305585151560418122 tw12697694176131042262 tw9328523648058706370 tw4142670802820585810 tw12229311826922379581 tw16715129844256368635 tw935069254799778592 tw6532403912573664983 tw1407281662488797645 tw17073888934150756588 tw9956385834219098360 tw13362522037031835541 tw6785999343790417993 tw17266053860367096890 tw9264808374702895096 tw2548826818392217196 tw2754867759420682600 tw13222230181392324193 tw12536113739719415211 tw16240999388147423732 tw17763520519307540921 tw18194927361385389159 tw14929684821831762124 tw16642556743555004995 tw7336452630933071807 tw18221942583280447196 tw15673843383428665628 tw1398189800907474803 tw3618285822507153599 tw17144699072717504387 tw41557789411680156 tw15665131958817328476 tw9645469533917796573 tw1994726201539867630 tw5308915652517707734 tw70875525651118383 tw17622969213786519043 tw6548642404862439747 tw18051308679573980761 tw6487546327335208221 tw9848909482089615836 tw11970376770673133943 tw93603260083029638 tw10439415905601675034 tw6704999849730585667 tw16251426333751732316 tw10314216723164957258 tw10877823552229502752 tw11279746243079509391 tw2637833171223835292 tw8103223469871072789 tw15055107240472242434 tw5580997706321417196 tw7184467717336427464 tw15349858645310096237 tw10123445243082913514 tw12038868016916244138 tw17915663635888903930 tw8432131425841980807 tw63925552888532990 tw5074263535819668608 tw18362230238021158855 tw9774518462417973243 tw2689045403689468773 tw15166510522159122497 tw10329320871468985231 tw9107176402452812612 tw9678933676355360838 tw13611112221078027869 tw16241693939719761337 tw4738251853753778462 tw2423435125123578646 tw6252925968206747190 tw10139984955443990551 tw1464233495318543371 tw2859546071046564695 tw1917534125647684678 tw2171779811254049270 tw7466506712871271682 tw1796342421852718656 tw9495987413655429017 tw16622521703168644457 tw6569512959226040968 tw17593445108555542623 tw14266078141898477412 tw16037284218837901291 tw5449079316617026818 tw14159994899824633511 tw9218587704893869398 tw8848117879328030194 tw10813233159517502366 tw12666853693688065531 tw6175377255822110159 tw18073705166214336335 tw8718114883819325679 tw12082329257032800060 tw10215920494305035292 tw6591585293074159525 tw9031242083332888707 tw2806072449933619635 tw502945709802838966 tw664781485534798733 tw4541265310728761531 tw3011441496389937483 tw10551323623759027744 tw5376218735055513768 tw13822867695374474460 tw16620496639269115522 tw12138304934258212933 tw15985057562014660499 tw16259650607976203468 tw9807846899694670155 tw4213956719913693094 tw3844617667449271428 tw3526436872782700682 tw17472647443107571828 tw15654298634281678608 tw5238852181514528401 tw3069879968662425289 tw9341096931476048532 tw6806364390346586173 tw4611583578448858353 tw3423129053058730003 tw2526321132281941723 tw4294957708549386048 tw7606221543407274553 tw9562940241185789455 tw17949273603564566392 tw16399708669982077347 tw14673812120394923738 tw4696618687754818286 tw12838796303754684380 tw18088294833761468045 tw7398640652292353367 tw4389222280330393702 tw3708609794683534739 tw6906767318901199598 tw8785229445572305055 tw3932970918871580747 tw6871038090654550437 tw4289167773612031011 tw14619226076803615671 tw9104336827031523011 tw18029166637009371826 tw6343843220793203749 tw1255060908638732705 tw11539571095380901925 tw9965091727075013089 tw7957143923437450735 tw5723267094047237603 tw17262163546452133681 tw17600436876030618919 tw2074919189835999496 tw15647040664583634884 tw12328292487639732657 tw12514853335003220914 tw13315351017820083325 tw10205092512769851651 tw9798055058143242474 tw13086537546063164804 tw1746735842401970970 tw17341485016752008404 tw12394238279239852573 tw4611796271848869916 tw10011827107485984257 tw10010729930485620346 tw13164542317128047610 tw13682328255355993931 tw11533522178311195323 tw9266792275060050350 tw1521381203475142297 tw1197160318576306347 tw10214368223409602138 tw12957324100253871548 tw9003819609012041754 tw16135138460915389480 tw17129220658523973056 tw1566872712423781971 tw6356800099688627094 tw7495322928454719867 tw13798380955488103443 tw12728189873200367306 tw6352081807365338290 tw133092782708758561 tw17421412859932832329 tw9049461360251798547 tw14470951220792935523
end PySem.W.Fast
set_option maxRecDepth 100000 in
set_option maxHeartbeats 0 in
theorem PySem.Challenge.cw_crystalwords_k65_shares_holds : PySem.Challenge.rw_crystalwords_k65_shares.Holds := by
 w_on; o_law; k_head; (case hw=>w_witness2)
 k_fill
 refine L2.walkB (l:=PySem.Challenge.rw_crystalwords_k65_shares) (k:=18) (x := "_law_script") rfl rfl ⟨rfl,by decide,by decide⟩ (λ w h Y=>PySem.W.kIn_of Y) ?F
 case F =>
  intro w mg fa h KX G hmg
  have T:∃ t,Cw.Txt (L2.KOf KX) mg t:=by
   dsimp only [L2.KOf]
   refine' Cw.txt_mk KX G ?n_21 ?n_1y ?n_1z ?n_25 ?n_22 ?n_3 ?n_24 ?n_23 ?n_1q ?n_15 ?F_15 ?n_17 ?F_17 ?n_11 ?F_11 ?n_w ?F_w ?n_12 ?F_12 ?n_1b ?F_1b ?n_10 ?F_10 ?n_i ?F_i ?n_1v ?F_1v ?n_1g ?F_1g ?n_1o ?F_1o ?n_1e ?F_1e ?n_2 ?F_2 ?n_16 ?F_16 ?n_1h ?F_1h ?n_1l ?F_1l ?n_1c ?F_1c ?n_1r ?F_1r ?n_1s ?F_1s ?n_1x ?F_1x ?n_1m ?F_1m ?n_1i ?F_1i ?n_1t ?F_1t ?n_t ?F_t ?n_z ?F_z ?n_1f ?F_1f ?n_0 ?l_0 ?t_Group___init__ ?c_0 ?k_0 ?n_6 ?F_6 ?n_e ?F_e ?n_1 ?F_1 ?n_f ?F_f ?n_18 ?F_18 ?n_a ?F_a ?n_1p ?F_1p ?n_j ?F_j ?n_u ?F_u ?n_1j ?F_1j ?n_c ?F_c ?n_1k ?F_1k ?n_1w ?F_1w ?n_20 ?F_20 ?n_14 ?F_14 ?n_x ?F_x ?n_r ?F_r ?n_1n ?F_1n ?n_8 ?l_8 ?t_changed ?c_8 ?k_8 ?n_d ?F_d ?n_13 ?F_13 ?n_n ?F_n ?n_y ?F_y ?n_s ?F_s ?n_q ?F_q ?n_9 ?F_9 ?n_1d ?F_1d ?n_v ?F_v ?n_19 ?F_19 ?n_5 ?F_5 ?n_b ?F_b ?n_7 ?F_7 ?n_o ?F_o ?n_h ?F_h ?n_k ?F_k ?n_1a ?F_1a ?n_p ?F_p ?n_m ?F_m ?n_g ?F_g ?n_4 ?F_4 ?n_l ?F_l ?n_1u ?F_1u ?n_MOST_MEMBERS ?y_any ?y_sum ?y_zip ?y_enumerate ?y_range ?y_len ?y_abs ?y_isinstance ?y_int ?y_bool ?y_list ?y_tuple ?y_sorted ?y_dict ?q_k_int ?q_g ?q_h ?q_i ?q_a ?q_b ?q_c ?q_d ?q_0 ?q_3 ?q_e ?q_8 ?q_4 ?q_9 ?q_2 ?q_1 ?q_5 ?q_6 ?q_7
   (case n_21 | n_1y | n_1z | n_25 | n_22 | n_3 | n_24 | n_23 | n_1q | n_15 | n_17 | n_11 | n_w | n_12 | n_1b | n_10 | n_i | n_1v | n_1g | n_1o | n_1e | n_2 | n_16 | n_1h | n_1l | n_1c | n_1r | n_1s | n_1x | n_1m | n_1i | n_1t | n_t | n_z | n_1f | n_18 | n_a | n_1p | n_j | n_u | n_1j | n_c | n_1k | n_1w | n_20 | n_14 | n_x | n_r | n_1n | n_8 | n_d | n_13 | n_n | n_y | n_s | n_q | n_9 | n_1d | n_v | n_19 | n_5 | n_b | n_7 | n_o | n_h | n_k | n_1a | n_p | n_m | n_g | n_4 | n_l | n_1u=>show _=_; k_is)
   (case n_0 | l_0 | t_Group___init__ | c_0 | k_0 | n_6 | n_e | n_1 | n_f | l_8 | t_changed | c_8 | k_8 | n_MOST_MEMBERS | y_any | y_sum | y_zip | y_enumerate | y_range | y_len | y_abs | y_isinstance | y_int | y_bool | y_list | y_tuple | y_sorted | y_dict | q_3 | q_e | q_8 | q_4 | q_9=>show _=_; k_is)
   (case F_15 | F_17 | F_11 | F_w | F_12 | F_1b | F_10 | F_i | F_1v | F_1g | F_1o | F_1e | F_2 | F_16 | F_1h | F_1l | F_1c | F_1r | F_1s | F_1x | F_1m | F_1i | F_1t | F_t | F_z | F_1f | F_6 | F_e | F_1 | F_f | F_18 | F_a | F_1p | F_j | F_u | F_1j | F_c | F_1k | F_1w | F_20 | F_14 | F_x | F_r | F_1n | F_d | F_13 | F_n | F_y | F_s | F_q | F_9 | F_1d | F_v | F_19 | F_5 | F_b | F_7 | F_o | F_h | F_k | F_1a | F_p | F_m | F_g | F_4 | F_l | F_1u=>refine' L2.fun_mk ?l ?c ?k; (case l=>k_is); (case c=>k_is); (case k=>k_is))
   (case q_k_int | q_g | q_h | q_i=>kit_is)
   (case q_a | q_b | q_6=>k_exc)
   (case q_c | q_d=>exact ⟨by k_is,by k_is,by k_is,by k_is⟩)
   (case q_0 | q_2 | q_1 | q_5=>exact ⟨by k_is,by k_is,by k_is⟩)
   (case q_7=>kts_exm)
  obtain ⟨t,T⟩:=T
  have e0:=hmg.symm.trans T.F_1u.m
  cases e0
  exact ⟨t.d_1u,T.bl,λ base kb nb=>Cw.ok_1u T⟩
#print axioms PySem.Challenge.cw_crystalwords_k65_shares_holds