import PyProof.Rows.All
import Wide.All
import OpenK.AllK
import Wide.FinOn
import Lean
import PyProof.EqAt
import PyProof.EqKinds
import PyProof.TupleCall
import PySem.Challenge.RW_crystalwords_k58_refused_in_order
set_option Elab.async false
set_option linter.all false
set_option compiler.extract_closed false
set_option genSizeOf false
set_option bootstrap.genMatcherCode false
set_option maxRecDepth 100000
local macro_rules | `(⋯)=>`(by omega)
local macro_rules | `(∅)=>`(by decide)
local macro_rules | `(nofun)=>`(by decide +kernel)
local macro_rules | `(tactic| ext)=>`(tactic| walk_at "r")
noncomputable section
theorem dLe{d k:Nat}(h:d=2\/d=3)(g:3≤k):d≤k:=by
 rcases h with h|h<;>rw[h]
 ·exact Nat.le_trans (by decide) g
 ·exact g
theorem eLe{x d k:Nat}(e:x=d)(h:d=2\/d=3)(g:3≤k):x≤k:=by rw[e];exact dLe h g
theorem eLt{x y k:Nat}(e:x=y)(g:k<y):k<x:=by rw[e];exact g
theorem iNn{x:Int}(h:0<x):¬x<0:=Int.not_lt.mpr (Int.le_of_lt h)
local macro_rules | `(tactic| omega)=>`(tactic| first | (with_reducible first | assumption | exact Int.ne_of_gt (by assumption) | exact iNn (by assumption) | exact Int.le_of_lt (by assumption) | exact eLt (by assumption) (by assumption) | exact dLe (by assumption) (by decide) | exact eLe (by assumption) (by assumption) (by decide) | exact Nat.le_trans (by assumption) (by decide) | exact Nat.lt_of_lt_of_le (by assumption) (by decide) | exact Nat.lt_of_le_of_lt (by assumption) (by decide) | exact Nat.le_trans (Nat.le_of_lt (by assumption)) (by decide) | exact Nat.le_of_lt (by assumption)) | decide | lia | omega +splitDisjunctions)
abbrev SP':=List Int×Int
abbrev LI':=List Int
abbrev PN:=List (PySem.Addr×PySem.Obj)
abbrev VP:=PySem.Value->PySem.Shared->Prop
abbrev LW:=List PySem.Value
abbrev LA:=List PySem.Addr
abbrev MT:=PySem.Str->Option PySem.Value
def zA:=@PySem.wpAny_bind
def zB:=@PySem.wpAny_pure
def zC:=@PySem.Heap.get?_push_of_some
def zD:=@List.getElem?_map
def zE:=@if_neg
def zF:=@Nat.le_refl
def zG:=@if_pos
def zH:=@List.map_cons
def zI:=@Nat.lt_of_lt_of_le
def zJ:=@decide_eq_true
def zK:=@decide_eq_false
def zL:=@PySem.Heap.lt_size
def zM:=@List.mem_cons_of_mem
def zN:=@PySem.Heap.get?_push_size
def zO:=@Bool.and_eq_true
def zP:=@Option.some.inj
def zQ:=@List.mem_cons_self
def zR:=@Nat.le_trans
def zS:=@Ne.symm
def zT:=@List.size_toArray
def zU:=@Nat.ne_of_lt
def zV:=@PySem.W.mg_of
def zW:=@Int.toNat_natCast
def zX:=@List.length_cons
def zY:=@List.cons.injEq
def zZ:=@Bool.false_ne_true
def yA:=@List.length_zipWith
def yB:=@List.getElem?_range
def yC:=@Nat.pow_le_pow_right
def yD:=@Nat.zero_le
def yE:=@PySem.F.excBase_ValueError
def yF:=@PySem.wpAny_mono
def yG:=@PyProof.Rows.mulOk_of_bits
def yH:=@PySem.W.mg_none_of
def yI:=@List.length_append
def yJ:=@List.map_congr_left
def yK:=@List.zipWith_cons_cons
def yL:=@PySem.wpAny_holding
def yM:=@PyProof.Rows.wpS_bind
def yN:=@List.length_map
def yO:=@List.mem_append_right
def yP:=@Nat.lt_irrefl
def yQ:=@List.mem_cons
def yR:=@PySem.PassesOwn.never
def yS:=@PySem.wpAny_field
def yT:=@PySem.Heap.get?_update_self
def yU:=@List.length_replicate
def yV:=@List.getElem?_append_left
def yW:=@List.map_map
def yX:=@List.getElem?_zipWith
def yY:=@List.lookup_cons
def yZ:=@List.all_cons
def xA:=@PySem.wpAny_newObj_type
def xB:=@PySem.Heap.get?_update_other
def xC:=@Int.mul_pos
def xD:=@Int.natAbs_mul
def xE:=@PySem.W.kia_one
def xF:=@of_decide_eq_true
def xG:=@List.getElem?_append_right
def xH:=@PySem.Heap.size_push
def xI:=@Nat.mul_le_mul_right
def xJ:=@List.mem_append_left
def xK:=@List.map_append
def xL:=@PySem.wpAny_call_entry
def xM:=@PyProof.Rows.wpS_pure
def xN:=@Nat.lt_of_le_of_lt
def xO:=@PySem.wpAny_callSpecial?_slot
def xP:=@List.getElem?_of_mem
def xQ:=@List.ext_getElem
def xR:=@Int.fmod_eq_emod_of_nonneg
def xS:=@List.getElem?_set_self
def xT:=@Int.mul_comm
def xU:=@List.getElem_map
def xV:=@PySem.W.looks_findIn
def xW:=@PySem.wpAny_seqItems
def xX:=@PySem.F.slot_dict_keyiterator_next
def xY:=@PyProof.Rows.callWith_type1
def xZ:=@PySem.wpAny_standAt
def wA:=@List.getElem_mem
def wB:=@List.getElem?_eq_none
def wC:=@PySem.Obj.data_mapFields
def wD:=@PySem.W.Looks.here
def wE:=@congrArg
def wF:=@List.eq_of_mem_replicate
def wG:=@List.foldl_cons
def wH:=@List.getElem?_set_ne
def wI:=@Int.add_zero
def wJ:=@PySem.wpAny_attempt
def wK:=@PySem.wpAny_typeNameOfWhole_keyiter
def wL:=@List.eq_nil_of_length_eq_zero
def wM:=@PySem.mem_of_lookup
def wN:=@PySem.Heap.SameBut.update
def wO:=@List.replicate_succ
def wP:=@List.length_take
def wQ:=@PySem.wpAny_setField
def wR:=@List.take_of_length_le
def wS:=@PySem.wpAny_Call_Name_kw
def wT:=@Int.le_of_lt
def wU:=@PySem.wpAny_setField_rec
def wV:=@PySem.wpAny_passesOwn
def wW:=@PySem.F.slot_tuple_iterator_next
def wX:=@List.append_assoc
def wY:=@List.length_range
def wZ:=@PySem.Calls.evalArgs_plain
def vA:=@PySem.codeAny_call_builtin
def vB:=@List.mem_of_getElem?
def vD:=@Int.mul_one
def vE:=@Nat.pow_add
def vF:=@List.getElem?_eq_getElem
def vG:=@PySem.wpAny_isInstance
def vI:=@PySem.wpAny_typeNameOf_keyiter
def vJ:=@Int.zero_mul
def vK:=@Int.dvd_refl
def vL:=@Nat.le_of_lt
def vM:=@Array.length_toList
def vN:=@Int.eq_ofNat_of_zero_le
def vO:=@PySem.F.plainAttrs_list
def vP:=@List.forIn_cons
def vQ:=@List.append_nil
def vR:=@PySem.W.callWith_K
def vS:=@PySem.wpAny_call
def vU:=@PySem.wpAny_loadPart'
def vV:=@List.getElem_range
def vW:=@PySem.wpAny_pyIter_tuple
def vX:=@List.map_id
def vY:=@List.take_add_one
def vZ:=@PySem.wpAny_loadPart_at
def uA:=@List.cons_lt_cons_iff
def uB:=@PySem.wpAny_typeOf
def uC:=@PySem.codeAny_mono
def uD:=@PySem.Obj.isFreed_of_fields
def uE:=@Array.getElem?_toList
def uF:=@Nat.mul_le_mul
def uG:=@PySem.Around.under_plainId
def uH:=@PySem.wpAny_rule
def uI:=@List.zipIdx_cons
def uJ:=@List.all_eq_true
def uK:=@List.eraseIdx_of_length_le
def uL:=@List.getD_eq_getElem?_getD
def uM:=@List.any_cons
def uN:=@PySem.intBits_le_64
def uO:=@Int.one_mul
def uP:=@PySem.W.looks_mroIn
def uQ:=@List.filterMap_cons
def uR:=@PySem.wpAny_execs_nil
def uS:=@PySem.codeAny_builtin
def uT:=@List.of_mem_zip
def uU:=@List.length_set
def uV:=@List.mem_of_mem_eraseIdx
def uW:=@PyProof.Rows.wpS_forRange
def uX:=@Int.zero_add
def uY:=@PySem.SeqAt.Reads.unique
def uZ:=@of_decide_eq_false
def tD:=@Nat.ne_of_gt
def tE:=@Int.pos_of_mul_pos_left
def tF:=@List.getElem?_replicate
def tG:=@List.foldl_append
def tH:=@Int.natAbs_add_le
def tI:=@PySem.wpAny_truthy_bool
def tJ:=@List.any_eq_false
def tK:=@PySem.wpAny_pyIter_list
def tL:=@List.flatten_cons
def tM:=@PySem.W.cellsFrom_some
def tN:=@PySem.Calls.callWith_builtin
def tO:=@PyProof.Rows.subscriptTail_builtinR
def tP:=@Int.fmod_nonneg_of_pos
def tQ:=@Nat.le_succ
def tR:=@PySem.wpAny_onRaise
def tS:=@List.take_length
def tU:=@Nat.mul_lt_mul''
def tV:=@PySem.W.any_some
def tW:=@Nat.lt_succ_self
def tX:=@PySem.W.methodCall_KW
def tY:=@Nat.le_of_eq
def tZ:=@Nat.two_pow_pos
def sB:=@Nat.succ.inj
def sE:=@PySem.F.slot_zip_next
def sG:=@List.nodup_cons
def sH:=@Nat.lt_or_ge
def sI:=@List.length_eraseIdx
def sJ:=@PySem.wpAny_updateSeq_pair
def sK:=@PySem.W.hideAll_none
def sL:=@List.getElem?_zipIdx
def sP:=@Int.fdiv_one
def sQ:=@Nat.mul_le_mul_left
def sT:=@PySem.W.hideAll_get
def sU:=@PySem.W.plainGet_of
def sV:=@PySem.W.looks_clsIn
def sW:=@PySem.wpAny_loadPart
def sY:=@PySem.W.isNs_of_in
def sZ:=@PySem.W.of_hideAll
def rA:=@PySem.wpAny_tupleItemsOf
def rB:=@Int.fmod_lt_of_pos
def rC:=@List.zip_cons_cons
def rD:=@PySem.Code.quiet_builtin
def rE:=@PySem.plainId_quiet
def rF:=@Int.mul_assoc
def rG:=@List.ext_getElem?
def rH:=@Nat.le_of_succ_le
def rJ:=@Nat.lt_succ_of_lt
def rK:=@PySem.Obj.cls_mapFields
def rL:=@PySem.W.kitx_list
def rM:=@PySem.wpAny_dictEntries
def rN:=@PySem.call_meets
def rO:=@List.map_set
def rP:=@PySem.wpAny_pyHash_int
def rQ:=@Nat.le_add_right
def rR:=@Nat.succ_mul
def rS:=@PyProof.Rows.wpS_mono
def rT:=@Nat.mul_comm
def rV:=@List.length_drop
def rW:=@List.any_eq_true
def rX:=@Nat.min_self
def rY:=@PySem.W.Looks.ld
def rZ:=@Nat.not_lt_zero
def qA:=@PySem.Heap.Ns.of_isNs
def qB:=@PySem.wpAny_dictEpoch
def qC:=@Int.mul_dvd_mul
def qD:=@PySem.pushCells_keeps
def qE:=@PySem.wpAny_letGo
def qF:=@PySem.Paired.snoc
def qG:=@PySem.isSubtype_stop
def qH:=@Int.mul_le_mul
def qI:=@PySem.wpAny_newTuple
def qJ:=@PySem.wpAny_mkText
def qK:=@Nat.pow_succ
def qL:=@Nat.zero_add
def qM:=@Int.mul_zero
def qN:=@PySem.seqIndex_neg
def qO:=@Int.dvd_sub
def qP:=@Int.dvd_add
def qQ:=@Int.one_pow
def qR:=@Int.neg_mul
def qS:=@Int.mul_sub
def qT:=@Int.neg_neg
def qU:=@Nat.log2_lt
def qV:=@beq_iff_eq
def qW:=@beq_eq_false_iff_ne
def qX:=@List.mem_singleton
def qY:=@Int.dvd_neg
def qZ:=@decide_eq_decide
def pA:=@List.mem_append
def pB:=@List.getElem?_eq_some_iff
def pC:=@List.pairwise_map
def pE:=@List.not_lt
def pF:=@List.mem_filterMap
def pG:=@Array.getElem?_eq_some_iff
def pH:=@List.mem_range
def pI:=@List.mem_map
namespace L2
open PySem PySem.Spec PyProof.Rows
open PySem.W (Frag)
abbrev Key:=Sum Int Str
def Cu:Key->Value->Bool
 |.inl k,v=>Value.isInt k v
 |.inr x,v=>Value.isStrOf x v
def keyH(w:World):Key->Int
 |.inl k=>hashInt k
 |.inr x=>hashStr w x
theorem jK:∀{k:Key}{v:Value},Cu k v=true->(∃i t,k=Sum.inl i/\v=Value.int i t)\/(∃x t,k=Sum.inr x/\v=Value.str x t)
 |.inl i,v,h=>by
  obtain⟨t,e⟩:=Value.isInt_shape (k:=i) (v:=v) h;exact .inl ⟨i,t,rfl,e⟩
 |.inr x,v,h=>by
  obtain⟨t,e⟩:=Value.isStrOf_shape (x:=x) (v:=v) h;exact .inr ⟨x,t,rfl,e⟩
theorem Ko(a b:Int):decide ((Sum.inl a:Key)=Sum.inl b)=(a == b):=by
 by_cases e:a=b
 ·subst e;simp
 ·have h:¬ (Sum.inl a:Key)=Sum.inl b:=λq=>e (Sum.inl.inj q);rw[zK h];exact(qW.mpr e).symm
theorem Kn(a b:Str):decide ((Sum.inr a:Key)=Sum.inr b)=decide (a=b):=by
 by_cases e:a=b
 ·subst e;simp
 ·have h:¬ (Sum.inr a:Key)=Sum.inr b:=λq=>e (Sum.inr.inj q);rw[zK h,zK e]
theorem Km(a:Int)(b:Str):decide ((Sum.inl a:Key)=Sum.inr b)=false:=zK (λq=>nomatch q)
theorem Kl(a:Str)(b:Int):decide ((Sum.inr a:Key)=Sum.inl b)=false:=zK (λq=>nomatch q)
def Ct(prog:Program)(w:World):PySem.KeyKind prog w Key where
 is:=Cu
 hash:=keyH w
 inj:=λv a b ha hb=>by
  rcases jK ha with⟨i,t,rfl,rfl⟩|⟨x,t,rfl,rfl⟩
  ·rcases jK hb with⟨j,u,rfl,e⟩|⟨y,u,rfl,e⟩
   ·injection e with e1 _;rw[e1]
   ·exact nomatch e
  ·rcases jK hb with⟨j,u,rfl,e⟩|⟨y,u,rfl,e⟩
   ·exact nomatch e
   ·injection e with e1 _;rw[e1]
 byValue:=λk v h=>by
  rcases jK h with⟨i,t,rfl,rfl⟩|⟨x,t,rfl,rfl⟩ <;> rfl
 pyHash:=λhv h=>by
  rcases jK hv with⟨i,t,rfl,rfl⟩|⟨x,t,rfl,rfl⟩
  ·exact rP h
  ·exact wpAny_pyHash_str h
 eqBool:=λhu hv h=>by
  rcases jK hu with⟨i,t,rfl,rfl⟩|⟨x,t,rfl,rfl⟩
  ·rcases jK hv with⟨j,u,rfl,rfl⟩|⟨y,u,rfl,rfl⟩
   ·rw[Ko]at h;exact wpAny_eqBool_int h
   ·rw[Km]at h;exact SeqAt.EqAt.int_str i t y u _ _ _ _ h
  ·rcases jK hv with⟨j,u,rfl,rfl⟩|⟨y,u,rfl,rfl⟩
   ·rw[Kl]at h;exact SeqAt.EqAt.str_int x t j u _ _ _ _ h
   ·rw[Kn]at h;exact wpAny_eqBool_str h
 «strs»:=λk x t v h=>by
  rcases jK h with⟨i,u,rfl,e⟩|⟨y,u,rfl,e⟩
  ·exact nomatch e
  ·injection e with e1 _;subst e1;cases v <;> rfl
inductive V where
 |non|bl(b:Bool)|int(i:Int)|str(x:Str)|byt(b:Array UInt8)|flt(b:UInt64)|ref(a:Addr)|ty(n:String)
 deriving DecidableEq
def RelV:V->Value->Prop
 |.non,u=>u=Value.none
 |.bl b,u=>u=Value.bool b
 |.int i,u=>∃t,u=Value.int i t
 |.str x,u=>∃t,u=Value.str x t
 |.byt b,u=>∃t,u=Value.bytes b t
 |.flt b,u=>∃t,u=Value.float b t
 |.ref a,u=>u=Value.ref a
 |.ty n,u=>u=Value.type n
abbrev Vals:List V->LW->Prop:=Paired RelV
theorem Vals.length{xs:List V}{us:LW}(r:Vals xs us):xs.length=us.length:=Paired.length r
theorem Vals.get:∀{xs:List V}{us:LW}{i:Nat}{x:V},Vals xs us->xs[i]?=some x->∃u,us[i]?=some u/\RelV x u
 |_,_,_,_,.nil,e=>by simp at e
 |_,_,0,_,.cons r _,e=>by simp at e;subst e;exact⟨_,rfl,r⟩
 |_,_,i+1,x,.cons _ a,e=>by
  obtain⟨u,b,c⟩:=Vals.get (i:=i) (x:=x) a (by simpa using e);exact⟨u,by simpa using b,c⟩
theorem Vals.set{x:V}{u:Value}(r:RelV x u):∀{xs:List V}{us:LW}(i:Nat),Vals xs us->Vals (xs.set i x) (us.set i u)
 |_,_,_,.nil=>.nil
 |_,_,0,.cons _ t=>.cons r t
 |_,_,i+1,.cons q t=>.cons q (Vals.set r i t)
theorem Vals.append:∀{xs ys:List V}{us a:LW},Vals xs us->Vals ys a->Vals (xs++ys) (us++a)
 |_,_,_,_,.nil,s=>s
 |_,_,_,_,.cons r b,s=>.cons r (Vals.append b s)
theorem Vals.take:∀{xs:List V}{us:LW}(n:Nat),Vals xs us->Vals (xs.take n) (us.take n)
 |_,_,0,_=>.nil
 |_,_,_+1,.nil=>.nil
 |_,_,n+1,.cons r t=>.cons r (Vals.take n t)
theorem Vals.drop:∀{xs:List V}{us:LW}(n:Nat),Vals xs us->Vals (xs.drop n) (us.drop n)
 |_,_,0,r=>r
 |_,_,_+1,.nil=>.nil
 |_,_,n+1,.cons _ t=>Vals.drop n t
theorem Vals.none_of:∀{xs:List V}{us:LW}{i:Nat},Vals xs us->xs[i]?=none->us[i]?=none:=λ{xs us i}r e=>by
 have a:=r.length;have b:xs.length<=i:=List.getElem?_eq_none_iff.mp e;exact List.getElem?_eq_none_iff.mpr ⋯
def RelO:Option V->Option Value->Prop
 |some v,some u=>RelV v u
 |none,none=>True
 |_,_=>False
def KV{κ:Type}:List (κ×V)->List (κ×Value)->Prop:=Paired λ(p:κ×V)(q:κ×Value)=>p.1=q.1/\RelV p.2 q.2
def kV:Key->V
 |.inl i=>.int i
 |.inr x=>.str x
inductive HO where
  |lst(xs:List V)
  |tup(xs:List V)
  |dK(kvs:List (Key×V))|dT(kvs:List (List Key×V))
  |set(S:Int->Bool)(n:Nat)
  |ins(C dx:Addr)(fs:List (Str×V))
  |own(x:Addr)
  |xd(fs:List (Str×V))
  |met(f x:Addr)
  |rng(lo hi:Int)
  |frz(o:Obj)(u:HO)
  |tbl(ps:Array Value)
  |ext(φ:Heap->Prop)
abbrev Hp:=Addr->Option HO
def upd(H:Hp)(a:Addr)(o:HO):Hp:=λb=>if b=a then some o else H b
theorem pN{H:Hp}{a:Addr}{o:HO}:upd H a o a=some o:=by unfold upd;rw[zG rfl]
theorem pR{H:Hp}{a b:Addr}{o:HO}(h:b≠a):upd H a o b=H b:=by unfold upd;rw[zE h]
theorem oY{H:Hp}{a b:Addr}{o:HO}(h:H a=some o)(h':H b=none):a≠b:=by
 intro e;subst e;rw[h]at h';cases h'
section
variable (P:Program) (w:World)
def oK(H:Hp)(h:Heap)(a:Addr):HO->Prop
 |.lst xs=>xs.length<=sizeLine/\∃(its:LW)(n:Nat),Vals xs its/\h.get? a=some {cls:=.type "list",data:=.seq its.toArray n}
 |.tup xs=>xs.length<=sizeLine/\∃its:LW,Vals xs its/\IsTup h a its.toArray
 |.dK kvs=>kvs.length<=sizeLine/\(a == sysModules)=false/\∃vs,KV kvs vs/\h.DictOf (Ct P w) a vs
 | .dT kvs=>kvs.length<=sizeLine/\(a == sysModules)=false/\∃xs:List (List Key×Addr×Value),
   Paired (λ(p:List Key×V)(q:List Key×Addr×Value)=>p.1=q.1/\H q.2.1=some (.tup (p.1.map kV))/\RelV p.2 q.2.2) kvs xs /\
   ∃o es ep,h.get? a=some o/\o.ExactDict/\o.data=.dict es ep/\es.toList=xs.map (entryOfKey (tupleKind (Ct P w)))/\(xs.map (·.1)).Nodup
 |.set S n=>h.SetOf (intKind P w) a S n
 | .ins C dx fs=>H dx=some (.own a)/\fs.length<=1000/\dx≠a/\h.get? a=some (PySem.W.instObj C dx) /\
   ∃mA,h.Ns1 dx mA/\(∀f,RelO (fs.lookup f) (mA f))/\PySem.Within mA (fs.map (·.1))
 |.own _=>∃o,h.get? a=some o
 |.xd fs=>∃mA,h.Ns1 a mA/\∀f,RelO (fs.lookup f) (mA f)
 |.rng lo hi=>∃t u v,h.get? a=some {cls:=.type "range",data:=.fields #[.int lo t,.int hi u,.int 1 v]}
 |.frz o u=>h.get? a=some o/\oK H h a u
 |.tbl ps=>h.get? a=some {cls:=.none,data:=.fields ps}
 |.met f x=>h.get? a=some (PySem.W.methodObj (.ref f) (.ref x))
 |.ext φ=>φ h/\(∃o,h.get? a=some o)/\∀h1 h2:Heap,φ h1->(∀o,h1.get? a=some o->h2.get? a=some o)->φ h2
def HOk(H:Hp)(h:Heap):Prop:=∀a o,H a=some o->oK P w H h a o
end
section
variable {P:Program} {w:World} {H H':Hp} {h h':Heap} {a:Addr} {o:HO}
theorem oK.lt(x:oK P w H h a o):a<h.objs.size:=by
 cases o with
 |lst xs=>obtain⟨_,_,_,_,e⟩:=x;exact zL e
 |tup xs=>obtain⟨_,_,_,p⟩:=x;exact p.lt
 |dK kvs=>obtain⟨_,_,_,_,o,_,_,e,_⟩:=x;exact zL e
 |dT kvs=>obtain⟨_,_,_,_,o,_,_,e,_⟩:=x;exact zL e
 |set i n=>obtain⟨o,_,_,_,e,_⟩:=x;exact zL e
 |ins C b fs=>obtain⟨_,_,_,e,_⟩:=x;exact zL e
 |own y=>obtain⟨_,e⟩:=x;exact zL e
 |xd fs=>obtain⟨_,⟨_,_,_,e,_⟩,_⟩:=x;exact zL e
 |rng d hi=>obtain⟨_,_,_,e⟩:=x;exact zL e
 |frz g u=>obtain⟨e,_⟩:=x;exact zL e
 |tbl ps=>exact zL (show h.get? a=some _ from x)
 |met f y=>exact zL (show h.get? a=some _ from x)
 |ext c=>obtain⟨_,⟨_,e⟩,_⟩:=x;exact zL e
theorem Paired.mapP{c d:Type}{F G:c->d->Prop}:∀{e:List c}{g:List d},Paired F e g->(∀a b,F a b->G a b)->Paired G e g
 |_,_,.nil,_=>.nil
 |_,_,.cons r i,f=>.cons (f _ _ r) (Paired.mapP i f)
theorem oK.stay(x:oK P w H h a o)(k:∀b u,(b=a\/H b=some (.own a))->h.get? b=some u->h'.get? b=some u)
  (F:∀b,H b=some (.own a)->H' b=some (.own a))(t:∀b xs,H b=some (.tup xs)->H' b=some (.tup xs)):oK P w H' h' a o:=by
 induction o with
 |lst xs=>obtain⟨z,its,n,r,e⟩:=x;exact⟨z,its,n,r,k _ _ (.inl rfl) e⟩
 |tup xs=>obtain⟨z,its,r,g,e,c⟩:=x;exact⟨z,its,r,g,k _ _ (.inl rfl) e,c⟩
 |dK kvs=>obtain⟨z,y,vs,r,g,es,ep,e,c⟩:=x;exact⟨z,y,vs,r,g,es,ep,k _ _ (.inl rfl) e,c⟩
 |dT kvs =>
  obtain⟨z,y,xs,r,g,es,ep,e,c⟩:=x;exact⟨z,y,xs,Paired.mapP r λp q z=>⟨z.1,t _ _ z.2.1,z.2.2⟩,g,es,ep,k _ _ (.inl rfl) e,c⟩
 |set G n=>obtain⟨g,es,ep,j,e,c⟩:=x;exact⟨g,es,ep,j,k _ _ (.inl rfl) e,c⟩
 |ins C I fs =>
  obtain⟨d,z,m,e,i,⟨od,es,ep,l,c⟩,r⟩:=x;exact⟨F _ d,z,m,k _ _ (.inl rfl) e,i,⟨od,es,ep,k _ _ (.inr d) l,c⟩,r⟩
 |own y=>obtain⟨g,e⟩:=x;exact⟨g,k _ _ (.inl rfl) e⟩
 |xd fs=>obtain⟨i,⟨od,es,ep,e,c⟩,r⟩:=x;exact⟨i,⟨od,es,ep,k _ _ (.inl rfl) e,c⟩,r⟩
 |rng K hi=>obtain⟨j,u,v,e⟩:=x;exact⟨j,u,v,k _ _ (.inl rfl) e⟩
 |frz g u D=>obtain⟨e,q⟩:=x;exact⟨k _ _ (.inl rfl) e,D q⟩
 |tbl ps =>
  have e:h.get? a=some {cls:=.none,data:=.fields ps}:=x;show h'.get? a=some {cls:=.none,data:=.fields ps};exact k a _ (.inl rfl) e
 |met f y =>
  have e:h.get? a=some (PySem.W.methodObj (.ref f) (.ref y)):=x;show h'.get? a=some (PySem.W.methodObj (.ref f) (.ref y));exact k a _ (.inl rfl) e
 |ext J=>obtain⟨p,⟨o,e⟩,st⟩:=x;exact⟨st _ _ p λo q=>k _ _ (.inl rfl) q,⟨o,k _ _ (.inl rfl) e⟩,st⟩
theorem HOk.lt(x:HOk P w H h)(e:H a=some o):a<h.objs.size:=(x a o e).lt
theorem HOk.fresh(x:HOk P w H h)(e:h.objs.size<=a):H a=none:=by
 cases q:H a with
 |none=>rfl
 |some u=>exact absurd (zI (x.lt q) e) (yP _)
theorem HOk.kept(x:HOk P w H h)(k:∀b u,h.get? b=some u->h'.get? b=some u):HOk P w H h':=λa o e =>
 (x a o e).stay (λb u _ q=>k b u q) (λ_ q=>q) λ_ _ q=>q
theorem HOk.laid(x:HOk P w H h)(k:∀b u,h.get? b=some u->h'.get? b=some u)(g:h.objs.size<=a)(new:oK P w (upd H a o) h' a o):HOk P w (upd H a o) h':=λb u e=>by
 have f:=x.fresh g
 by_cases d:b=a
 ·subst d;rw[pN]at e;cases e;exact new
 ·rw[pR d]at e;exact(x b u e).stay (λc v _ q=>k c v q) (λc q=>by rw[pR (oY q f)];exact q) λc xs q=>by rw[pR (oY q f)];exact q
end
def Rd(H:Hp)(a:Addr)(u:HO):Prop:=H a=some u\/∃o,H a=some (.frz o u)
theorem Rd.ok{P:Program}{w:World}{H:Hp}{h:Heap}{a:Addr}{u:HO}(r:Rd H a u)(x:HOk P w H h):oK P w H h a u:=by
 rcases r with r|⟨o,r⟩
 ·exact x a u r
 ·obtain⟨_,q⟩:=x a _ r;exact q
def Mut:Option HO->Prop
 |some (.lst _)=>True
 |some (.dK _)=>True
 |some (.dT _)=>True
 |some (.set _ _)=>True
 |some (.ins _ _ _)=>True
 |some (.ext _)=>True
 |_=>False
section
variable {P:Program} {w:World} {H:Hp} {h h':Heap} {x e:Addr} {o':HO}
theorem HOk.write(ok:HOk P w H h)(d:Mut (H x))(l:e=x\/H e=some (.own x))(k:∀b u,b≠e->h.get? b=some u->h'.get? b=some u)(o:∃u,h'.get? e=some u)
  (new:oK P w (upd H x o') h' x o'):HOk P w (upd H x o') h':=λb u q=>by
 have i:∀c y,H c=some (.own y)->c≠x:=λc y r z=>by subst z;rw[r]at d;exact d
 have m:∀c xs,H c=some (.tup xs)->c≠x:=λc xs r z=>by subst z;rw[r]at d;exact d
 by_cases g:b=x
 ·subst g;rw[pN]at q;cases q;exact new
 ·rw[pR g]at q
  by_cases a:b=e
  ·have j:H b=some (.own x):=by
    rcases l with z|z
    ·exact absurd (a.trans z) g
    ·rw[a];exact z
   rw[q]at j;cases j;obtain⟨v,n⟩:=o;exact⟨v,by rw[a];exact n⟩
  ·refine(ok b u q).stay (λc v f r=>k c v ?_ r) (λc r=>by rw[pR (i c b r)];exact r) λc xs r=>by rw[pR (m c xs r)];exact r
   rcases f with rfl|f
   ·exact a
   ·rintro rfl;rcases l with z|z
    ·exact i c b f z
    ·rw[f]at z;cases z;exact g rfl
end
structure Un(fs ex:LA)(H H':Hp)(h h':Heap):Prop where
 keep:∀b o,h.get? b=some o->H b=none->b∉fs->b∉ex->h'.get? b=some o
 slot:∀b o,h.get? b=some o->H b=none->b∈fs->b∉ex->∃sl,h'.get? b=some {o with slots:=sl}
 free:∀b o,h.get? b=some o->H b=none->b∉ex->H' b=none
 there:∀b o,h.get? b=some o->b∉ex->∃o',h'.get? b=some o'
 tups:∀b xs,H b=some (.tup xs)->H' b=some (.tup xs)
 frzs:∀b o u,H b=some (.frz o u)->H' b=some (.frz o u)
 tbls:∀b ps,H b=some (.tbl ps)->∃more,H' b=some (.tbl (ps++more))
section
variable {fs fs' ex ex':LA} {H H1 H2:Hp} {h h1 h2 h':Heap} {a x e:Addr} {o:HO}
theorem Un.any(u:Un fs ex H H1 h h1){b:Addr}{c:Obj}(q:h.get? b=some c)(n:H b=none)(f:b∉ex):∃g,h1.get? b=some {c with slots:=g}:=by
 by_cases d:b∈fs
 ·exact u.slot b c q n d f
 ·exact⟨c.slots,u.keep b c q n d f⟩
theorem Un.trans(a:Un fs ex H H1 h h1)(b:Un fs ex H1 H2 h1 h2):Un fs ex H H2 h h2 where
 keep:=λc d q n g f=>b.keep c d (a.keep c d q n g f) (a.free c d q n f) g f
 slot:=λc d q n g f=>by
  obtain⟨p,e1⟩:=a.slot c d q n g f;obtain⟨k,i⟩:=b.slot c _ e1 (a.free c d q n f) g f;exact⟨k,i⟩
 free:=λc d q n f=>by
  obtain⟨j,e1⟩:=a.there c d q f;exact b.free c j e1 (a.free c d q n f) f
 there:=λc d q f=>by
  obtain⟨j,e1⟩:=a.there c d q f;exact b.there c j e1 f
 tups:=λc xs q=>b.tups c xs (a.tups c xs q)
 frzs:=λc d xs q=>b.frzs c d xs (a.frzs c d xs q)
 tbls:=λc ps q=>by
  obtain⟨l,e1⟩:=a.tbls c ps q;obtain⟨m,i⟩:=b.tbls c _ e1;exact⟨l++m,by rw[i,Array.append_assoc]⟩
theorem Un.kept(k:∀b u,h.get? b=some u->h'.get? b=some u):Un fs ex H H h h':=
 ⟨λb c q _ _ _=>k b c q,λb c q _ _ _=>⟨c.slots,k b c q⟩,λ_ _ _ n _=>n,λb c q _=>⟨c,k b c q⟩,λ_ _ q=>q,λ_ _ _ q=>q,λ_ ps q=>⟨#[],by rw[q];simp⟩⟩
theorem Un.refl:Un fs ex H H h h:=Un.kept λ_ _ q=>q
theorem Un.laid(k:∀b u,h.get? b=some u->h'.get? b=some u)(d:h.objs.size<=a)(c:H a=none):Un fs ex H (upd H a o) h h' where
 keep:=λb u q _ _ _=>k b u q
 slot:=λb u q _ _ _=>⟨u.slots,k b u q⟩
 free:=λb u q n _=>by rw[pR (zU (zI (zL q) d))];exact n
 there:=λb u q _=>⟨u,k b u q⟩
 tups:=λb xs q=>by rw[pR (oY q c)];exact q
 frzs:=λb u xs q=>by rw[pR (oY q c)];exact q
 tbls:=λb ps q=>⟨#[],by rw[pR (oY q c),q];simp⟩
theorem Un.write(c:Mut (H x))(j:e=x\/H e=some (.own x))(k:∀b u,b≠e->h.get? b=some u->h'.get? b=some u)(l:∃u,h'.get? e=some u):Un fs ex H (upd H x o) h h':=by
 have i:∀b,H b=none->b≠x:=λb n z=>by subst z;rw[n]at c;exact c
 have f:∀b,H b=none->b≠e:=λb n z=>by
  subst z;rcases j with r|r
  ·exact i b n r
  ·rw[n]at r;cases r
 have d:∀b u,H b=some u->¬ Mut (some u)->b≠x:=λb u q nm z=>by subst z;rw[q]at c;exact nm c
 refine⟨λb u q n _ _=>k b u (f b n) q,λb u q n _ _=>⟨u.slots,k b u (f b n) q⟩,λb u q n _=>by rw[pR (i b n)];exact n,λb u q _=>?_,
  λb xs q=>by rw[pR (d b _ q λz=>z)];exact q,λb u xs q=>by rw[pR (d b _ q λz=>z)];exact q,λb ps q=>⟨#[],by rw[pR (d b _ q λz=>z),q];simp⟩⟩
 by_cases g:b=e
 ·subst g;exact l
 ·exact⟨u,k b u g q⟩
end
def trk(h:Heap)(H:Hp):LA:=(List.range h.objs.size).filter λa=>(H a).isSome
def hidT(h:Heap)(H:Hp):Heap:=PySem.W.hideAll h (trk h H)
theorem Kk(h:Heap)(H:Hp):(hidT h H).objs.size=h.objs.size:=PySem.W.hideAll_size _ _
theorem Kj{h:Heap}{H:Hp}{b:Addr}{o:Obj}(e:h.get? b=some o)(n:H b=none):(hidT h H).get? b=some o:=
 sT _ e λa=>by
  have q:(H b).isSome=true:=(List.mem_filter.mp a).2;rw[n]at q;simp at q
theorem Ki{h:Heap}{H:Hp}{b:Addr}{o:Obj}(e:(hidT h H).get? b=some o):h.get? b=some o/\H b=none:=by
 have a:h.get? b=some o:=sZ (trk h H) e;refine⟨a,?_⟩;cases q:H b with
 |none=>rfl
 |some x =>
  have c:b∈trk h H:=List.mem_filter.mpr ⟨pH.mpr (zL a),by simp[q]⟩;have z:(hidT h H).get? b=none:=sK (trk h H) c;rw[z]at e;cases e
def Kh(g h:Heap)(L:Addr):PN:=(List.range h.objs.size).filterMap λa=>if a=L\/(g.get? a).isSome=true then none else(h.get? a).map λo=>(a,o)
def rest(g h:Heap)(L d:Addr):PN:=(Kh g h L).filter λp=>decide (p.1≠d)
structure Mod(K:Frag)(mg:MT)(base:Heap):Prop where
 kin:K.In base
 glob:base.Ns mainGlobals mg
 blt:∃mb,base.Ns builtinsNs mb/\∀x:Str,x≠"__name__" -> mb x=bootBuiltins x
 nolimit:base.NoLimit
structure Cx where
 prog:Program
 w:World
 K:Frag
 mg:MT
 base:Heap
 A:Around
 N:List Str
 s₀:Shared
 H₀:Hp
 env:Env
 outer:List Env
 stack:List Env
 ex:LA
 fn:Str->Bool
 calm:Bool
 pn:PN
 xe:VP
def frs(l:List Env):LA:=l.filterMap (·.frame)
abbrev Cx.fs(X:Cx):LA:=frs X.outer
def Vis(sc:Scope)(x:Str):Prop:=sc.names.lookup x=some .local\/sc.names.lookup x=some .cell\/sc.names.lookup x=some .free
def Loc(sc:Scope)(x:Str):Prop:=sc.names.lookup x=some .local\/sc.names.lookup x=some .cell
def Look(env:Env)(h:Heap)(m:MT)(x:Str)(u:Value):Prop:=
 (env.kindOf x=some .local/\m x=some u)\/((env.kindOf x=some .cell\/env.kindOf x=some .free)/\∃c,env.cells.lookup x=some c/\h.IsCell c (some u))
structure Cx.Ok(X:Cx):Prop where
 mod:Mod X.K X.mg X.base
 kind:X.env.scope.kind=.function
 glob:X.env.globals=mainGlobals
 blt:X.env.builtins=builtinsNs
 above:X.s₀.heap.objs.size<=X.env.locals
 inj:∀x y c,X.env.cells.lookup x=some c->X.env.cells.lookup y=some c->x=y
 has:∀x,(X.env.kindOf x=some .cell\/X.env.kindOf x=some .free)->∃c,X.env.cells.lookup x=some c
 cab:∀x c,X.fn x=true->X.env.cells.lookup x=some c->X.s₀.heap.objs.size<=c
 hd:X.calm=true->X.A.handled=none
 frames:X.A.frames=some X.stack
 stk:X.stack=X.outer\/(X.stack=X.env:: X.outer/\X.env.frame=some X.env.locals)
 exf:∀b∈X.ex,b≠X.env.locals/\∀x c,X.env.cells.lookup x=some c->c≠b
 bs:∀b o,X.base.get? b=some o->X.s₀.heap.get? b=some o/\X.H₀ b=none
 bsz:X.base.objs.size<=X.s₀.heap.objs.size
 noex:∀b o,X.base.get? b=some o->b∉X.ex
 exfs:∀b∈X.ex,b∉X.fs
 funs:X.s₀.heap.FunFrames X.base X.outer
 frf:∀b∈X.fs,X.H₀ b=none
structure Inv(X:Cx)(pins:PN)(σ:List (Option V))(H:Hp)(s:Shared):Prop where
 ok:X.Ok
 os:s.os=X.s₀.os
 bare:AllBare s.gens
 base:Un X.fs X.ex X.H₀ H X.s₀.heap s.heap
 loc:∃m,s.heap.Ns X.env.locals m/\∀(i:Nat)(x:Str)(v:V),X.N[i]?=some x->σ[i]?=some (some v)->Vis X.env.scope x->∃u,RelV v u/\Look X.env s.heap m x u
 cell:∀x c,X.env.cells.lookup x=some c->∃v,s.heap.IsCell c v
 free:H X.env.locals=none
 freeC:∀x c,X.env.cells.lookup x=some c->H c=none
 pin:∀p∈X.pn++pins,s.heap.get? p.1=some p.2/\H p.1=none/\p.1≠X.env.locals/\p.1∉X.fs/\∀v,p.2.data≠.cell v
 hok:HOk X.prog X.w H s.heap
 len:σ.length=X.N.length
section
variable {X:Cx} {pins:PN} {σ:List (Option V)} {H H':Hp} {s:Shared} {h':Heap}
theorem Cx.Ok.nofr(ok:X.Ok){b:Addr}{o:Obj}(e:X.base.get? b=some o):b∉X.fs:=λa=>by
 have:=(ok.funs.mem a).1;rw[e]at this;cases this
theorem Inv.bs(I:Inv X pins σ H s):∀b o,X.base.get? b=some o->s.heap.get? b=some o/\H b=none:=λb o e =>
 ⟨I.base.keep b o (I.ok.bs b o e).1 (I.ok.bs b o e).2 (I.ok.nofr e) (I.ok.noex b o e),I.base.free b o (I.ok.bs b o e).1 (I.ok.bs b o e).2 (I.ok.noex b o e)⟩
theorem Inv.bk(I:Inv X pins σ H s):∀b o,X.base.get? b=some o->s.heap.get? b=some o:=λb o e=>(I.bs b o e).1
theorem Inv.mod(I:Inv X pins σ H s):Mod X.K X.mg X.base:=I.ok.mod
theorem Inv.kIn(I:Inv X pins σ H s):X.K.In s.heap:=I.ok.mod.kin.keeps I.bk
theorem Inv.lt(I:Inv X pins σ H s):X.env.locals<s.heap.objs.size:=let ⟨_,a,_⟩:=I.loc;a.lt
theorem Inv.sz(I:Inv X pins σ H s):X.s₀.heap.objs.size<=s.heap.objs.size:=zR I.ok.above (vL I.lt)
theorem Inv.nofs(I:Inv X pins σ H s){a:Addr}(h:s.heap.objs.size<=a):a∉X.fs:=λb=>by
 obtain⟨_,o,c,_⟩:=I.ok.funs.mem b;exact absurd (zI (zL c) (zR I.sz h)) (yP _)
theorem Inv.cne(I:Inv X pins σ H s):∀x c,X.env.cells.lookup x=some c->c≠X.env.locals:=λx c e z=>by
 obtain⟨v,o,a,b⟩:=I.cell x c e;obtain⟨m,⟨g,es,ep,f,d,_⟩,_⟩:=I.loc;rw[z,f]at a;cases a;rw[d]at b;cases b
theorem Inv.funs(I:Inv X pins σ H s):s.heap.FunFrames X.base X.outer:=by
 have all:∀(l:List Env),(∀b∈frs l,b∈X.fs)->X.s₀.heap.FunFrames X.base l->s.heap.FunFrames X.base l:=by
  intro l
  induction l with
  |nil=>intro _ _;trivial
  |cons env r i =>
   intro f hl;obtain⟨k,⟨L,o,a,g,j,m⟩,hr⟩:=hl;have c:L∈X.fs:=f L (by unfold frs;rw[uQ,a];exact zQ);obtain⟨n,e⟩:=I.base.slot L o j (I.ok.frf L c) c λz=>I.ok.exfs L z c;exact⟨k,⟨L,_,a,g,e,m⟩,i (λb d=>f b (by unfold frs;rw[uQ,a];exact zM _ d)) hr⟩
 exact all X.outer (λ_ d=>d) I.ok.funs
theorem Inv.stack(I:Inv X pins σ H s):s.heap.FunFrames X.base X.stack:=by
 rcases I.ok.stk with e|⟨e,a⟩
 ·rw[e];exact I.funs
 ·rw[e];obtain⟨m,b,_⟩:=I.loc;refine .cons (by rw[I.ok.kind];decide) a b ?_ I.funs;exact Heap.get?_none_of_le (zR I.ok.bsz I.ok.above)
theorem Inv.stkSub(I:Inv X pins σ H s):∀b∈frs X.stack,b∈X.env.locals:: X.fs:=λb a=>by
 rcases I.ok.stk with e|⟨e,c⟩
 ·rw[e]at a;exact zM _ a
 ·rw[e]at a;unfold frs at a;rw[uQ,c]at a;exact a
theorem Inv.stkFree(I:Inv X pins σ H s):∀b∈frs X.stack,H b=none:=λb a=>by
 rcases yQ.mp (I.stkSub b a) with e|a
 ·rw[e];exact I.free
 ·obtain⟨_,o,c,_⟩:=I.ok.funs.mem a;exact I.base.free b o c (I.ok.frf b a) λz=>I.ok.exfs b z a
theorem Inv.step{g':Array GenState}{t':Nat}{d':Drawn}{ch:LA}(I:Inv X pins σ H s)
  (w:∀b∈ch,(b∈X.ex\/X.s₀.heap.objs.size<=b)/\b≠X.env.locals/\(∀x c,X.env.cells.lookup x=some c->c≠b)/\∀p∈X.pn++pins,p.1≠b)
  (F:∀b o,b≠X.env.locals->b∉X.fs->b∉ch->s.heap.get? b=some o->H b=none->h'.get? b=some o)
  (K:∀b o,b≠X.env.locals->b∈X.fs->b∉ch->s.heap.get? b=some o->H b=none->∃G,h'.get? b=some {o with slots:=G})(C:∀b o,b∉ch->s.heap.get? b=some o->H b=none->H' b=none)
  (there:∀b o,b∉ch->s.heap.get? b=some o->∃t,h'.get? b=some t)
  (U:∀b xs,H b=some (.tup xs)->H' b=some (.tup xs))(T:∀b o u,H b=some (.frz o u)->H' b=some (.frz o u))(a1:∀b ps,H b=some (.tbl ps)->∃more,H' b=some (.tbl (ps++more)))
  (ns:∀m,s.heap.Ns X.env.locals m->h'.Ns X.env.locals m)(W:HOk X.prog X.w H' h')(a2:AllBare g'):
  Inv X pins σ H' {s with heap:=h',gens:=g',drawn:=d',toks:=t'}:=by
 have P:∀b o,X.s₀.heap.get? b=some o->b≠X.env.locals:=λb o e=>zU (zI (zL e) I.ok.above);have D:∀b o,X.s₀.heap.get? b=some o->b∉X.ex->b∉ch:=λb o e a f=>by
  rcases(w b f).1 with z|z
  ·exact a z
  ·exact absurd (zI (zL e) z) (yP _)
 have O:∀x c,X.env.cells.lookup x=some c->∀v,s.heap.IsCell c v->h'.IsCell c v:=λx c e v⟨o,g,J⟩=>by
  have j:c∉ch:=λz=>(w c z).2.2.1 x c e rfl
  by_cases L:c∈X.fs
  ·obtain⟨G,q⟩:=K c o (I.cne x c e) L j g (I.freeC x c e);exact⟨_,q,J⟩
  ·exact⟨o,F c o (I.cne x c e) L j g (I.freeC x c e),J⟩
 refine⟨I.ok,I.os,a2,⟨λb o e n f a=>?_,λb o e n f a=>?_,λb o e n a=>?_,λb o e a=>?_,λb xs e=>U b xs (I.base.tups b xs e),λb o xs e=>T b o xs (I.base.frzs b o xs e),λb ps e=>?_⟩,?_,λx c e=>?_,?_,λx c e=>?_,λp R=>?_,W,I.len⟩
 ·exact F b o (P b o e) f (D b o e a) (I.base.keep b o e n f a) (I.base.free b o e n a)
 ·obtain⟨G,e1⟩:=I.base.slot b o e n f a;obtain⟨Z,y⟩:=K b _ (P b o e) f (D b o e a) e1 (I.base.free b o e n a);exact⟨Z,y⟩
 ·obtain⟨t,e1⟩:=I.base.there b o e a;exact C b t (D b o e a) e1 (I.base.free b o e n a)
 ·obtain⟨t,e1⟩:=I.base.there b o e a;exact there b t (D b o e a) e1
 ·obtain⟨a0,e1⟩:=I.base.tbls b ps e;obtain⟨Y,y⟩:=a1 b _ e1;exact⟨a0++Y,by rw[y,Array.append_assoc]⟩
 ·obtain⟨m,S,hl⟩:=I.loc;refine⟨m,ns m S,λi x v e1 y a3=>?_⟩;obtain⟨u,r,l⟩:=hl i x v e1 y a3;refine⟨u,r,?_⟩;rcases l with l|⟨k,c,e,z⟩
  ·exact .inl l
  ·exact .inr ⟨k,c,e,O x c e _ z⟩
 ·obtain⟨v,z⟩:=I.cell x c e;exact⟨v,O x c e v z⟩
 ·obtain⟨m,⟨o,_,_,g,_⟩,_⟩:=I.loc;exact C _ o (λz=>(w _ z).2.1 rfl) g I.free
 ·obtain⟨v,o,g,J⟩:=I.cell x c e;exact C c o (λz=>(w c z).2.2.1 x c e rfl) g (I.freeC x c e)
 ·obtain⟨e,n,N,M,d⟩:=I.pin p R;have j:p.1∉ch:=λz=>(w p.1 z).2.2.2 p R rfl;exact⟨F p.1 p.2 N M j e n,C p.1 p.2 j e n,N,M,d⟩
theorem Inv.un{t':Nat}(I:Inv X pins σ H s)(u:Un X.fs [] H H' s.heap h')(i:HOk X.prog X.w H' h'):Inv X pins σ H' {s with heap:=h',toks:=t'}:=by
 obtain⟨m,⟨o,es,ep,d,r⟩,_⟩:=id I.loc;obtain⟨t,j⟩:=u.any d I.free (by simp);exact I.step (g':=s.gens) (d':=s.drawn) (ch:=[]) (λ_ z=>nomatch z) (λb o _ a _ e n=>u.keep b o e n a (by simp)) (λb o _ a _ e n=>u.slot b o e n a (by simp)) (λb o _ e n=>u.free b o e n (by simp)) (λb o _ e=>u.there b o e (by simp)) u.tups u.frzs u.tbls (λq l=>by
  obtain⟨p,k,f,c,g⟩:=l;rw[d]at c;cases c;exact⟨_,k,f,j,g⟩) i I.bare
theorem Inv.call{g':Array GenState}{t':Nat}{d':Drawn}{ch:LA}(I:Inv X pins σ H s)(u:Un (frs X.stack) ch H H' s.heap h')(l:HOk X.prog X.w H' h')(q:AllBare g')
  (f:∀b∈ch,(b∈X.ex\/X.s₀.heap.objs.size<=b)/\b≠X.env.locals/\(∀x c,X.env.cells.lookup x=some c->c≠b)/\∀p∈X.pn++pins,p.1≠b):
  Inv X pins σ H' {s with heap:=h',gens:=g',drawn:=d',toks:=t'}:=by
 obtain⟨m,⟨o,es,ep,i,r⟩,_⟩:=id I.loc;obtain⟨D,d⟩:=u.any i I.free λz=>(f _ z).2.1 rfl;exact I.step (ch:=ch) f (λb o d v a e n=>u.keep b o e n (λz=>(yQ.mp (I.stkSub b z)).elim d v) a) (λb o _ _ a e n=>u.any e n a) (λb o a e n=>u.free b o e n a) (λb o a e=>u.there b o e a) u.tups u.frzs u.tbls (λC w=>by
  obtain⟨y,t,j,g,k⟩:=w;rw[i]at g;cases g;exact⟨_,t,j,d,k⟩) l q
theorem Inv.turned{t':Nat}{a:Addr}(I:Inv X pins σ H s)(k:∀b o,b≠a->s.heap.get? b=some o->h'.get? b=some o)(l:H a=none)(f:a≠X.env.locals)
  (i:a∈X.ex\/X.s₀.heap.objs.size<=a)(t:∀x c,X.env.cells.lookup x=some c->c≠a)(j:∀p∈X.pn++pins,p.1≠a):Inv X pins σ H {s with heap:=h',toks:=t'}:=by
 have g:∀b u,H b=some u->b≠a:=λb u e z=>by rw[z,l]at e;cases e
 refine I.step (g':=s.gens) (d':=s.drawn) (ch:=[a]) (λb y=>?_) (λb o _ _ d e _=>k b o (λz=>d (by simp[z])) e) (λb o _ _ d e _=>⟨o.slots,k b o (λz=>d (by simp[z])) e⟩) (λ_ _ _ _ n=>n)
  (λb o d e=>⟨o,k b o (λz=>d (by simp[z])) e⟩) (λ_ _ e=>e) (λ_ _ _ e=>e) (λb ps e=>⟨#[],by rw[e];simp⟩) (λm C=>?_) (λb u e=>?_) I.bare
 ·have e:b=a:=by simpa using y
  subst e;exact⟨i,f,t,j⟩
 ·obtain⟨o,es,ep,w,r⟩:=C;exact⟨o,es,ep,k _ o (zS f) w,r⟩
 ·refine(I.hok b u e).stay (λc v d q=>k c v ?_ q) (λ_ q=>q) λ_ _ q=>q;rcases d with z|z
  ·rw[z];exact g b u e
  ·exact g c _ z
theorem Inv.tok(I:Inv X pins σ H s)(t:Nat):Inv X pins σ H {s with toks:=t}:=I.un (h':=s.heap) (t':=t) Un.refl I.hok
theorem Inv.kept{t':Nat}(I:Inv X pins σ H s)(k:∀b u,s.heap.get? b=some u->h'.get? b=some u):Inv X pins σ H {s with heap:=h',toks:=t'}:=I.un (Un.kept k) (I.hok.kept k)
theorem Inv.laid{a:Addr}{o:HO}{t':Nat}(I:Inv X pins σ H s)(k:∀b u,s.heap.get? b=some u->h'.get? b=some u)(c:s.heap.objs.size<=a)(new:oK X.prog X.w (upd H a o) h' a o):
  Inv X pins σ (upd H a o) {s with heap:=h',toks:=t'}:=I.un (Un.laid k c (I.hok.fresh c)) (I.hok.laid k c new)
theorem Inv.write{x e:Addr}{o:HO}{t':Nat}(I:Inv X pins σ H s)(a:Mut (H x))(d:e=x\/H e=some (.own x))(k:∀b u,b≠e->s.heap.get? b=some u->h'.get? b=some u)(c:∃u,h'.get? e=some u)
  (new:oK X.prog X.w (upd H x o) h' x o):Inv X pins σ (upd H x o) {s with heap:=h',toks:=t'}:=I.un (Un.write a d k c) (I.hok.write a d k c new)
theorem Inv.pins_of{a:PN}(I:Inv X pins σ H s)(h:∀p∈a,s.heap.get? p.1=some p.2/\H p.1=none/\p.1≠X.env.locals/\p.1∉X.fs/\∀v,p.2.data≠.cell v):Inv X a σ H s:=
 ⟨I.ok,I.os,I.bare,I.base,I.loc,I.cell,I.free,I.freeC,λp b=>(pA.mp b).elim (λz=>I.pin p (xJ _ z)) (h p),I.hok,I.len⟩
theorem bT{N:List Str}(d:N.Nodup){i j:Nat}{x:Str}(a:N[i]?=some x)(b:N[j]?=some x):i=j:=by
 obtain⟨e,e1⟩:=pB.mp a;obtain⟨f,c⟩:=pB.mp b;exact(List.getElem_inj d).mp (e1.trans c.symm)
theorem Cs{M:Model}{A:Around}{E:VP}{i:Nat}{x:Str}{v:V}{u:Value}{Q:Unit->Shared->Prop}(I:Inv X pins σ H s)(Z:X.N.Nodup)(hi:X.N[i]?=some x)(l:Loc X.env.scope x)(r:RelV v u)
  (h:∀s',Inv X pins (σ.set i (some v)) H s'->(∃a,Heap.SameBut a s.heap s'.heap/\(a=X.env.locals\/X.env.cells.lookup x=some a))->Q () s')(b0:X.fn x=true\/X.env.scope.names.lookup x=some .local:=by first|exact .inl rfl|exact .inr rfl|assumption):wpAny M A (storeName X.env x u) Q E s:=by
 obtain⟨m,L,hl⟩:=id I.loc;have b6:(X.env.scope.kind == .class || (X.env.scope.kind == .module && X.env.locals != X.env.globals))=false:=by rw[I.ok.kind];rfl
 have a2:i<σ.length:=by rw[I.len];exact(pB.mp hi).1
 have cne:=I.cne;have a4:∀{a:Addr}{h':Heap},(∃o,s.heap.get? a=some o/\H a=none)->Heap.SameBut a s.heap h'->HOk X.prog X.w H h':=λ{a h'}a9 f b a8 e=>by
  obtain⟨_,_,a0⟩:=a9;refine(I.hok b a8 e).stay (λc G g q=>(f.2 c ?_).trans q) (λ_ q=>q) λ_ _ q=>q;rintro rfl;rcases g with rfl|g
  ·rw[a0]at e;cases e
  ·rw[a0]at g;cases g
 rcases l with w|w
 ·refine wpAny_storeName_local w L (λh' b3 f=>?_) b6;obtain⟨b7,_,_,b5,_⟩:=id L;refine h _ ⟨I.ok,I.os,I.bare,⟨λb o e n C l=>?_,λb o e n C l=>?_,I.base.free,λb o e l=>?_,I.base.tups,I.base.frzs,I.base.tbls⟩,⟨_,b3,λj y O e1 t U=>?_⟩,λy c e=>?_,I.free,I.freeC,λp W=>?_,a4 ⟨b7,b5,I.free⟩ f,by simpa using I.len⟩ ⟨_,f,.inl rfl⟩
  ·exact(f.2 b (zU (zI (zL e) I.ok.above))).trans (I.base.keep b o e n C l)
  ·obtain⟨S,e1⟩:=I.base.slot b o e n C l;exact⟨S,(f.2 b (zU (zI (zL e) I.ok.above))).trans e1⟩
  ·obtain⟨N,e1⟩:=I.base.there b o e l;exact⟨N,(f.2 b (zU (zI (zL e) I.ok.above))).trans e1⟩
  ·by_cases D:j=i
   ·subst D;rw[hi]at e1;cases e1;rw[xS a2]at t;cases t;exact⟨u,r,.inl ⟨w,by simp⟩⟩
   ·rw[wH (zS D)]at t;obtain⟨K,R,q⟩:=hl j y O e1 t U;refine⟨K,R,?_⟩;rcases q with⟨k,e⟩|⟨k,c,e,z⟩
    ·refine .inl ⟨k,?_⟩;have:y≠x:=λe=>D (bT Z e1 (e ▸ hi));simp[this,e]
    ·exact .inr ⟨k,c,e,z.sameBut f (cne y c e)⟩
  ·obtain⟨G,z⟩:=I.cell y c e;exact⟨G,z.sameBut f (cne y c e)⟩
  ·obtain⟨e,n,J,P,d⟩:=I.pin p W;exact⟨(f.2 p.1 J).trans e,n,J,P,d⟩
 ·have T:X.fn x=true:=by
   rcases b0 with z|z
   ·exact z
   ·rw[z]at w;cases w
  obtain⟨c,g⟩:=I.ok.has x (.inl w);obtain⟨G,z⟩:=I.cell x c g;refine wpAny_storeName_cell I.ok.kind w g z (λh' a1 f=>?_);obtain⟨a5,a3,a6⟩:=id z;refine h {s with heap:=h'} ⟨I.ok,I.os,I.bare,⟨λb o e n C l=>?_,λb o e n C l=>?_,I.base.free,λb o e l=>?_,I.base.tups,I.base.frzs,I.base.tbls⟩,⟨m,L.sameBut f (zS (cne x c g)),λj y O e1 t U=>?_⟩,λy F e=>?_,I.free,I.freeC,λp W=>?_,a4 ⟨a5,a3,I.freeC x c g⟩ f,by simpa using I.len⟩ ⟨c,f,.inr g⟩
  ·exact(f.2 b (zU (zI (zL e) (I.ok.cab x c T g)))).trans (I.base.keep b o e n C l)
  ·obtain⟨S,e1⟩:=I.base.slot b o e n C l;exact⟨S,(f.2 b (zU (zI (zL e) (I.ok.cab x c T g)))).trans e1⟩
  ·obtain⟨N,e1⟩:=I.base.there b o e l;exact⟨N,(f.2 b (zU (zI (zL e) (I.ok.cab x c T g)))).trans e1⟩
  ·by_cases D:j=i
   ·subst D;rw[hi]at e1;cases e1;rw[xS a2]at t;cases t;exact⟨u,r,.inr ⟨.inl w,c,g,a1⟩⟩
   ·rw[wH (zS D)]at t;obtain⟨K,R,q⟩:=hl j y O e1 t U;refine⟨K,R,?_⟩;rcases q with q|⟨k,F,e,a7⟩
    ·exact .inl q
    ·refine .inr ⟨k,F,e,a7.sameBut f ?_⟩;rintro rfl;exact D (bT Z e1 (I.ok.inj _ _ _ e g ▸ hi))
  ·by_cases Y:F=c
   ·subst Y;exact⟨_,a1⟩
   ·obtain⟨b1,b4⟩:=I.cell y F e;exact⟨b1,b4.sameBut f Y⟩
  ·obtain⟨e,n,J,P,d⟩:=I.pin p W;refine⟨(f.2 p.1 ?_).trans e,n,J,P,d⟩;intro q;rw[q,a3]at e;have b2:a5=p.2:=zP e;exact d G (by rw[←b2];exact a6)
theorem fJ{M:Model}{A:Around}{E:VP}{i:Nat}{x:Str}{v:V}{u:Value}{Q:Unit->Shared->Prop}(I:Inv X pins σ H s)(d:X.N.Nodup)(hi:X.N[i]?=some x)(c:Loc X.env.scope x)(r:RelV v u)
  (h:∀s',Inv X pins (σ.set i (some v)) H s'->Q () s')(a:X.fn x=true\/X.env.scope.names.lookup x=some .local:=by first|exact .inl rfl|exact .inr rfl|assumption):wpAny M A (storeName X.env x u) Q E s:=
 Cs I d hi c r (λs' b _=>h s' b) a
theorem Inv.call'{s':Shared}{ch:LA}(I:Inv X pins σ H s)(g:s'.os=s.os)(u:Un (frs X.stack) ch H H' s.heap s'.heap)(d:HOk X.prog X.w H' s'.heap)(f:AllBare s'.gens)
  (a:∀b∈ch,(b∈X.ex\/X.s₀.heap.objs.size<=b)/\b≠X.env.locals/\(∀x c,X.env.cells.lookup x=some c->c≠b)/\∀p∈X.pn++pins,p.1≠b):Inv X pins σ H' s':=by
 obtain⟨h',g',d',t',i⟩:=s';have e:i=s.os:=g;subst e;exact I.call (g':=g') (t':=t') (d':=d') u d f a
end
abbrev XK:=Value->Option Addr->Hp->Prop
abbrev St:=List (Option V)
abbrev VK:=V->Hp->Prop
abbrev TE:=St->Hp->VK->Prop
abbrev TT:=St->Hp->(Bool->Hp->Prop)->Prop
abbrev TA:=St->Hp->(List V->Hp->Prop)->Prop
structure Ends where
 nx:St->Hp->Prop
 rt:VK
 bk:St->Hp->Prop:=λ_ _=>False
 ct:St->Hp->Prop:=λ_ _=>False
abbrev TS:=Ends->St->Hp->Prop
def EP(X:Cx)(pins:PN)(σ:St)(Q:VK)(u:Value)(s':Shared):Prop:=∃v H',Inv X pins σ H' s'/\RelV v u/\Q v H'
def TP(X:Cx)(pins:PN)(σ:St)(Q:Bool->Hp->Prop)(b:Bool)(s':Shared):Prop:=∃H',Inv X pins σ H' s'/\Q b H'
def AP(X:Cx)(pins:PN)(σ:St)(Q:List V->Hp->Prop)(us:LW)(s':Shared):Prop:=∃vs H',Inv X pins σ H' s'/\Vals vs us/\Q vs H'
def SP(X:Cx)(pins:PN)(D:Ends)(f:Flow)(s':Shared):Prop:=
 match f with
 |.next=>∃σ' H',Inv X pins σ' H' s'/\D.nx σ' H'
 |.brk=>∃σ' H',Inv X pins σ' H' s'/\D.bk σ' H'
 |.cont=>∃σ' H',Inv X pins σ' H' s'/\D.ct σ' H'
 |.ret u=>∃v σ' H',Inv X pins σ' H' s'/\RelV v u/\D.rt v H'
def PE(X:Cx)(e:Expr)(t:TE):Prop:=
 ∀(pins:PN)(s:Shared)(σ:St)(H:Hp)(Q:VK),Inv X pins σ H s->t σ H Q->wpAny (model X.prog X.w) X.A (eval e X.env) (EP X pins σ Q) X.xe s
def PT(X:Cx)(e:Expr)(t:TT):Prop:=
 ∀(pins:PN)(s:Shared)(σ:St)(H:Hp)(Q:Bool->Hp->Prop),Inv X pins σ H s->t σ H Q->wpAny (model X.prog X.w) X.A (isTrue e X.env (eval e X.env)) (TP X pins σ Q) X.xe s
def PW(X:Cx)(e:Expr)(t:TT):Prop:=
 ∀(whole:Sem Value)(pins:PN)(s:Shared)(σ:St)(H:Hp)(Q:Bool->Hp->Prop),Inv X pins σ H s->t σ H Q->wpAny (model X.prog X.w) X.A (isTrue e X.env whole) (TP X pins σ Q) X.xe s
theorem PW.pt{X:Cx}{e:Expr}{t:TT}(h:PW X e t):PT X e t:=h _
def PA(X:Cx)(es:List Expr)(t:TA):Prop:=
 ∀(pos:Pos)(pins:PN)(s:Shared)(σ:St)(H:Hp)(Q:List V->Hp->Prop),Inv X pins σ H s->t σ H Q->wpAny (model X.prog X.w) X.A (spliced (backTo pos (starEach es X.env))) (AP X pins σ Q) X.xe s
def PS(X:Cx)(st:Stmt)(t:TS):Prop:=
 ∀(pins:PN)(s:Shared)(σ:St)(H:Hp)(D:Ends),Inv X pins σ H s->t D σ H->wpAny (model X.prog X.w) X.A (exec st X.env) (SP X pins D) X.xe s
def PSs(X:Cx)(st:List Stmt)(t:TS):Prop:=
 ∀(pins:PN)(s:Shared)(σ:St)(H:Hp)(D:Ends),Inv X pins σ H s->t D σ H->wpAny (model X.prog X.w) X.A (execs st X.env) (SP X pins D) X.xe s
theorem thn{c:Type}{b:Sem c}{Q d:c->Shared->Prop}{M:Model}{A:Around}{E:VP}{s:Shared}(h:wpAny M A b Q E s)(e:∀a s,Q a s->d a s):wpAny M A b d E s:=yF h e λ_ _ x=>x
section
variable {X:Cx}
def tVar(i:Nat):TE:=λσ H Q=>∃v,σ[i]?=some (some v)/\Q v H
def tC(v:V):TE:=λ_ H Q=>Q v H
theorem Kg{i:Nat}{x:Str}{j:Pos}(k:X.N[i]?=some x)(t:Vis X.env.scope x)(d:(x == ("__debug__" :Str))=false:=by decide)(q:(x == ("__classdict__" :Str))=false:=by decide):PE X (.Name x j) (tVar i):=by
 intro n s o H Q I h;obtain⟨v,e,h⟩:=h;obtain⟨m,p,hl⟩:=I.loc;obtain⟨u,r,l⟩:=hl i x v k e t;have b:EP X n o Q u s:=⟨v,H,I,r,h⟩;rcases l with⟨a,w⟩|⟨a,c,f,g⟩
 ·exact wpAny_Name (wpAny_loadName_local I.ok.kind a p w b) d
 ·rcases a with a|a
  ·exact wpAny_Name (wpAny_loadName_cell I.ok.kind a f g b) d
  ·exact wpAny_Name (wpAny_loadName_free I.ok.kind a f g b q) d
theorem pP{i j a}:PE X (.Constant (.int i) j a) (tC (.int i)):=λ_ _ _ H _ I h=>wpAny_Constant_int ⟨.int i,H,I.tok _,⟨_,rfl⟩,h⟩
theorem iM{b j a}:PE X (.Constant (.bool b) j a) (tC (.bl b)):=λ_ _ _ H _ I h=>Constant_bool ⟨.bl b,H,I,rfl,h⟩
theorem Cr{j a}:PE X (.Constant .none j a) (tC .non):=λ_ _ _ H _ I h=>Constant_none ⟨.non,H,I,rfl,h⟩
theorem kX{x j a}:PE X (.Constant (.str x) j a) (tC (.str x)):=λ_ _ _ H _ I h=>Calls.Constant_str ⟨.str x,H,I.tok _,⟨_,rfl⟩,h⟩
def Gl(X:Cx)(x:Str):Prop:=X.env.kindOf x=some .globalImplicit
theorem jL{E:VP}{b:PN}{s:Shared}{c:St}{H:Hp}{x:Str}{u:Value}{a:Pos}{Q:VP}(I:Inv X b c H s)(d:Gl X x)(f:X.mg x=some u)(h:Q u s)
  (e:(x == ("__debug__" :Str))=false:=by decide):wpAny (model X.prog X.w) X.A (eval (.Name x a) X.env) Q E s:=
 Calls.Name_function_global I.ok.kind d (Calls.loadGlobal_global (by rw[I.ok.glob];exact I.mod.glob.keeps I.bk) f h) e
theorem iN{E:VP}{c:PN}{s:Shared}{d:St}{H:Hp}{x:Str}{u:Value}{a:Pos}{Q:VP}(I:Inv X c d H s)(f:Gl X x)(k:X.mg x=none)(i:bootBuiltins x=some u)(h:Q u s)
  (e:x≠"__name__" := by decide)(j:(x == ("__debug__" :Str))=false:=by decide):wpAny (model X.prog X.w) X.A (eval (.Name x a) X.env) Q E s:=by
 obtain⟨l,b,g⟩:=I.mod.blt;exact Calls.Name_function_global I.ok.kind f (Calls.loadGlobal_builtin (by rw[I.ok.glob];exact I.mod.glob.keeps I.bk) k (by rw[I.ok.blt];exact b.keeps I.bk) ((g x e).trans i) h) j
theorem mH{x:Str}{v:V}{u:Value}{a:Pos}(c:Gl X x)(d:X.mg x=some u)(r:RelV v u)(b:(x == ("__debug__" :Str))=false:=by decide):PE X (.Name x a) (tC v):=
 λ_ _ _ H _ I h=>jL I c d ⟨v,H,I,r,h⟩ b
theorem gJ{x:Str}{v:V}{u:Value}{a:Pos}(c:Gl X x)(f:X.mg x=none)(d:bootBuiltins x=some u)(r:RelV v u)(b:x≠"__name__" := by decide)(e:(x == ("__debug__" :Str))=false:=by decide):PE X (.Name x a) (tC v):=
 λ_ _ _ H _ I h=>iN I c f d ⟨v,H,I,r,h⟩ b e
variable {a b:Expr} {ta tb:TE} {pos:Pos}
def tB(t:TE):TT:=λσ H Q=>t σ H λx H1=>∃c,x=.bl c/\Q c H1
theorem jV{e:Expr}{f:TE}(h:PE X e f)(l:∀c,isTrue e X.env c=(do let v ←c;standAt e.pos;holding [v] (truthy v)):=by intro _;rfl):PT X e (tB f):=by
 intro j s k H Q I n;refine isTrue_plain (thn (h j s k H _ I n) ?_) (l _);rintro v p ⟨x,m,o,g,i⟩;obtain⟨d,rfl,q⟩:=i;cases g;exact tI ⟨m,o,q⟩
variable {tA tB':TT} {rest:List Expr}
def tAnd(t u:TT):TT:=λσ H Q=>t σ H λc H1=>if c=true then u σ H1 Q else Q false H1
def tOr(t u:TT):TT:=λσ H Q=>t σ H λc H1=>if c=true then Q true H1 else u σ H1 Q
def tNot(t:TT):TT:=λσ H Q=>t σ H λc H1=>Q (!c) H1
theorem Cq(g:PT X a tA):PW X (.BoolOp .And [a] pos) tA:=by
 intro i d s f H Q I h;refine isTrue_and (thn (g d s f H Q I h) λc j e=>?_);cases c with
 |true=>exact isTrue_and_nil e
 |false=>exact e
theorem fK(g:PT X a tA):PW X (.BoolOp .Or [a] pos) tA:=by
 intro i d s f H Q I h;refine isTrue_or (thn (g d s f H Q I h) λc j e=>?_);cases c with
 |false=>exact isTrue_or_nil e
 |true=>exact e
theorem Cp(j:PT X a tA)(l:PW X (.BoolOp .And (b:: rest) pos) tB'):PW X (.BoolOp .And (a:: b:: rest) pos) (tAnd tA tB'):=by
 intro k e s f H Q I h;refine isTrue_and (thn (j e s f H _ I h) ?_);rintro c m ⟨g,i,d⟩;cases c with
 |true=>exact l k e m f g Q i d
 |false=>exact⟨g,i,d⟩
theorem fM(j:PT X a tA)(l:PW X (.BoolOp .Or (b:: rest) pos) tB'):PW X (.BoolOp .Or (a:: b:: rest) pos) (tOr tA tB'):=by
 intro k e s f H Q I h;refine isTrue_or (thn (j e s f H _ I h) ?_);rintro c m ⟨g,i,d⟩;cases c with
 |true=>exact⟨g,i,d⟩
 |false=>exact l k e m f g Q i d
theorem Co(f:PT X a tA):PT X (.UnaryOp .Not a pos) (tNot tA):=by
 intro g s d H Q I h;exact isTrue_not (f g s d H (λc e=>Q (!c) e) I h)
def Kf(ta tb:TE):TE:=λσ H Q=>ta σ H λx H1=>∃c,x=.bl c/\if c=true then tb σ H1 Q else Q (.bl false) H1
def tOrV(ta tb:TE):TE:=λσ H Q=>ta σ H λx H1=>∃c,x=.bl c/\if c=true then Q (.bl true) H1 else tb σ H1 Q
def t_f(ta:TE):TE:=λσ H Q=>ta σ H λx H1=>∃c,x=.bl c/\Q (.bl (!c)) H1
theorem Ke{op}{c:TE}(h:PE X a c):PE X (.BoolOp op [a] pos) c:=λf s d H Q I e=>BoolOp_one (h f s d H Q I e)
theorem Kd(j:PE X a ta)(k:PE X (.BoolOp .And (b:: rest) pos) tb):PE X (.BoolOp .And (a:: b:: rest) pos) (Kf ta tb):=by
 intro e s f H Q I h;refine BoolOp_and (thn (j e s f H _ I h) ?_);rintro v l ⟨x,g,i,m,d⟩;obtain⟨c,rfl,d⟩:=d;cases m;refine tI ?_;cases c with
 |true=>exact k e l f g Q i d
 |false=>exact⟨.bl false,g,i,rfl,d⟩
def tIf(t:TT)(ta tb:TE):TE:=λσ H Q=>t σ H λc H1=>if c=true then ta σ H1 Q else tb σ H1 Q
theorem bU{c:Expr}(l:PT X c tA)(m:PE X a ta)(n:PE X b tb):PE X (.IfExp c a b pos) (tIf tA ta tb):=by
 intro e s f H Q I h;refine wpAny_IfExp (thn (l e s f H _ I h) ?_);rintro d i ⟨j,k,g⟩;cases d with
 |true=>exact m e i f j Q k g
 |false=>exact n e i f j Q k g
end
def SqL(K:Frag)(H:Hp)(a:Addr)(xs:List V):Prop:=
 Rd H a (.lst xs) \/
  ∃(o:Obj)(its:Array Value)(n:Nat),K.lookup a=some o/\o.cls=.type "list" /\ o.dict=none/\o.data=.seq its n/\its.size<=sizeLine/\Vals xs its.toList
def SqT(K:Frag)(H:Hp)(a:Addr)(xs:List V):Prop:=
 Rd H a (.tup xs) \/
  ∃(o:Obj)(its:Array Value)(n:Nat),K.lookup a=some o/\o.cls=.type "tuple" /\ o.data=.seq its n/\its.size<=sizeLine/\Vals xs its.toList
def absV:Value->Option V
 |.none=>some .non
 |.bool b=>some (.bl b)
 |.int i _=>some (.int i)
 |.str x _=>some (.str x)
 |.bytes b _=>some (.byt b)
 |.float b _=>some (.flt b)
 |.ref a=>some (.ref a)
 |.type n=>some (.ty n)
 |_=>none
theorem RelV.abs{x:V}{u:Value}(r:RelV x u):absV u=some x:=by
 cases x with
 |non=>cases r;rfl
 |bl _=>cases r;rfl
 |int _=>obtain⟨t,rfl⟩:=r;rfl
 |str _=>obtain⟨t,rfl⟩:=r;rfl
 |byt _=>obtain⟨t,rfl⟩:=r;rfl
 |flt _=>obtain⟨t,rfl⟩:=r;rfl
 |ref _=>cases r;rfl
 |ty _=>cases r;rfl
theorem RelV.inj{x y:V}{u:Value}(r:RelV x u)(q:RelV y u):x=y:=zP (r.abs.symm.trans q.abs)
theorem Vals.inj:∀{xs ys:List V}{us:LW},Vals xs us->Vals ys us->xs=ys
 |_,_,_,.nil,.nil=>rfl
 |_,_,_,.cons r b,.cons a t'=>by rw[r.inj a,Vals.inj b t']
section
variable {X:Cx} {pins:PN} {σ:St} {H:Hp} {s:Shared} {a:Addr} {xs ys:List V}
theorem SqL.of{K:Frag}(h:H a=some (.lst xs)):SqL K H a xs:=.inl (.inl h)
theorem SqT.of{K:Frag}(h:H a=some (.tup xs)):SqT K H a xs:=.inl (.inl h)
theorem Inv.list(I:Inv X pins σ H s)(h:SqL X.K H a xs):∃its:LW,Vals xs its/\PlainL s.heap a its.toArray/\xs.length<=sizeLine:=by
 rcases h with h|⟨o,its,n,d,b,f,c,g,r⟩
 ·obtain⟨z,its,n,r,e⟩:=h.ok I.hok;exact⟨its,r,⟨_,n,e,rfl,rfl,rfl⟩,z⟩
 ·refine⟨its.toList,r,⟨o,n,I.kIn a o d,b,f,by simpa using c⟩,?_⟩;have e:=r.length;simp only[Array.length_toList]at e;omega
theorem Inv.tuple(I:Inv X pins σ H s)(h:SqT X.K H a xs):∃its:LW,Vals xs its/\IsTup s.heap a its.toArray/\xs.length<=sizeLine:=by
 rcases h with h|⟨o,its,n,d,c,b,f,r⟩
 ·obtain⟨z,its,r,p⟩:=h.ok I.hok;exact⟨its,r,p,z⟩
 ·refine⟨its.toList,r,⟨o,I.kIn a o d,c,n,by simpa using b⟩,?_⟩;have e:=r.length;simp only[Array.length_toList]at e;omega
theorem Inv.list_inj(I:Inv X pins σ H s)(h:SqL X.K H a xs)(h':SqL X.K H a ys):xs=ys:=by
 obtain⟨its,r,⟨o,n,e,_,_,d⟩,_⟩:=I.list h;obtain⟨its',c,⟨i,g,b,_,_,d'⟩,_⟩:=I.list h';rw[e]at b;cases b;rw[d]at d';injection d' with f _;have:its=its':=by simpa using wE Array.toList f
 subst this;exact r.inj c
theorem Inv.tuple_inj(I:Inv X pins σ H s)(h:SqT X.K H a xs)(h':SqT X.K H a ys):xs=ys:=by
 obtain⟨its,r,⟨o,e,_,n,d⟩,_⟩:=I.tuple h;obtain⟨its',c,⟨i,b,_,g,d'⟩,_⟩:=I.tuple h';rw[e]at b;cases b;rw[d]at d';injection d' with f _;have:its=its':=by simpa using wE Array.toList f
 subst this;exact r.inj c
end
abbrev Cx.wish(X:Cx)(E:VP):Cx:={X with xe:=E}
abbrev Cx.nox(X:Cx):Cx:=X.wish λ_ _=>False
theorem Cx.Ok.wish{X:Cx}(ok:X.Ok)(E:VP):(X.wish E).Ok:=
 ⟨ok.mod,ok.kind,ok.glob,ok.blt,ok.above,ok.inj,ok.has,ok.cab,ok.hd,ok.frames,ok.stk,ok.exf,ok.bs,ok.bsz,ok.noex,ok.exfs,ok.funs,ok.frf⟩
theorem Cx.Ok.unwish{X:Cx}{E:VP}(ok:(X.wish E).Ok):X.Ok:=
 ⟨ok.mod,ok.kind,ok.glob,ok.blt,ok.above,ok.inj,ok.has,ok.cab,ok.hd,ok.frames,ok.stk,ok.exf,ok.bs,ok.bsz,ok.noex,ok.exfs,ok.funs,ok.frf⟩
section
variable {X:Cx} {pins:PN} {σ:St} {H:Hp} {s:Shared} {E:VP}
theorem Inv.wish(I:Inv X pins σ H s)(E:VP):Inv (X.wish E) pins σ H s:=⟨I.ok.wish E,I.os,I.bare,I.base,I.loc,I.cell,I.free,I.freeC,I.pin,I.hok,I.len⟩
theorem Inv.unwish(I:Inv (X.wish E) pins σ H s):Inv X pins σ H s:=⟨I.ok.unwish,I.os,I.bare,I.base,I.loc,I.cell,I.free,I.freeC,I.pin,I.hok,I.len⟩
theorem SP.unwish{D:Ends}{f:Flow}{s':Shared}(h:SP (X.wish E) pins D f s'):SP X pins D f s':=by
 cases f with
 |next=>obtain⟨a,H',I,q⟩:=h;exact⟨a,H',I.unwish,q⟩
 |brk=>obtain⟨a,H',I,q⟩:=h;exact⟨a,H',I.unwish,q⟩
 |cont=>obtain⟨a,H',I,q⟩:=h;exact⟨a,H',I.unwish,q⟩
 |ret u=>obtain⟨v,a,H',I,r,q⟩:=h;exact⟨v,a,H',I.unwish,r,q⟩
theorem PSs.nox{st:List Stmt}{a:TS}(h:PSs X.nox st a):PSs X st a:=λpins s σ H D I b =>
 yF (h pins s σ H D (I.wish _) b) (λ_ _ q=>q.unwish) λ_ _ z=>False.elim z
end
section
variable {X:Cx} {st:Stmt} {rest:List Stmt} {t u:TS} {e:Expr} {te:TE} {pos:Pos}
def Kc:TS:=λD σ H=>D.nx σ H
def tSeq(t u:TS):TS:=λD σ H=>t {D with nx:=u D} σ H
theorem oS:PSs X [] Kc:=λ_ _ a H _ I h=>uR ⟨a,H,I,h⟩
theorem pL(b:PS X st t)(g:PSs X rest u):PSs X (st:: rest) (tSeq t u):=by
 intro a s c H D I h;refine wpAny_execs_cons (thn (b a s c H {D with nx:=u D} I h) λf j q=>?_);cases f with
 |next =>
  obtain⟨i,H',d,q⟩:=q;exact g a j i H' D d q
 |ret v=>exact q
 |brk=>exact q
 |cont=>exact q
theorem pO(b:PS X st t):PSs X [st] t:=by
 intro c s a H D I h;refine wpAny_execs_cons (thn (b c s a H D I h) λf d q=>?_);cases f with
 |next=>exact uR q
 |ret v=>exact q
 |brk=>exact q
 |cont=>exact q
theorem Inv.quiet{b:PN}{a:St}{H:Hp}{s:Shared}(I:Inv X b a H s):interactive X.env=false:=by simp[interactive,I.ok.kind]
def Kb(te:TE):TS:=λD σ H=>te σ H λ_ H1=>D.nx σ H1
theorem mC(f:PE X e te)(d:swapsWith e none pos.line X.env=pure false:=by rfl):PS X (.Expr e pos) (Kb te):=by
 intro c s a H D I h;exact wpAny_Expr_any (thn (f c s a H _ I h) λv j⟨x,g,i,k,b⟩=>⟨a,g,i,b⟩) I.quiet d
def tRet(te:TE):TS:=λD σ H=>te σ H D.rt
theorem oB(d:PE X e te):PS X (.Return (some e) pos) (tRet te):=by
 intro c s a H D I h;exact wpAny_Return_some (thn (d c s a H _ I h) λv j⟨x,f,i,g,b⟩=>⟨x,a,f,i,g,b⟩)
def t_g:TS:=λD _ H=>D.rt .non H
def tIfS(c:TT)(t u:TS):TS:=λD σ H=>c σ H λb H1=>if b=true then t D σ H1 else u D σ H1
theorem oO{c:Expr}{a b:List Stmt}{j:TT}(n:PT X c j)(o:PSs X a t)(p:PSs X b u):PS X (.If c a b pos) (tIfS j t u):=by
 intro f s g H D I h;refine wpAny_If (thn (n f s g H _ I h) ?_);rintro d k ⟨l,m,i⟩;cases d with
 |true=>exact o f k g l D m i
 |false=>exact p f k g l D m i
def Cn:TS:=λ_ _ _=>False
theorem iO:PS X st Cn:=λ_ _ _ _ _ _ h=>h.elim
theorem bV{a:List Stmt}:PSs X a Cn:=λ_ _ _ _ _ _ h=>h.elim
end
abbrev TG:=V->St->Hp->(St->Hp->Prop)->Prop
abbrev TGs:=List V->St->Hp->(St->Hp->Prop)->Prop
def PG(X:Cx)(target:Expr)(t:TG):Prop:=
 ∀(pins:PN)(s:Shared)(σ:St)(H:Hp)(v:V)(u:Value)(Q:St->Hp->Prop),Inv X pins σ H s->RelV v u->t v σ H Q ->
  wpAny (model X.prog X.w) X.A (assign target X.env u) (λ_ s'=>∃σ' H',Inv X pins σ' H' s'/\Q σ' H') X.xe s
def PGs(X:Cx)(ts:List Expr)(t:TGs):Prop:=
 ∀(pins:PN)(s:Shared)(σ:St)(H:Hp)(vs:List V)(us:LW)(Q:St->Hp->Prop),Inv X pins σ H s->Vals vs us->t vs σ H Q ->
  wpAny (model X.prog X.w) X.A (assignInOrder ((assignEach ts X.env).map (·.2)) us) (λ_ s'=>∃σ' H',Inv X pins σ' H' s'/\Q σ' H') X.xe s
abbrev TSet:=V->V->V->Hp->(Hp->Prop)->Prop
def PSet(X:Cx)(t:TSet):Prop:=
 ∀(pins:PN)(s:Shared)(σ:St)(H:Hp)(o i v:V)(ov iv u:Value)(Q:Hp->Prop),Inv X pins σ H s->RelV o ov->RelV i iv->RelV v u->t o i v H Q ->
  wpAny (model X.prog X.w) X.A (setItem ov iv u) (λ_ s'=>∃H',Inv X pins σ H' s'/\Q H') X.xe s
abbrev TIp:=V->V->Hp->VK->Prop
def PIp(X:Cx)(op:Operator)(t:TIp):Prop:=
 ∀(pins:PN)(s:Shared)(σ:St)(H:Hp)(x y:V)(v u:Value)(Q:VK),Inv X pins σ H s->RelV x v->RelV y u->t x y H Q ->
  wpAny (model X.prog X.w) X.A (inplaceOp op v u) (EP X pins σ Q) X.xe s
section
variable {X:Cx} {pos:Pos}
def pY(i:Nat):TG:=λv σ H Q=>Q (σ.set i (some v)) H
theorem nP{i:Nat}{x:Str}(a:X.N.Nodup)(hi:X.N[i]?=some x)(d:Loc X.env.scope x)(c:X.fn x=true\/X.env.scope.names.lookup x=some .local:=by first|exact .inl rfl|exact .inr rfl|assumption):PG X (.Name x pos) (pY i):=by
 intro e s f H v u Q I r h;exact wpAny_assign_Name (fJ I a hi d r (λs' b=>⟨_,H,b,h⟩) c)
def gNil:TGs:=λvs σ H Q=>vs=[]/\Q σ H
def nB(t:TG)(u:TGs):TGs:=λvs σ H Q=>∃v r,vs=v:: r/\t v σ H λσ' H'=>u r σ' H' Q
theorem kI:PGs X [] gNil:=by
 intro b s a H vs us Q I r h;obtain⟨e,h⟩:=h;subst e;cases r;exact assignInOrder_nil ⟨a,H,I,h⟩
theorem nQ{e:Expr}{es:List Expr}{b:TG}{u:TGs}(c:PG X e b)(j:PGs X es u)
  (i:(assignEach (e:: es) X.env).map (·.2)=assign e X.env:: (assignEach es X.env).map (·.2):=by rfl):PGs X (e:: es) (nB b u):=by
 intro a s f H vs us Q I r h;obtain⟨v,o,e1,h⟩:=h;subst e1;cases r with
 |cons r k =>
  rw[i];refine assignInOrder_cons (thn (c a s f H _ _ _ I r h) ?_);rintro _ l ⟨g,m,n,d⟩;exact j a l g m _ _ Q n k d
def gTup(K:Frag)(n:Nat)(t:TGs):TG:=λv σ H Q=>∃a xs,v=.ref a/\SqT K H a xs/\xs.length=n/\t xs σ H Q
theorem kY{es:List Expr}{k:Nat}{i:TGs}{n:Nat}(m:X.calm=true)(h:PGs X es i)
  (q:(assignEach es X.env).length=n:=by rfl)(w:(assignEach es X.env).findIdx? (·.1)=none:=by rfl):PG X (.Tuple es k pos) (gTup X.K n i):=by
 intro d s f H v u Q I r c;obtain⟨a,xs,e1,p,hl,c⟩:=c;subst e1;cases r;obtain⟨its,g,l,x⟩:=I.tuple p;refine assign_Tuple_tuple (I.ok.hd m) l (by simp[q,←hl,g.length]) w λh' t=>?_;have j:Inv X d f H {s with heap:=h'}:=I.kept (t':=s.toks) λb o e=>t b o (zU (zL e)) e;exact h d _ f H xs _ Q j (by simpa using g) c
def gSub(to ti:TE)(t:TSet):TG:=λv σ H Q=>to σ H λo H1=>ti σ H1 λi H2=>t o i v H2 λH3=>Q σ H3
theorem fN{o i:Expr}{d e:TE}{f:TSet}(z:PE X o d)(hi:PE X i e)(F:PSet X f)
  (q:∀v,assign (.Subscript o i pos) X.env v=(do
   let ov ←holding [v] (eval o X.env)
   let a ←holding [v,ov] (eval i X.env)
   standAt pos
   holding [v,ov,a] (setItem ov a v)
   release [v,ov,a] []):=by intro _;rfl):PG X (.Subscript o i pos) (gSub d e f):=by
 intro c s b H v u Q I r h;rw[q];refine zA (yL (thn (z c s b H _ I h) ?_));rintro ov C ⟨x,w,l,J,n⟩;refine zA (yL (thn (hi c C b w _ l n) ?_));rintro a G ⟨y,g,k,D,t⟩;refine zA (xZ (zA (yL (thn (F c G b g x y v ov a u _ k J D r t) ?_))));rintro _ K ⟨p,m,j⟩;exact wpAny_release ⟨b,p,m,j⟩
def tAsg(te:TE)(g:TG):TS:=λD σ H=>te σ H λx H1=>g x σ H1 D.nx
theorem iP{a e:Expr}{te:TE}{g:TG}(k:PE X e te)(i:PG X a g)(j:swapsWithSole [a] e pos.line X.env=pure false:=by rfl)(n:swappedStores [a] e X.env=pure none:=by rfl)
  (d:(assignEach [a] X.env).map (·.2)=[assign a X.env]:=by rfl):PS X (.Assign [a] e pos) (tAsg te g):=by
 intro b s c H D I h;refine wpAny_Assign_stores (thn (k b s c H _ I h) ?_) j n;rintro v l ⟨x,m,p,o,f⟩;rw[d];exact thn (i b l c m x v _ p o f) λ_ r q=>q
theorem pW{i:Nat}{x:Str}{e:Expr}{te:TE}{a:Pos}(b:X.N.Nodup)(hi:X.N[i]?=some x)(g:Loc X.env.scope x)(k:PE X e te)(j:swapsWith e (some (.Name x a)) pos.line X.env=pure false:=by rfl)(l:X.fn x=true\/X.env.scope.names.lookup x=some .local:=by first|exact .inl rfl|exact .inr rfl|assumption):
  PS X (.Assign [.Name x a] e pos) (tAsg te (pY i)):=by
 intro d s f H D I h;refine wpAny_Assign_Name (thn (k d s f H _ I h) ?_) j;rintro v r ⟨y,m,p,o,c⟩;exact fJ p b hi g o (λq n=>⟨_,m,n,c⟩) l
def tPar(i j:Nat)(ta:TA):TS:=λD σ H=>ta σ H λvs H1=>∃v w,vs=[v,w]/\D.nx ((σ.set i (some v)).set j (some w)) H1
def tAug(i:Nat)(te:TE)(ti:TIp):TS:=λD σ H=>∃x,σ[i]?=some (some x)/\te σ H λy H1=>ti x y H1 λz H2=>D.nx (σ.set i (some z)) H2
theorem Cm{i:Nat}{x:Str}{e:Expr}{te:TE}{op:Operator}{g:TIp}{O:Pos}(C:X.N.Nodup)(hi:X.N[i]?=some x)(d:Loc X.env.scope x)(K:PE X e te)(S:PIp X op g)(L:X.fn x=true\/X.env.scope.names.lookup x=some .local:=by first|exact .inl rfl|exact .inr rfl|assumption):
  PS X (.AugAssign (.Name x O) op e pos) (tAug i te g):=by
 intro b s f H D I h;obtain⟨v,e1,h⟩:=h;obtain⟨m,j,hl⟩:=I.loc;have G:Vis X.env.scope x:=by rcases d with k|k;exact .inl k;exact .inr (.inl k)
 obtain⟨u,r,l⟩:=hl i x v hi e1 G;refine wpAny_AugAssign_Name ?_;have go:wpAny (model X.prog X.w) X.A (eval e X.env) (λw V=>wpAny (model X.prog X.w) X.A (inplaceOp op u w) (λr P=>wpAny (model X.prog X.w) X.A (storeName X.env x r) (λ_=>SP X b D .next) X.xe P) X.xe V) X.xe s:=by
  refine thn (K b s f H _ I h) ?_;rintro w T ⟨y,M,q,W,F⟩;refine thn (S b T f M v y u w _ q r W F) ?_;rintro z Y ⟨a0,n,p,U,J⟩;exact fJ p C hi d U (λZ t=>⟨_,n,t,J⟩) L
 rcases l with⟨a,N⟩|⟨a,c,R,o⟩
 ·exact wpAny_loadName_local I.ok.kind a j N go
 ·rcases a with a|a
  ·exact wpAny_loadName_cell I.ok.kind a R o go
  ·rcases d with k|k
   ·have:X.env.scope.names.lookup x=some .free:=a;rw[k]at this;cases this
   ·have:X.env.scope.names.lookup x=some .free:=a;rw[k]at this;cases this
def ipI(f:Int->Int->Int):TIp:=λx y H Q=>∃i j,x=.int i/\y=.int j/\Q (.int (f i j)) H
theorem Cl:PIp X .Add (ipI λi j=>i+j):=by
 intro d s e H x y v u Q I c b h;obtain⟨i,j,e1,a,q⟩:=h;subst e1;subst a;obtain⟨f,rfl⟩:=c;obtain⟨t',rfl⟩:=b;exact iadd_int ⟨.int _,H,I.tok _,⟨_,rfl⟩,q⟩
def Ck(c:TT)(tb:TS):TS:=λD σ H=>∃W:Nat->St->Hp->Prop,(∃m,W m σ H)/\∀m σ H,W m σ H ->
 c σ H λb H1=>if b=true then∃N:St->Hp->Prop,(∀σ' H',N σ' H'->∃m',m'<m/\W m' σ' H')/\tb {D with nx:=N,ct:=N,bk:=D.nx} σ H1 else D.nx σ H1
theorem bW{c:Expr}{body:List Stmt}{u:TT}{tb:TS}(y:PassesOwn (model X.prog X.w) X.A X.env X.xe)(K:PT X c u)(F:PSs X body tb):PS X (.While c body [] pos) (Ck u tb):=by
 intro j s z H D I h;obtain⟨O,⟨L,C⟩,R⟩:=h;refine wpAny_While (codeAny_whileLoop (λn s'=>∃w H',Inv X j w H' s'/\O n w H') ?_ L ⟨z,H,I,C⟩);rintro n M ⟨i,x,G,J⟩;refine wV y (thn (K j M i x _ G (R n i x J)) ?_);rintro b P ⟨q,r,g⟩;cases b with
 | true =>
  obtain⟨N,t,g⟩:=g;rw[zG rfl];refine wV y (thn (F j P i q _ r g) λf S e=>?_);cases f with
  |next =>
   obtain⟨a,d,m,k⟩:=e;obtain⟨l,o,p⟩:=t a d k;exact⟨l,o,a,d,m,p⟩
  |cont =>
   obtain⟨a,d,m,k⟩:=e;obtain⟨l,o,p⟩:=t a d k;exact⟨l,o,a,d,m,p⟩
  |brk=>exact e
  |ret v=>exact e
 |false =>
  rw[zE zZ];exact uR ⟨i,q,r,g⟩
end
structure It where
 go:Nat->Hp->Prop
 yld:Nat->Hp->V->Hp->Prop
 stop:Nat->Hp->Prop
def FpOk(X:Cx)(pins:PN)(H:Hp)(b:Addr):Prop:=
 H b=none/\b≠X.env.locals/\b∉X.fs/\(b∈X.ex\/X.s₀.heap.objs.size<=b)/\(∀x c,X.env.cells.lookup x=some c->c≠b)/\∀p∈X.pn++pins,p.1≠b
theorem Inv.fpOk{X:Cx}{d:PN}{f:St}{H H':Hp}{s:Shared}{b:Addr}(I:Inv X d f H s)(a:s.heap.objs.size<=b)(g:H' b=none):FpOk X d H' b:=by
 refine⟨g,tD (zI I.lt a),I.nofs a,.inr (zR I.sz a),λx c e z=>?_,λp i z=>?_⟩
 ·obtain⟨v,q⟩:=I.cell x c e;exact absurd (zI q.lt (by rw[z];exact a)) (yP _)
 ·exact absurd (zI (zL (I.pin p i).1) (by rw[z];exact a)) (yP _)
structure Turn(P:Program)(w:World)(K:Frag)(tg:Expr)(J:It)(fp:LA)(it:Addr)(tn:Nat->Heap->Prop):Prop where
 mem:it∈fp
 obj:∀i h,tn i h->∀b∈fp,∃o,h.get? b=some o/\∀v,o.data≠.cell v
 keep:∀i h h',tn i h->(∀b∈fp,∀o,h.get? b=some o->h'.get? b=some o)->tn i h'
 item:∀(X:Cx),X.prog=P->X.w=w->X.K=K->X.calm=true->∀(i:Nat)(pins:PN)(s:Shared)(σ:St)(H:Hp)(E:VP),Inv X pins σ H s->(∀b∈fp,FpOk X pins H b)->tn i s.heap->J.go i H ->
  wpAny (model P w) X.A (pyNext (.ref it)) (λr s1=>∃u,r=some u /\
   wpAny (model P w) X.A (letOwnedTupleGo tg (.ref it) u) (λ_ s2=>∃x H',Inv X pins σ H' s2/\RelV x u/\J.yld i H x H'/\tn (i+1) s2.heap/\∀b∈fp,H' b=none) E s1) E s
 done:∀(X:Cx),X.prog=P->X.w=w->X.K=K->X.calm=true->∀(i:Nat)(pins:PN)(s:Shared)(σ:St)(H:Hp)(E:VP),Inv X pins σ H s->(∀b∈fp,FpOk X pins H b)->tn i s.heap->J.stop i H ->
  wpAny (model P w) X.A (pyNext (.ref it)) (λr s1=>r=none/\Inv X pins σ H s1) E s
 self:∀(A:Around)(i:Nat)(s:Shared)(Q:VP)(E:VP),tn i s.heap->Q (.ref it) s->wpAny (model P w) A (pyIter (.ref it)) Q E s
abbrev TI:=St->Hp->(It->Hp->Prop)->Prop
def PIE(X:Cx)(pins:PN)(σ:St)(tg:Expr)(R:It->Hp->Prop)(itv:Value)(s2:Shared):Prop:=
 ∃(it:Addr)(fp:LA)(tn:Nat->Heap->Prop)(J:It)(H':Hp),itv=.ref it/\Inv X pins σ H' s2/\Turn X.prog X.w X.K tg J fp it tn/\tn 0 s2.heap/\(∀b∈fp,FpOk X pins H' b)/\R J H'
def PI(X:Cx)(tg iter:Expr)(wi:TI):Prop:=
 ∀(pins:PN)(s:Shared)(σ:St)(H:Hp)(R:It->Hp->Prop),Inv X pins σ H s->wi σ H R ->
  wpAny (model X.prog X.w) X.A (eval iter X.env) (λv s1=>wpAny (model X.prog X.w) X.A (pyIter v) (PIE X pins σ tg R) X.xe s1) X.xe s
theorem bY {M:Model}{A:Around}{E:VP}{s:Shared}{b:Expr}{c:Addr}{u:Value}{o:Obj}{n:String}{vs:Array Value}{Q:Unit->Shared->Prop}(f:s.heap.get? c=some o)(d:o.cls=.type n)(g:o.data=.fields vs)
    (e:["enumerate","zip","dict_itemiterator","dict_reverseitemiterator","odict_iterator","itertools.zip_longest","itertools.pairwise"].contains n=false)(a:Q () s):wpAny M A (letOwnedTupleGo b (.ref c) u) Q E s:=by
  unfold letOwnedTupleGo;cases b <;> first
    |exact zB a
    |(cases u <;> first
        |exact zB a
        | (refine zA (wpAny_load f ?_)
           rw[d,g];show wpAny M A (if(["enumerate","zip","dict_itemiterator","dict_reverseitemiterator","odict_iterator","itertools.zip_longest","itertools.pairwise"].contains n && vs[0]? == some (rawInt _))=true then _ else _) Q E s;rw[zE (by intro h;rw[e,Bool.false_and]at h;cases h)];exact zB a))
def Itl(K:Frag)(a:Addr):It:=
 ⟨λi H=>∃xs x,SqL K H a xs/\xs[i]?=some x,λi H x H'=>H'=H/\∀xs,SqL K H a xs->xs[i]?=some x,λi H=>∃xs,SqL K H a xs/\xs.length<=i⟩
def Itt(K:Frag)(a:Addr):It:=
 ⟨λi H=>∃xs x,SqT K H a xs/\xs[i]?=some x,λi H x H'=>H'=H/\∀xs,SqT K H a xs->xs[i]?=some x,λi H=>∃xs,SqT K H a xs/\xs.length<=i⟩
def Itr(lo:Int)(n:Nat):It:=⟨λi _=>i<n,λi H x H'=>H'=H/\x=.int (lo+i),λi _=>n<=i⟩
theorem Ka{P:Program}{w:World}{K:Frag}{Y:Expr}(a g:Addr):Turn P w K Y (Itl K a) [g] g (λi h=>h.IsListIter g a i) where
 mem:=by simp
 obj:=λi h st b f=>by
  have e:b=g:=by simpa using f
  subst e;obtain⟨o,e,c,d⟩:=st;exact⟨o,e,λv z=>by rw[d]at z;cases z⟩
 keep:=λi h h' st k=>st.at λo e=>k g (by simp) o e
 item:=by
  intro X J y D N i L s M H E I j st F;subst J y D;obtain⟨xs,x,l,r⟩:=F;obtain⟨its,m,p,W⟩:=I.list l;obtain⟨u,Z,R⟩:=m.get r;obtain⟨G,n,V,t,C,q⟩:=j g (by simp);refine wpAny_pyNext_list_item st p.isList (x:=u) (by simpa using Z) λh' O a0=>?_;have T:Inv X L M H {s with heap:=h'}:=I.turned (t':=s.toks) (λb o f e=>(a0.2 b f).trans e) G n t C q;obtain⟨o,e,c,d⟩:=id O;exact⟨u,rfl,bY (s:={s with heap:=h'}) e c d ∅ ⟨x,H,T,R,⟨rfl,λys S=>by rw[I.list_inj S l];exact r⟩,O,λb f=>(j b f).1⟩⟩
 done:=by
  intro X J y D N i L s M H E I j st F;subst J y D;obtain⟨xs,l,r⟩:=F;obtain⟨its,m,p,W⟩:=I.list l;obtain⟨G,n,V,t,C,q⟩:=j g (by simp);have hl:=m.length;exact wpAny_pyNext_list_end (I.ok.hd N) st p.isList (by simp;omega) λh' U=>⟨rfl,I.turned (t':=s.toks) (λb o f e=>U b o f e) G n t C q⟩
 self:=λ_ _ _ _ _ st h=>wpAny_pyIter_listiter st h
theorem Lz{P:Program}{w:World}{K:Frag}{Y:Expr}(a g:Addr):Turn P w K Y (Itt K a) [g] g (λi h=>h.IsTupleIter g a i) where
 mem:=by simp
 obj:=λi h st b f=>by
  have e:b=g:=by simpa using f
  subst e;obtain⟨o,e,c,d⟩:=st;exact⟨o,e,λv z=>by rw[d]at z;cases z⟩
 keep:=λi h h' st k=>st.at λo e=>k g (by simp) o e
 item:=by
  intro X J y D N i L s M H E I j st F;subst J y D;obtain⟨xs,x,l,r⟩:=F;obtain⟨its,m,p,W⟩:=I.tuple l;obtain⟨u,Z,R⟩:=m.get r;obtain⟨G,n,V,t,C,q⟩:=j g (by simp);refine wpAny_pyNext_tuple_item st (show s.heap.IsTuple a its.toArray from p) (x:=u) (by simpa using Z) λh' O a0=>?_;have T:Inv X L M H {s with heap:=h'}:=I.turned (t':=s.toks) (λb o f e=>(a0.2 b f).trans e) G n t C q;obtain⟨o,e,c,d⟩:=id O;exact⟨u,rfl,bY (s:={s with heap:=h'}) e c d ∅ ⟨x,H,T,R,⟨rfl,λys S=>by rw[I.tuple_inj S l];exact r⟩,O,λb f=>(j b f).1⟩⟩
 done:=by
  intro X J y D N i L s M H E I j st F;subst J y D;obtain⟨xs,l,r⟩:=F;obtain⟨its,m,p,W⟩:=I.tuple l;obtain⟨G,n,V,t,C,q⟩:=j g (by simp);have hl:=m.length;exact wpAny_pyNext_tuple_end (I.ok.hd N) st (show s.heap.IsTuple a its.toArray from p) (by simp;omega) λh' U=>⟨rfl,I.turned (t':=s.toks) (λb o f e=>U b o f e) G n t C q⟩
 self:=λ_ _ _ _ _ st h=>wpAny_pyIter_tupleiter st h
theorem Ly{P:Program}{w:World}{K:Frag}{O:Expr}(a:Addr)(f:Int)(n:Nat):Turn P w K O (Itr f n) [a] a (λi h=>IsRangeIter h a (f+(i:Nat)*1) ((n:Int)-(i:Nat)) 1) where
 mem:=by simp
 obj:=λi h st b c=>by
  have e:b=a:=by simpa using c
  subst e;exact⟨_,st,λv z=>by
   have G:Data.fields _=Data.cell v:=z;cases G⟩
 keep:=λi h h' st k=>k a (by simp) _ st
 item:=by
  intro X x m q r i y s C H E I d st t;subst x m q;obtain⟨u,g,N,l,p,j⟩:=d a (by simp);have S:=Walks.range (prog:=X.prog) (w:=X.w) (I.ok.hd r) a f 1 n;refine S.item i s _ _ t st λv h' tk R D F=>?_;obtain⟨M,rfl⟩:=R;have J:Inv X y C H {s with heap:=h',toks:=tk}:=I.turned (λb o c e=>F b o (by simpa using c) e) u g l p j;refine⟨_,rfl,bY (s:={s with heap:=h',toks:=tk}) (n:= "range_iterator") D rfl rfl ∅ ⟨.int (f+i),H,J,⟨M,?_⟩,⟨rfl,rfl⟩,D,λb c=>(d b c).1⟩⟩;rw[vD]
 done:=by
  intro X x m q r i y s C H E I d st t;subst x m q;obtain⟨u,g,N,l,p,j⟩:=d a (by simp);exact wpAny_pyNext_range_end (I.ok.hd r) st (by have:n<=i:=t;omega) λh' L=>⟨rfl,I.turned (t':=s.toks) (λb o c e=>L b o c e) u g l p j⟩
 self:=λ_ _ _ _ _ st h=>wpAny_pyIter_rangeiter st h
section
variable {X:Cx} {tg:Expr}
theorem Cj{d:PN}{f:St}{H:Hp}{s:Shared}{R:It->Hp->Prop}{E:VP}{a hi:Int}{c u v:Tok}{tk:Nat}(I:Inv X d f H s)(j:-(2^62)<=a)(m:a<2^62)(l:-(2^62)<=hi)(k:hi<2^62)
  (q:R (Itr a (hi-a).toNat) H):wpAny (model X.prog X.w) X.A (pyIter (.ref s.heap.objs.size)) (PIE X d f tg R) E {s with heap:=s.heap.push {cls:=.type "range",data:=.fields #[.int a c,.int hi u,.int 1 v]},toks:=tk}:=by
 refine wpAny_pyIter_range (IsRange.new ..) (small_one j m l k) ?_;have g:Inv X d f H {s with heap:=s.heap.push {cls:=.type "range",data:=.fields #[.int a c,.int hi u,.int 1 v]},toks:=tk}:=I.kept λb o e=>zC _ e;refine⟨(s.heap.push {cls:=.type "range",data:=.fields #[.int a c,.int hi u,.int 1 v]}).objs.size,[(s.heap.push {cls:=.type "range",data:=.fields #[.int a c,.int hi u,.int 1 v]}).objs.size],_,_,H,rfl,
  g.kept (t':=tk) λb o e=>zC _ e,Ly _ a (hi-a).toNat,?_,λb n=>?_,q⟩
 ·have e1:a+((0:Nat):Int)*1=a:=by simp
  have i:(((hi-a).toNat:Nat):Int)-((0:Nat):Int)=Builtin.Range.rangeSize a hi 1:=by rw[rangeSize_one];split <;> omega
  show IsRangeIter _ _ (a+((0:Nat):Int)*1) ((((hi-a).toNat:Nat):Int)-((0:Nat):Int)) 1;rw[e1,i];exact zN _ rfl
 ·have e:b=(s.heap.push {cls:=.type "range",data:=.fields #[.int a c,.int hi u,.int 1 v]}).objs.size:=by simpa using n
  subst e;exact g.fpOk (zF _) (g.hok.fresh (zF _))
def mD(ta:TA):TI:=λσ H R=>ta σ H λvs H1=>∃j:Int,vs=[.int j]/\-(2^62)<=j/\j<2^62/\R (Itr 0 j.toNat) H1
def Ci(ta:TA):TI:=λσ H R=>ta σ H λvs H1=>∃i j:Int,vs=[.int i,.int j]/\(-(2^62)<=i/\i<2^62/\-(2^62)<=j/\j<2^62)/\R (Itr i (j-i).toNat) H1
theorem lH{a:Expr}{d:TA}{p c:Pos}(l:Gl X "range")(t:X.mg "range"=none)(k:PA X [a] d)(m:starEach [a] X.env=[(false,eval a X.env)]:=by rfl):PI X tg (.Call (.Name "range" p) [a] [] c) (mD d):=by
 intro g s i H R I h;refine Call_ (iN I l t boot_range (xY (thn (k c g s i H _ I h) ?_) m rfl));rintro us x ⟨vs,w,u,f,b⟩;obtain⟨j,e,b,n,q⟩:=b;subst e;cases f with
 |cons r o =>
  cases o;obtain⟨v,rfl⟩:=r;exact call_range_1 (Cj u ⋯ ⋯ b n (by simpa using q))
theorem Lx{a b:Expr}{k:TA}{p f:Pos}(x:Gl X "range")(v:X.mg "range"=none)(t:PA X [a,b] k)(y:starEach [a,b] X.env=[(false,eval a X.env),(false,eval b X.env)]:=by rfl)(g:starEach [b] X.env=[(false,eval b X.env)]:=by rfl):
  PI X tg (.Call (.Name "range" p) [a,b] [] f) (Ci k):=by
 intro l s m H R I h;refine Call_ (iN I x v boot_range (xY (thn (t f l s m H _ I h) ?_) (by rw[y,g]) (by rw[g];rfl)));rintro us G ⟨vs,F,o,C,c⟩;obtain⟨i,j,e,⟨c,u,n,z⟩,q⟩:=c;subst e;cases C with
 | cons r d =>
  cases d with
  |cons w d =>
   cases d;obtain⟨D,rfl⟩:=r;obtain⟨t',rfl⟩:=w;exact call_range_2 (Cj o c u n z q)
def tFor(wi:TI)(g:TG)(tb:TS):TS:=λD σ H=>wi σ H λJ H1=>∃W:Nat->Nat->St->Hp->Prop,(∃m,W 0 m σ H1)/\∀i m σ H,W i m σ H ->
 (J.stop i H/\D.nx σ H)\/(J.go i H/\∃N:St->Hp->Prop,(∀σ' H',N σ' H'->∃m',m'<m/\W (i+1) m' σ' H')/\∀x H',J.yld i H x H'->g x σ H' λσ2 H2=>tb {D with nx:=N,ct:=N,bk:=D.nx} σ2 H2)
def fO(fp:LA)(h:Heap):PN:=fp.filterMap λb=>(h.get? b).map λo=>(b,o)
theorem dA{a:LA}{h:Heap}{b:Addr}{o:Obj}(c:b∈a)(e:h.get? b=some o):(b,o)∈fO a h:=pF.mpr ⟨b,c,by rw[e];rfl⟩
theorem Lw{a:LA}{h:Heap}{p:Addr×Obj}(f:p∈fO a h):p.1∈a/\h.get? p.1=some p.2:=by
 obtain⟨b,c,e⟩:=pF.mp f;cases q:h.get? b with
 |none=>rw[q]at e;cases e
 |some o =>
  rw[q]at e;have d:(b,o)=p:=zP e;subst d;exact⟨c,q⟩
theorem Inv.pinned{a:PN}{f:St}{H:Hp}{s:Shared}{c:LA}(I:Inv X a f H s)(l:∀b∈c,FpOk X a H b)(m:∀b∈c,∃o,s.heap.get? b=some o/\∀v,o.data≠.cell v):Inv X (a++fO c s.heap) f H s:=
 I.pins_of λp q=>(pA.mp q).elim (λz=>I.pin p (yO _ z)) λz=>by
  obtain⟨g,e⟩:=Lw z;obtain⟨n,k,j,_⟩:=l p.1 g;obtain⟨o,i,d⟩:=m p.1 g;rw[e]at i;cases i;exact⟨e,n,k,j,d⟩
theorem Inv.unpinned{b pl:PN}{a:St}{H:Hp}{s:Shared}(I:Inv X (b++pl) a H s):Inv X b a H s:=I.pins_of λp c=>I.pin p (yO _ (xJ _ c))
theorem lI{F:Expr}{body:List Stmt}{L:TI}{g:TG}{tb:TS}{a2:Pos}(z:PassesOwn (model X.prog X.w) X.A X.env X.xe)(V:X.calm=true)(hi:PI X tg F L)(c8:PG X tg g)(c:PSs X body tb)
  (d0:∀x,foldedSetIterable F X.env x=pure x:=by intro _;rfl):PS X (.For tg F body [] a2) (tFor L g tb):=by
 intro p s M H D I h;refine wpAny_For (thn (hi p s M H _ I h) λv d7 c6=>thn c6 λd6 d9 b6=>?_) d0;obtain⟨d8,w,Z,d5,a8,e,b1,T,b7,S,Y,⟨c3,a6⟩,d1⟩:=b6;subst e
 -- what stays true of the iterator's objects through the loop
 have G:∀{H':Hp},(∀b∈w,H' b=none)->∀b∈w,FpOk X p H' b:=λa7 b c=>⟨a7 b c,(S b c).2⟩;refine codeAny_forLoop_any (λn s'=>∃i y H',Inv X p y H' s'/\Z i s'.heap/\(∀b∈w,H' b=none)/\Y i n y H') ?_ c3 ⟨0,M,a8,b1,b7,λb c=>(S b c).1,a6⟩;rintro n a1 ⟨i,t,C,O,R,P,c1⟩;rcases d1 i n t C c1 with⟨stop,b9⟩|⟨go,N,b4,step⟩
 ·refine wV z (thn (T.done X rfl rfl rfl V i p a1 t C X.xe O (G P) R stop) ?_);rintro r d4 ⟨hr,b3⟩;subst hr;exact uR ⟨t,C,b3,b9⟩
 ·refine wV z (thn (T.item X rfl rfl rfl V i p a1 t C X.xe O (G P) R go) ?_);rintro r d4 ⟨u,hr,a5⟩;subst hr;refine wV z (thn a5 ?_);rintro _ U ⟨x,a0,a3,c5,a9,K,c7⟩;have b8:=a3.pinned (G c7) (T.obj _ _ K);refine wV z (thn (c8 _ U t a0 x u _ b8 c5 (step x a0 a9)) ?_);rintro _ b5 ⟨d2,c4,b2,a4⟩;refine wV z (thn (c _ b5 d2 c4 _ b2 a4) λf J l=>?_);have W:∀{j:St}{a:Hp},Inv X (p++fO w U.heap) j a J->N j a->∃m,m<n/\∃i y H',Inv X p y H' J/\Z i J.heap/\(∀b∈w,H' b=none)/\Y i m y H':=λ{j a}k q=>by
   obtain⟨b0,c0,d3⟩:=b4 j a q;refine⟨b0,c0,i+1,j,a,k.unpinned,T.keep _ _ _ K λb c o e=>(k.pin (b,o) (yO _ (yO _ (dA c e)))).1,λb c=>?_,d3⟩;obtain⟨o,e,d⟩:=T.obj _ _ K b c;exact(k.pin (b,o) (yO _ (yO _ (dA c e)))).2.1
  cases f with
  |next=>obtain⟨j,a,k,q⟩:=l;exact W k q
  |cont=>obtain⟨j,a,k,q⟩:=l;exact W k q
  |brk=>obtain⟨j,a,k,l⟩:=l;exact⟨j,a,k.unpinned,l⟩
  |ret v=>obtain⟨c2,j,a,k,c9,l⟩:=l;exact⟨c2,j,a,k.unpinned,c9,l⟩
end
theorem Lv{K:Frag}{a:Addr}{xs:List V}{g:TG}{tb:TS}{D:Ends}{b:St}{H:Hp}(c:Nat->St->Hp->Prop)(r:c 0 b H)(hl:∀i b H,i<=xs.length->c i b H->SqL K H a xs)
  (t:∀i x b H,xs[i]?=some x->c i b H->g x b H λf d=>tb {D with nx:=c (i+1),ct:=c (i+1),bk:=D.nx} f d)(u:∀b H,c xs.length b H->D.nx b H):
  ∃k:Nat->Nat->St->Hp->Prop,(∃m,k 0 m b H)/\∀i m b H,k i m b H ->
   ((Itl K a).stop i H/\D.nx b H)\/((Itl K a).go i H/\∃N:St->Hp->Prop,(∀j H',N j H'->∃n,n<m/\k (i+1) n j H')/\∀x H',(Itl K a).yld i H x H'->g x b H' λf d=>tb {D with nx:=N,ct:=N,bk:=D.nx} f d):=by
 refine⟨λi m b H=>m=xs.length-i/\i<=xs.length/\c i b H,⟨xs.length,by simp,yD _,r⟩,?_⟩;rintro i m b H ⟨rfl,hi,p⟩;have q:=hl i b H hi p
 by_cases l:i<xs.length
 ·refine .inr ⟨⟨xs,xs[i],q,by simp[l]⟩,c (i+1),λj H' o=>⟨xs.length-(i+1),⋯,rfl,l,o⟩,λx H' y=>?_⟩;obtain⟨e,y⟩:=y;subst e;exact t i x b _ (y xs q) p
 ·have e:i=xs.length:=⋯
  subst e;exact .inl ⟨⟨xs,q,zF _⟩,u b H p⟩
theorem Lu{K:Frag}{a:Addr}{xs:List V}{g:TG}{tb:TS}{D:Ends}{b:St}{H:Hp}(c:Nat->St->Hp->Prop)(r:c 0 b H)(hl:∀i b H,i<=xs.length->c i b H->SqT K H a xs)
  (t:∀i x b H,xs[i]?=some x->c i b H->g x b H λf d=>tb {D with nx:=c (i+1),ct:=c (i+1),bk:=D.nx} f d)(u:∀b H,c xs.length b H->D.nx b H):
  ∃k:Nat->Nat->St->Hp->Prop,(∃m,k 0 m b H)/\∀i m b H,k i m b H ->
   ((Itt K a).stop i H/\D.nx b H)\/((Itt K a).go i H/\∃N:St->Hp->Prop,(∀j H',N j H'->∃n,n<m/\k (i+1) n j H')/\∀x H',(Itt K a).yld i H x H'->g x b H' λf d=>tb {D with nx:=N,ct:=N,bk:=D.nx} f d):=by
 refine⟨λi m b H=>m=xs.length-i/\i<=xs.length/\c i b H,⟨xs.length,by simp,yD _,r⟩,?_⟩;rintro i m b H ⟨rfl,hi,p⟩;have q:=hl i b H hi p
 by_cases l:i<xs.length
 ·refine .inr ⟨⟨xs,xs[i],q,by simp[l]⟩,c (i+1),λj H' o=>⟨xs.length-(i+1),⋯,rfl,l,o⟩,λx H' y=>?_⟩;obtain⟨e,y⟩:=y;subst e;exact t i x b _ (y xs q) p
 ·have e:i=xs.length:=⋯
  subst e;exact .inl ⟨⟨xs,q,zF _⟩,u b H p⟩
theorem Ls{c:Int}{n:Nat}{g:TG}{tb:TS}{D:Ends}{a:St}{H:Hp}(b:Nat->St->Hp->Prop)(r:b 0 a H)
  (t:∀i a H,i<n->b i a H->g (.int (c+i)) a H λj f=>tb {D with nx:=b (i+1),ct:=b (i+1),bk:=D.nx} j f)(u:∀a H,b n a H->D.nx a H):
  ∃l:Nat->Nat->St->Hp->Prop,(∃m,l 0 m a H)/\∀i m a H,l i m a H ->
   ((Itr c n).stop i H/\D.nx a H)\/((Itr c n).go i H/\∃N:St->Hp->Prop,(∀k H',N k H'->∃o,o<m/\l (i+1) o k H')/\∀x H',(Itr c n).yld i H x H'->g x a H' λj f=>tb {D with nx:=N,ct:=N,bk:=D.nx} j f):=by
 refine⟨λi m a H=>m=n-i/\i<=n/\b i a H,⟨n,by simp,yD _,r⟩,?_⟩;rintro i m a H ⟨rfl,hi,p⟩
 by_cases d:i<n
 ·refine .inr ⟨d,b (i+1),λk H' q=>⟨n-(i+1),⋯,rfl,d,q⟩,λx H' y=>?_⟩;obtain⟨e,y⟩:=y;subst e y;exact t i a _ d p
 ·have e:i=n:=⋯
  subst e;exact .inl ⟨zF _,u a H p⟩
abbrev R2:=V->V->Hp->VK->Prop
def OpR(X:Cx)(f:Value->Value->Sem Value)(r:R2):Prop:=
 ∀(pins:PN)(s:Shared)(σ:St)(H:Hp)(x y:V)(v u:Value)(Q:VK),Inv X pins σ H s->RelV x v->RelV y u->r x y H Q ->
  wpAny (model X.prog X.w) X.A (f v u) (EP X pins σ Q) X.xe s
def UnR(X:Cx)(f:Value->Sem Value)(r:V->Hp->VK->Prop):Prop:=
 ∀(pins:PN)(s:Shared)(σ:St)(H:Hp)(x:V)(v:Value)(Q:VK),Inv X pins σ H s->RelV x v->r x H Q ->
  wpAny (model X.prog X.w) X.A (f v) (EP X pins σ Q) X.xe s
def mI(X:Cx)(f:Value)(r:List V->Hp->VK->Prop):Prop:=
 ∀(pins:PN)(s:Shared)(σ:St)(H:Hp)(xs:List V)(us:LW)(Q:VK),Inv X pins σ H s->Vals xs us->r xs H Q ->
  wpAny (model X.prog X.w) X.A (call f us) (EP X pins σ Q) X.xe s
def tOp(r:R2)(ta tb:TE):TE:=λσ H Q=>ta σ H λx H1=>tb σ H1 λy H2=>r x y H2 Q
def tUn(r:V->Hp->VK->Prop)(ta:TE):TE:=λσ H Q=>ta σ H λx H1=>r x H1 Q
def rI(C:Int->Int->Prop)(g:Int->Int->V):R2:=λx y H Q=>∃i j,x=.int i/\y=.int j/\C i j/\Q (g i j) H
def rI0(g:Int->Int->V):R2:=λx y H Q=>∃i j,x=.int i/\y=.int j/\Q (g i j) H
def rU(g:Int->V):V->Hp->VK->Prop:=λx H Q=>∃i,x=.int i/\Q (g i) H
section
variable {X:Cx} {a b c:Expr} {ta tb tc:TE} {pos:Pos}
theorem binT(m:PE X a ta)(r:PE X b tb){g:PN}{s:Shared}{d:St}{H:Hp}{R:V->V->Hp->Prop}(I:Inv X g d H s)
  (h:ta d H λx j=>tb d j λy e=>R x y e){Q:VP}{f:Value->Value->Sem Value}
  (p:∀v u i x y e,Inv X g d e i->RelV x v->RelV y u->R x y e->wpAny (model X.prog X.w) X.A (f v u) Q X.xe i):
  wpAny (model X.prog X.w) X.A (eval a X.env) (λv n=>wpAny (model X.prog X.w) X.A (eval b X.env) (λu o=>wpAny (model X.prog X.w) X.A (f v u) Q X.xe o) X.xe n) X.xe s:=by
 refine thn (m g s d H _ I h) ?_;rintro v t ⟨x,j,C,z,l⟩;refine thn (r g t d j _ C l) ?_;rintro u i ⟨y,e,w,k,q⟩;exact p v u i x y e w z k q
theorem pQ{op:Operator}{r:R2}(k:OpR X (binaryOp op) r)(g:PE X a ta)(l:PE X b tb):PE X (.BinOp a op b pos) (tOp r ta tb):=by
 intro d s e H Q I h;exact wpAny_BinOp (binT g l I h λv u j x y i m f n q=>k d j e i x y v u Q m f n q)
theorem kJ{op:UnaryOp}{r:V->Hp->VK->Prop}(i:UnR X (unaryOp op) r)(g:PE X a ta):PE X (.UnaryOp op a pos) (tUn r ta):=by
 intro d s e H Q I h;exact UnaryOp_ (thn (g d s e H _ I h) λv j⟨x,k,m,l,f⟩=>i d j e k x v Q m l f)
theorem opI{f:Value->Value->Sem Value}{C:Int->Int->Prop}{g:Int->Int->Int}
  (e:∀(i j:Int)(d u:Tok)(s:Shared)(Q:VP)(E:VP),C i j->Q (.int (g i j) s.toks) {s with toks:=s.toks+1}->wpAny (model X.prog X.w) X.A (f (.int i d) (.int j u)) Q E s):
  OpR X f (rI C λi j=>.int (g i j)):=by
 intro n s o H x y v u Q I l m h;obtain⟨i,j,rfl,rfl,k,q⟩:=h;obtain⟨d,rfl⟩:=l;obtain⟨t',rfl⟩:=m;exact e i j d t' s _ _ k ⟨.int (g i j),H,I.tok _,⟨_,rfl⟩,q⟩
theorem opI0{f:Value->Value->Sem Value}{g:Int->Int->Int}
  (e:∀(i j:Int)(d u:Tok)(s:Shared)(Q:VP)(E:VP),Q (.int (g i j) s.toks) {s with toks:=s.toks+1}->wpAny (model X.prog X.w) X.A (f (.int i d) (.int j u)) Q E s):
  OpR X f (rI0 λi j=>.int (g i j)):=by
 intro m s n H x y v u Q I k l h;obtain⟨i,j,rfl,rfl,q⟩:=h;obtain⟨d,rfl⟩:=k;obtain⟨t',rfl⟩:=l;exact e i j d t' s _ _ ⟨.int (g i j),H,I.tok _,⟨_,rfl⟩,q⟩
theorem opB0{f:Value->Value->Sem Value}{g:Int->Int->Bool}
  (e:∀(i j:Int)(d u:Tok)(s:Shared)(Q:VP)(E:VP),Q (.bool (g i j)) s->wpAny (model X.prog X.w) X.A (f (.int i d) (.int j u)) Q E s):
  OpR X f (rI0 λi j=>.bl (g i j)):=by
 intro m s n H x y v u Q I k l h;obtain⟨i,j,rfl,rfl,q⟩:=h;obtain⟨d,rfl⟩:=k;obtain⟨t',rfl⟩:=l;exact e i j d t' s _ _ ⟨.bl (g i j),H,I,rfl,q⟩
def CPow(i j:Int):Prop:=0<=j/\j<=1000000/\i.natAbs<2^64
def CMul(i j:Int):Prop:=(-(2^64)<i/\i<2^64)\/(-(2^64)<j/\j<2^64)
theorem mW:OpR X (binaryOp .Add) (rI0 λi j=>.int (i+j)):=opI0 λ_ _ _ _ _ _ _ q=>add_int q
theorem jM:OpR X (binaryOp .Sub) (rI0 λi j=>.int (i-j)):=opI0 λ_ _ _ _ _ _ _ q=>sub_int q
theorem nZ:OpR X (binaryOp .Mod) (rI (λ_ j=>j≠0) λi j=>.int (i.fmod j)):=opI λ_ _ _ _ _ _ _ d q=>mod_int' d q
theorem bZ:OpR X (binaryOp .Pow) (rI CPow λi j=>.int (i^j.toNat)):=opI λ_ _ _ _ _ _ _ d q=>pow_int_small d.1 d.2.1 d.2.2 q
theorem unI{f:Value->Sem Value}{g:Int->Int}
  (e:∀(i:Int)(d:Tok)(s:Shared)(Q:VP)(E:VP),Q (.int (g i) s.toks) {s with toks:=s.toks+1}->wpAny (model X.prog X.w) X.A (f (.int i d)) Q E s):
  UnR X f (rU λi=>.int (g i)):=by
 intro k s l H x v Q I j h;obtain⟨i,rfl,q⟩:=h;obtain⟨d,rfl⟩:=j;exact e i d s _ _ ⟨.int (g i),H,I.tok _,⟨_,rfl⟩,q⟩
theorem kK:UnR X (unaryOp .USub) (rU λi=>.int (-i)):=unI λ_ _ _ _ _ q=>neg_int q
theorem Lr{g:PN}{d:St}{H:Hp}{s:Shared}{Q:VK}{k f:Bool}(I:Inv X g d H s)(q:Q (.bl k) H)(e:k=f):EP X g d Q (.bool f) s:=by
 subst e;exact⟨.bl k,H,I,rfl,q⟩
theorem dB:OpR X (compareOp .Lt) (rI0 λi j=>.bl (decide (i<j))):=opB0 λ_ _ _ _ _ _ _ q=>lt_int q
theorem aA:OpR X (compareOp .Gt) (rI0 λi j=>.bl (decide (j<i))):=opB0 λ_ _ _ _ _ _ _ q=>gt_int q
theorem Cg:OpR X (compareOp .Is) (λx y H Q=>y=.non/\Q (.bl (decide (x=.non))) H):=by
 intro f s g H x y v u Q I d e h;obtain⟨rfl,q⟩:=h;cases e;refine is_none_gen (Lr I q ?_);cases x <;> first
  |(cases d;rfl)
  |(obtain⟨i,rfl⟩:=d;rfl)
theorem oG(b:Expr){op:CmpOp}(h:op≠.In:=by decide)(e:op≠.NotIn:=by decide):behindInMarks op b=false:=by
 have e1:(op == CmpOp.In)=false:=by cases op <;> first|rfl|exact absurd rfl h
 have d:(op == CmpOp.NotIn)=false:=by cases op <;> first|rfl|exact absurd rfl e
 cases b <;> simp[behindInMarks,e1,d]
theorem iQ{op:CmpOp}{r:R2}(k:OpR X (compareOp op) r)(g:PE X a ta)(l:PE X b tb)(n:behindInMarks op b=false):PE X (.Compare a [op] [b] pos) (tOp r ta tb):=by
 intro d s e H Q I h;exact wpAny_Compare1 (binT g l I h λv u j x y i m f o q=>k d j e i x y v u Q m f o q) n
def dC(t:TE):TT:=λσ H Q=>t σ H λx H'=>∃k,x=.bl k/\Q k H'
theorem oJ{op:CmpOp}{r:R2}(F:OpR X (compareOp op) r)(q:PE X a ta)(j:PE X b tb)(D:behindInMarks op b=false):PT X (.Compare a [op] [b] pos) (dC (tOp r ta tb)):=by
 intro d s f H Q I h;refine wpAny_isTrue_Compare1 (thn (q d s f H _ I h) λv G⟨x,C,m,L,o⟩=>thn (j d G f C _ m o) λu K⟨y,g,l,J,t⟩ =>
  thn (F d K f g x y v u _ l L J t) λc M⟨z,p,n,w,k,e,i⟩=>?_) D
 subst e;cases w;exact tI ⟨p,n,i⟩
theorem dD:(sizeLine:Nat)<2^63:=by rw[sizeLine_eq];decide
theorem kZ{x:V}{us:LW}(r:Vals [x] us):∃u,us=[u]/\RelV x u:=by
 cases r with
 |cons e d=>cases d;exact⟨_,rfl,e⟩
theorem Lq{x y:V}{us:LW}(r:Vals [x,y] us):∃u d,us=[u,d]/\RelV x u/\RelV y d:=by
 cases r with
 |cons i e =>
  cases e with
  |cons g f=>cases f;exact⟨_,_,rfl,i,g⟩
theorem iR:mI X (.builtin "abs") (λxs H Q=>∃i,xs=[.int i]/\Q (.int (if i<0 then -i else i)) H):=by
 intro f s d H xs us Q I r h;obtain⟨i,rfl,q⟩:=h;obtain⟨u,rfl,e,rfl⟩:=kZ r;exact call_abs_int λu tk=>⟨.int (if i<0 then -i else i),H,I.tok _,⟨_,rfl⟩,q⟩
theorem Lp(e:X.calm=true):mI X (.builtin "min") (λxs H Q=>∃i j,xs=[.int i,.int j]/\Q (.int (if j<i then j else i)) H):=by
 intro f s g H xs us Q I r h;obtain⟨i,j,rfl,q⟩:=h;obtain⟨u,l,rfl,⟨m,rfl⟩,⟨t',rfl⟩⟩:=Lq r;refine min_two_ints (I.ok.hd e) λh' tk k=>⟨_,H,I.kept k,?_,q⟩
 by_cases d:j<i
 ·rw[zG d,zG d];exact⟨_,rfl⟩
 ·rw[zE d,zE d];exact⟨_,rfl⟩
theorem Cf:mI X (.type "int") (λxs H Q=>(∃i,xs=[.int i]/\Q (.int i) H)\/∃k,xs=[.bl k]/\Q (.int (if k then 1 else 0)) H):=by
 intro g s e H xs us Q I r h;rcases h with⟨i,rfl,q⟩|⟨k,rfl,q⟩
 ·obtain⟨u,rfl,f,rfl⟩:=kZ r;exact call_int_int ⟨.int i,H,I,⟨_,rfl⟩,q⟩
 ·obtain⟨u,rfl,d⟩:=kZ r;cases d;exact call_int_bool ⟨.int (if k then 1 else 0),H,I.tok _,⟨_,rfl⟩,q⟩
end
structure ObjM(h:Heap)(x dx C:Addr)(mA:MT):Prop where
 obj:h.get? x=some (PySem.W.instObj C dx)
 ns:h.Ns1 dx mA
 ne:dx≠x
theorem Ce{h:Heap}{c:Addr}{b:MT}(n:h.Ns1 c b):∃od,h.get? c=some od/\∀name,PySem.W.lookIn name od=some (b name):=by
 obtain⟨o,es,ep,i,k,g,_,l⟩:=n;refine⟨o,i,λname=>?_⟩;have e:=l name;unfold nsFind findBy at e;rw[←Array.find?_toList]at e;unfold PySem.W.lookIn;rw[k];dsimp only;split
 ·rename_i y q;rw[q]at e;exact wE some e
 ·rename_i q;rw[q]at e;have a:es.toList.any (·.refKey)=false:=by
   rw[tJ];intro y d;obtain⟨z,m,j⟩:=g y (Array.mem_toList_iff.mp d);simp[DictEntry.refKey,j]
  have f:¬ es.toList.any (·.refKey)=true:=by rw[a];exact zZ
  rw[zE f];exact wE some e
theorem ObjM.look{h:Heap}{x b C:Addr}{a:MT}(I:ObjM h x b C a):∃od,PySem.W.InstAt h x (PySem.W.instObj C b) C (some od)/\∀name,PySem.W.lookIn name od=some (a name):=
 let ⟨od,c,hl⟩:=Ce I.ns
 ⟨od,⟨I.obj,rfl,rfl,c⟩,hl⟩
section
variable {prog:Program} {w:World} {A:Around} {E:VP} {s:Shared} {K:Frag} {x dx C f:Addr} {mA:MT} {name:Str} {v:Value}
theorem Lo{a:Bool}{Q:VP}(X:K.In s.heap)(I:ObjM s.heap x dx C mA)(d:PySem.W.plainGet K C name=true)(hh:PySem.W.hasDictIn K C=true)
  (c:PySem.W.findIn K (.ref C) name=some none)(e:mA name=some v)(b:PySem.W.handedIn v=true)(h:Q v {s with toks:=s.toks+1}):
  wpAny (model prog w) A (getAttr (.ref x) name a) Q E s:=by
 obtain⟨od,g,hl⟩:=I.look;exact PySem.W.get_value X g (sU d).1 (PySem.W.findObj_own hh c rfl (by rw[hl,e])) b h
theorem Ln{pl:Sem Bool}{Q:Value×LW->Shared->Prop}(X:K.In s.heap)(I:ObjM s.heap x dx C mA)(a:PySem.W.plainGet K C name=true)
  (d:PySem.W.findIn K (.ref C) name=some (some (.ref f)))(b:PySem.W.isFn K (.ref f)=true)(c:mA name=none)(h:Q (.ref f,[.ref x]) s):
  wpAny (model prog w) A (getMethod (.ref x) name pl) Q E s:=by
 obtain⟨od,e,hl⟩:=I.look;exact PySem.W.method_fn X e (sU a).1 (sU a).2 d (qV.mp b) (by show(PySem.W.lookIn name od).map (·.isSome)=some false;rw[hl,c];rfl) h
theorem Lm{ns:List Str}{Q:Unit->Shared->Prop}(X:K.In s.heap)(I:ObjM s.heap x dx C mA)
  (m:PySem.W.findIn K (.ref C) "__setattr__"=some (some (.builtin "object.__setattr__")))(n:PySem.W.plainOver K C=true)(j:PySem.W.takerIn K C name=some none)(hh:PySem.W.hasDictIn K C=true)
  (p:PySem.Within mA ns)(hsz:ns.length<=sizeLine)
  (h:∀h',ObjM h' x dx C (λy=>if y=name then some v else mA y)->Heap.SameBut dx s.heap h'->Q () {s with heap:=h',toks:=s.toks+2}):
  wpAny (model prog w) A (setAttr (.ref x) name v) Q E s:=by
 obtain⟨od,d,hl⟩:=I.look;refine PySem.W.set_plain X d m (PySem.W.osa_open (s:={s with toks:=s.toks+1}) (r:=none) X d n j λb=>?_);obtain⟨q,k,g⟩:=tV hh;have o:s.heap.get? x=some ⟨.ref C,some dx,.plain,#[]⟩:=I.obj;refine zA (zB (zA (zA (sW o (zA (wD (s:={s with toks:=s.toks+1}) (sV X k) ?_))))));rw[g];refine zB (a:=some dx) (zA (zB (zA ?_)));refine wpAny_nsSet1 (s:={s with toks:=s.toks+1}) I.ns λh' c a=>?_;obtain⟨t,u,r,l,e,i⟩:=c.count (PySem.Within.cons name v p);refine zA (wpAny_lookBehind l (by rw[e];exact pastItsLine_dict (zR i (by rw[zX];omega))) ?_);exact zB (h _ ⟨(a.2 _ (zS I.ne)).trans I.obj,c,I.ne⟩ a)
theorem Ll{R:Result->Shared->Prop}{vs:LW}{a:List (Str×Value)}(X:K.In s.heap)(e:PySem.W.makesIn K C=true)
  (hi:PySem.W.findIn K (.ref C) "__init__"=some (some (.ref f)))(c:PySem.W.typeIn K (.ref f)=some (.type "function"))
  (h:codeAny (model prog w) (A.under (.builtin "type.__call__" ⟨.ref C:: vs,a⟩)) (.call (.ref f) ⟨.ref (s.heap.objs.size+1):: vs,a⟩) (PySem.W.InitBack (s.heap.objs.size+1) R)
   {s with heap:=(s.heap.push PySem.W.emptyDict).push (PySem.W.instObj C s.heap.objs.size)}):
  codeAny (model prog w) A (.call (.ref C) ⟨vs,a⟩) R s:=by
 obtain⟨hh,g,d,i,j⟩:=s;exact PySem.W.make_core (PySem.W.makes_of X e) (xV X hi) (λb=>PySem.W.bind_fn X b c) (.inl rfl) h
end
def putF(f:Str)(v:V):List (Str×V)->List (Str×V)
 |[]=>[(f,v)]
 |(g,x):: r=>if g=f then(g,v):: r else(g,x):: putF f v r
theorem Cd(f g:Str)(v:V):∀fs:List (Str×V),(putF f v fs).lookup g=if g=f then some v else fs.lookup g
 |[]=>by
  show List.lookup g [(f,v)]=_
  by_cases h:g=f
  ·have a:(g == f)=true:=qV.mpr h;simp only[List.lookup,a,if_pos h]
  ·have a:(g == f)=false:=qW.mpr h;simp only[List.lookup,a,if_neg h]
 | (k,x):: r=>by
  have c:=Cd f g v r;rw[show putF f v ((k,x):: r)=(if k=f then(k,v):: r else(k,x):: putF f v r) from rfl]
  by_cases b:k=f
  ·rw[zG b]
   by_cases h:g=k
   ·have a:(g == k)=true:=qV.mpr h;simp only[List.lookup,a,if_pos (h.trans b)]
   ·have a:(g == k)=false:=qW.mpr h;simp only[List.lookup,a,if_neg (λe:g=f=>h (e.trans b.symm))]
  ·rw[zE b]
   by_cases h:g=k
   ·have a:(g == k)=true:=qV.mpr h;simp only[List.lookup,a,if_neg (λe:g=f=>b (h.symm.trans e))]
   ·have a:(g == k)=false:=qW.mpr h;simp only[List.lookup,a];exact c
theorem aB(f:Str)(v:V):∀fs:List (Str×V),f∈(putF f v fs).map (·.1)/\∀g,g∈fs.map (·.1)->g∈(putF f v fs).map (·.1)
 |[]=>⟨by simp[putF],λg h=>by simp at h⟩
 | (k,x):: r=>by
  obtain⟨c,b⟩:=aB f v r;rw[show putF f v ((k,x):: r)=(if k=f then(k,v):: r else(k,x):: putF f v r) from rfl]
  by_cases a:k=f
  ·rw[zG a];subst a;exact⟨by simp,λg h=>by simpa using h⟩
  ·rw[zE a];refine⟨?_,λg h=>?_⟩
   ·rw[zH];exact zM _ c
   ·rw[zH]at h ⊢;rcases yQ.mp h with e|e
    ·exact yQ.mpr (.inl e)
    ·exact zM _ (b g e)
theorem Cc(f:Str)(v:V):∀fs:List (Str×V),(putF f v fs).length<=fs.length+1
 |[]=>by simp[putF]
 |(k,x):: r=>by
  have b:=Cc f v r;rw[show putF f v ((k,x):: r)=(if k=f then(k,v):: r else(k,x):: putF f v r) from rfl]
  by_cases a:k=f
  ·rw[zG a,zX,zX];omega
  ·rw[zE a,zX,zX];omega
theorem RelO.some_of{v:V}{o:Option Value}(r:RelO (some v) o):∃u,o=some u/\RelV v u:=by
 cases o with
 |none=>exact(show False from r).elim
 |some u=>exact⟨u,rfl,r⟩
theorem RelO.none_of{o:Option Value}(r:RelO none o):o=none:=by
 cases o with
 |none=>rfl
 |some u=>exact(show False from r).elim
theorem Cb{v:V}{u:Value}(r:RelV v u):PySem.W.handedIn u=true:=by
 cases v with
 |non=>cases(show u=Value.none from r);rfl
 |bl b=>cases(show u=Value.bool b from r);rfl
 |int i=>obtain⟨t,e⟩:=(show∃t,u=Value.int i t from r);cases e;rfl
 |str x=>obtain⟨t,e⟩:=(show∃t,u=Value.str x t from r);cases e;rfl
 |byt b=>obtain⟨t,e⟩:=(show∃t,u=Value.bytes b t from r);cases e;rfl
 |flt b=>obtain⟨t,e⟩:=(show∃t,u=Value.float b t from r);cases e;rfl
 |ref a=>cases(show u=Value.ref a from r);rfl
 |ty n=>cases(show u=Value.type n from r);rfl
section
variable {P:Program} {w:World} {H H':Hp} {h h':Heap} {a C dx:Addr} {fs fs':List (Str×V)}
theorem dE(i:HOk P w H h)(e:H a=some (.ins C dx fs)):∃b,ObjM h a dx C b/\(∀f,RelO (fs.lookup f) (b f))/\PySem.Within b (fs.map (·.1))/\fs.length<=1000/\H dx=some (.own a):=by
 obtain⟨d,z,g,c,b,n,r,q⟩:=(show oK P w H h a (.ins C dx fs) from i a _ e);exact⟨b,⟨c,n,g⟩,r,q,z,d⟩
end
structure Cls(K:Frag)(C:Addr):Prop where
 pg:PySem.W.plainGet K C Str.empty=true
 hd:PySem.W.hasDictIn K C=true
 po:PySem.W.plainOver K C=true
 sa:PySem.W.findIn K (.ref C) "__setattr__"=some (some (.builtin "object.__setattr__"))
theorem Cls.get{K:Frag}{C:Addr}(c:Cls K C)(f:Str):PySem.W.plainGet K C f=true:=c.pg
def iS(K:Frag)(C:Addr)(f:Str):Prop:=PySem.W.findIn K (.ref C) f=some none
theorem iS.taker{K:Frag}{C:Addr}{f:Str}(n:iS K C f):PySem.W.takerIn K C f=some none:=by
 unfold PySem.W.takerIn;rw[show PySem.W.findIn K (.ref C) f=some none from n];rfl
structure Meth(K:Frag)(C:Addr)(m:Str)(f:Addr):Prop where
 at_:PySem.W.findIn K (.ref C) m=some (some (.ref f))
 fn:PySem.W.isFn K (.ref f)=true
 kp:PySem.W.keepIn K (.ref f)=true
section
variable {X:Cx} {pins:PN} {σ:St} {H:Hp} {s:Shared} {a C dx:Addr} {fs:List (Str×V)} {f:Str} {v:V} {A:Around} {E:VP}
theorem Lk{b:Bool}{Q:VP}(I:Inv X pins σ H s)(e:H a=some (.ins C dx fs))(c:Cls X.K C)(n:iS X.K C f)(l:fs.lookup f=some v)
  (h:∀u s',Inv X pins σ H s'->RelV v u->Q u s'):wpAny (model X.prog X.w) A (getAttr (.ref a) f b) Q E s:=by
 obtain⟨g,O,r,_,_,_⟩:=dE I.hok e;obtain⟨u,i,d⟩:=RelO.some_of (v:=v) (o:=g f) (by rw[←l];exact r f);exact Lo I.kIn O (c.get f) c.hd n i (Cb d) (h u _ (I.tok _) d)
theorem Ca{m:Str}{g:Addr}{pl:Sem Bool}{Q:Value×LW->Shared->Prop}(I:Inv X pins σ H s)(e:H a=some (.ins C dx fs))(c:Cls X.K C)(k:Meth X.K C m g)(l:fs.lookup m=none)
  (h:Q (.ref g,[.ref a]) s):wpAny (model X.prog X.w) A (getMethod (.ref a) m pl) Q E s:=by
 obtain⟨b,O,r,_,_,_⟩:=dE I.hok e;have d:b m=none:=RelO.none_of (by rw[←l];exact r m);exact Ln I.kIn O (c.get m) k.at_ k.fn d h
theorem Lj{y:V}{u:Value}{Q:Unit->Shared->Prop}(I:Inv X pins σ H s)(e:H a=some (.ins C dx fs))(c:Cls X.K C)(n:iS X.K C f)(hl:fs.length<1000)(t:RelV y u)
  (h:∀s',Inv X pins σ (upd H a (.ins C dx (putF f y fs))) s'->Q () s'):wpAny (model X.prog X.w) A (setAttr (.ref a) f u) Q E s:=by
 obtain⟨i,O,r,j,_,k⟩:=dE I.hok e;have p:(fs.map (·.1)).length<=sizeLine:=by rw[yN,sizeLine_eq];omega
 refine Lm I.kIn O c.sa c.po n.taker c.hd j p λh' d l=>h _ ?_;have D:∃o,h'.get? dx=some o:=let ⟨o,_,_,x,_⟩:=d.ns;⟨o,x⟩
 refine I.write (x:=a) (e:=dx) (by rw[e];exact True.intro) (.inr k) (λb q w z=>(l.2 b w).trans z) D ?_;refine⟨by rw[pR O.ne];exact k,?_,O.ne,d.obj,_,d.ns,λg=>?_,λg m=>?_⟩
 ·have:=Cc f y fs;omega
 ·show RelO ((putF f y fs).lookup g) (if g=f then some u else i g);rw[Cd]
  by_cases q:g=f
  ·rw[zG q,zG q];exact t
  ·rw[zE q,zE q];exact r g
 ·by_cases q:g=f
  ·rw[q];exact(aB f y fs).1
  ·refine(aB f y fs).2 g (j g λz=>m ?_);show(if g=f then some u else i g)=none;rw[zE q];exact z
theorem Inv.made(I:Inv X pins σ H s):Inv X pins σ (upd (upd H s.heap.objs.size (.own (s.heap.objs.size+1))) (s.heap.objs.size+1) (.ins C s.heap.objs.size []))
  {s with heap:=(s.heap.push PySem.W.emptyDict).push (PySem.W.instObj C s.heap.objs.size)}:=by
 have e1:(s.heap.push PySem.W.emptyDict).get? s.heap.objs.size=some PySem.W.emptyDict:=zN s.heap rfl;have d:((s.heap.push PySem.W.emptyDict).push (PySem.W.instObj C s.heap.objs.size)).get? (s.heap.objs.size+1)=some (PySem.W.instObj C s.heap.objs.size):=by
  have:=zN (s.heap.push PySem.W.emptyDict) (o:=PySem.W.instObj C s.heap.objs.size) rfl
  rwa[xH]at this
 have i:(s.heap.push PySem.W.emptyDict).Ns s.heap.objs.size (λ_=>none):=⟨PySem.W.emptyDict,#[],_,e1,rfl,(λe j=>absurd j (by simp)),λ_=>rfl⟩;have k:=I.laid (a:=s.heap.objs.size) (o:=.own (s.heap.objs.size+1)) (h':=s.heap.push PySem.W.emptyDict) (t':=s.toks) (λb u q=>zC _ q) (zF _) ⟨_,e1⟩;refine k.laid (a:=s.heap.objs.size+1) (o:=.ins C s.heap.objs.size []) (t':=s.toks) (λb u q=>zC _ q) (tY (xH _ _)) ?_;have c:s.heap.objs.size≠s.heap.objs.size+1:=zU (tW _);refine⟨by rw[pR c,pN],yD _,c,d,λ_=>none,(Heap.Ns1.of_empty i).at λo q=>zC _ q,λ_=>True.intro,λy g=>absurd rfl g⟩
theorem Dz{prog:Program}{w:World}{env:Env}{e:Expr}{f:Str}{b:Pos}{s:Shared}{Q:VP}(c:attributeBase e f env (eval e env)=eval e env)
  (h:wpAny (model prog w) A (eval e env) (λo d=>wpAny (model prog w) A (getAttr o f true) Q E d) E s):wpAny (model prog w) A (eval (.Attribute e f b) env) Q E s:=
 Attribute_any_ h (by rw[arm_eval_Attribute,c])
end
def tFld(K:Frag)(ta:TE)(f:Str):TE:=λσ H Q=>ta σ H λx H1=>∃a C dx fs v,x=.ref a/\H1 a=some (.ins C dx fs)/\Cls K C/\iS K C f/\fs.lookup f=some v/\Q v H1
def sFld(K:Frag)(ta tv:TE)(f:Str):TS:=λD σ H=>tv σ H λy H1=>ta σ H1 λx H2=>∃a C dx fs,x=.ref a/\H2 a=some (.ins C dx fs)/\Cls K C/\iS K C f/\fs.length<1000 /\
 D.nx σ (upd H2 a (.ins C dx (putF f y fs)))
section
variable {X:Cx} {o e value:Expr} {f:Str} {pos pos' tpos:Pos} {ta tv:TE}
theorem gK(m:PE X e ta)(p:attributeBase e f X.env (eval e X.env)=eval e X.env):PE X (.Attribute e f pos) (tFld X.K ta f):=by
 intro d s g H Q I h;refine Dz p (thn (m d s g H _ I h) ?_);rintro u F ⟨x,r,w,k,a,C,y,fs,v,b,i,c,n,l,q⟩;subst b;obtain rfl:u=Value.ref a:=k;exact Lk w i c n l λz D t j=>⟨v,r,t,j,q⟩
theorem fP(p:PE X o ta)(F:PE X value tv)(z:swapsWith value (some (.Attribute o f pos')) pos.line X.env=pure false):PS X (.Assign [.Attribute o f pos'] value pos) (sFld X.K ta tv f):=by
 intro d s b H D I h;refine plainObj_wpAny_Assign_Attribute (thn (F d s b H _ I h) λu w⟨y,v,k,G,q⟩=>thn (p d w b v _ k q) ?_) z;rintro ov L ⟨x,K,j,t,a,C,J,fs,g,i,c,n,l,r⟩;subst g;obtain rfl:ov=Value.ref a:=t;exact Lj j i c n l G λM m=>⟨b,_,m,r⟩
end
section
variable {X:Cx} {pins:PN} {σ:St} {H:Hp} {s:Shared} {A:Around} {E:VP} {Q:VP} {c:Value} {b:Bool}
inductive TyOf(K:Frag)(H:Hp):V->Value->Prop where
 |non:TyOf K H .non (.type "NoneType")
 |bl (x:Bool):TyOf K H (.bl x) (.type "bool")
 |int (i:Int):TyOf K H (.int i) (.type "int")
 |str (x:Str):TyOf K H (.str x) (.type "str")
 |flt (x:UInt64):TyOf K H (.flt x) (.type "float")
 |lst {a:Addr} {xs:List V} (e:H a=some (.lst xs)):TyOf K H (.ref a) (.type "list")
 |frz {a:Addr} {o:Obj} {xs:List V} (e:H a=some (.frz o (.lst xs))):TyOf K H (.ref a) (.type "list")
 |tup {a:Addr} {xs:List V} (e:H a=some (.tup xs)):TyOf K H (.ref a) (.type "tuple")
 |dK {a:Addr} {kvs:List (Key×V)} (e:H a=some (.dK kvs)):TyOf K H (.ref a) (.type "dict")
 |dT {a:Addr} {kvs:List (List Key×V)} (e:H a=some (.dT kvs)):TyOf K H (.ref a) (.type "dict")
 | ins {a C dx:Addr} {fs:List (Str×V)} (e:H a=some (.ins C dx fs)) (cl:Cls K C) (ha:PySem.W.findIn K (.ref C) "__class__"=some (some (.builtin "object.__class__")))
   (hn:PySem.W.specialIn K (.builtin "object.__class__") "__get__"=some (some (.builtin "getset_descriptor.__get__"))) (htk:PySem.W.takesIn K (.builtin "object.__class__")=some true)
   (hm:PySem.W.mroIn K C (.type "object")=some true):TyOf K H (.ref a) (.ref C)
theorem Li{x:V}{u g:Value}(I:Inv X pins σ H s)(f:RelV x u)(ty:TyOf X.K H x g)(e:PySem.W.kitOne X.K g c=some b)(h:∀tk,Q (.bool b) {s with toks:=tk}):
  wpAny (model X.prog X.w) A (call (.builtin "isinstance") [u,c]) Q E s:=by
 cases ty with
 |non=>cases(show u=Value.none from f);exact xE PySem.W.kitx_none I.kIn True.intro e (λz=>nomatch z) h
 |bl y=>cases(show u=Value.bool y from f);exact xE PySem.W.kitx_bool I.kIn True.intro e (λz=>nomatch z) h
 |int i=>obtain⟨g,q⟩:=(show∃g,u=Value.int i g from f);cases q;exact xE PySem.W.kitx_int I.kIn True.intro e (λz=>nomatch z) h
 |str y=>obtain⟨g,q⟩:=(show∃g,u=Value.str y g from f);cases q;exact xE PySem.W.kitx_str I.kIn True.intro e (λz=>nomatch z) h
 |flt y=>obtain⟨g,q⟩:=(show∃g,u=Value.float y g from f);cases q;exact xE PySem.W.kitx_float I.kIn True.intro e (λz=>nomatch z) h
 |@lst a xs d =>
  cases(show u=Value.ref a from f);obtain⟨_,_,n,_,j⟩:=(show oK X.prog X.w H s.heap a (.lst xs) from I.hok a _ d);exact xE rL I.kIn ⟨_,j,rfl⟩ e (λz=>nomatch z) h
 |@frz a v xs d =>
  cases(show u=Value.ref a from f);obtain⟨_,_,_,n,_,j⟩:=(show oK X.prog X.w H s.heap a (.frz v (.lst xs)) from I.hok a _ d);exact xE rL I.kIn ⟨_,j,rfl⟩ e (λz=>nomatch z) h
 |@tup a xs d =>
  cases(show u=Value.ref a from f);obtain⟨_,_,_,p⟩:=(show oK X.prog X.w H s.heap a (.tup xs) from I.hok a _ d);obtain⟨o,j,k,_⟩:=p;exact xE PySem.W.kitx_tuple I.kIn ⟨o,j,k⟩ e (λz=>nomatch z) h
 |@dK a kvs d =>
  cases(show u=Value.ref a from f);obtain⟨_,_,vs,_,p⟩:=(show oK X.prog X.w H s.heap a (.dK kvs) from I.hok a _ d);obtain⟨o,es,ep,j,k,_⟩:=p;exact xE PySem.W.kitx_dict I.kIn ⟨o,j,k.1⟩ e (λz=>nomatch z) h
 |@dT a kvs d =>
  cases(show u=Value.ref a from f);obtain⟨_,_,xs,_,o,es,ep,j,k,_⟩:=(show oK X.prog X.w H s.heap a (.dT kvs) from I.hok a _ d);exact xE PySem.W.kitx_dict I.kIn ⟨o,j,k.1⟩ e (λz=>nomatch z) h
 |@ins a C G fs d l r t m D =>
  cases(show u=Value.ref a from f);obtain⟨F,O,_⟩:=dE I.hok d;obtain⟨od,w,_⟩:=O.look;exact xE (PySem.W.kitx_own (l.get _) l.hd r t m D) I.kIn w e (λz=>nomatch z) h
end
structure Room(k:Nat)(A:Around):Prop where
 hd:A.handled=none
 dp:A.depth+3*k+5<recursionLimit
 un:A.units+16*k+200<cLine
theorem Room.mono{j k:Nat}{A:Around}(r:Room k A)(h:j<=k):Room j A:=⟨r.hd,by have:=r.dp;omega,by have:=r.un;omega⟩
theorem Room.mo{j k:Nat}{A:Around}(r:Room k A)(h:j<=k:=by first|decide|omega):Room j A:=r.mono h
theorem Room.deeper{k:Nat}{A:Around}(r:Room (k+1) A)(env:Env):Room k (A.deeper env):=
 ⟨r.hd,by have:=r.dp;show A.depth+1+3*k+5<_;omega,by have:=r.un;show A.units+3+16*k+200<_;omega⟩
theorem Lh{A:Around}{C:Addr}{us:LW}{a:List (Str×Value)}:(A.under (.builtin "type.__call__" ⟨.ref C:: us,a⟩)).depth=A.depth+1:=by
 first|rfl|simp[Around.under,Code.weight,Code.isCreation,Code.isGuard,Code.isCaller,Code.frames,Code.isFrame,guardIds]
theorem Lg{A:Around}{C:Addr}{us:LW}{a:List (Str×Value)}:(A.under (.builtin "type.__call__" ⟨.ref C:: us,a⟩)).units=A.units+1:=by
 first|rfl|simp[Around.under,Code.cUnits,Code.frames,Code.isFrame]
theorem Room.make{k:Nat}{A:Around}(r:Room (k+1) A)(C:Addr)(us:LW)(a:List (Str×Value)):Room k (A.under (.builtin "type.__call__" ⟨.ref C:: us,a⟩)):=
 ⟨r.hd,by have:=r.dp;rw[Lh];omega,by have:=r.un;rw[Lg];omega⟩
theorem Room.depth{k:Nat}{A:Around}(r:Room k A):A.depth<recursionLimit:=by have:=r.dp;omega
theorem Room.units{k:Nat}{A:Around}(r:Room k A):A.units+64<cLine:=by have:=r.un;omega
def tNil:TA:=λ_ H Q=>Q [] H
def pZ(ta:TE)(tr:TA):TA:=λσ H Q=>ta σ H λx H1=>tr σ H1 λxs H2=>Q (x:: xs) H2
section
variable {X:Cx} {e:Expr} {es:List Expr} {te:TE} {t:TA} {pos:Pos}
theorem pK:PA X [] tNil:=λ_ _ _ _ H Q I h=>Calls.spliced_nil ⟨[],H,I,.nil,h⟩
theorem pJ(f:PE X e te)(hr:PA X es t)(g:starEach (e:: es) X.env=(false,eval e X.env):: starEach es X.env:=by rfl):PA X (e:: es) (pZ te t):=by
 intro pos a s b H Q I h;rw[g];show wpAny _ _ (spliced ((false,eval e X.env):: backTo pos (starEach es X.env))) _ _ s;refine Calls.spliced_cons (thn (f a s b H _ I h) ?_);rintro u k ⟨x,l,o,n,d⟩;exact thn (hr pos a k b l _ o d) λus p⟨xs,i,m,c,j⟩=>⟨x:: xs,i,m,.cons n c,j⟩
def tTup(t:TA):TE:=λσ H Q=>t σ H λxs H1=>xs.length<=sizeLine/\∀p,H1 p=none->Q (.ref p) (upd H1 p (.tup xs))
def tLst(t:TA):TE:=λσ H Q=>t σ H λxs H1=>xs.length<=sizeLine/\∀p,H1 p=none->Q (.ref p) (upd H1 p (.lst xs))
theorem oX{f}(h:PA X es t):PE X (.Tuple es f pos) (tTup t):=by
 intro g s i H Q I k;refine wpAny_Tuple_spliced (thn (h pos g s i H _ I k) λus a⟨xs,c,d,r,z,q⟩=>⟨by rw[←r.length];exact z,?_⟩);have j:c a.heap.objs.size=none:=d.hok.fresh (zF _);refine⟨.ref a.heap.objs.size,upd c a.heap.objs.size (.tup xs),d.laid (t':=a.toks) (λb u e=>zC _ e) (zF _) ?_,rfl,q _ j⟩;exact⟨z,us,r,⟨_,zN _ rfl,rfl,_,rfl⟩⟩
theorem nW(h:PA X es t):PE X (.List es pos) (tLst t):=by
 intro f s g H Q I j;refine wpAny_List_spliced (thn (h pos f s g H _ I j) λus a⟨xs,c,d,r,z,q⟩=>⟨by rw[←r.length];exact z,?_⟩);have i:c a.heap.objs.size=none:=d.hok.fresh (zF _);refine⟨.ref a.heap.objs.size,upd c a.heap.objs.size (.lst xs),d.laid (t':=a.toks) (λb u e=>zC _ e) (zF _) ?_,rfl,q _ i⟩;exact⟨z,us,0,r,zN _ rfl⟩
end
abbrev Sp:=List V->Hp->VK->XK->Prop
abbrev CXT:=List Env->Hp->Shared->XK->VP
structure Env0(P:Program)(w:World)(K:Frag)(mg:MT)(base:Heap)(A:Around)(outer:List Env)(s:Shared)(H:Hp):Prop where
 frames:A.frames=some outer
 mod:Mod K mg base
 bs:∀b o,base.get? b=some o->s.heap.get? b=some o/\H b=none
 bsz:base.objs.size<=s.heap.objs.size
 funs:s.heap.FunFrames base outer
 frf:∀b∈frs outer,H b=none
 hok:HOk P w H s.heap
 bare:AllBare s.gens
def CE(outer:List Env)(P:Program)(w:World)(H:Hp)(s:Shared)(Q:VK)(u:Value)(s':Shared):Prop:=
 ∃v H',s'.os=s.os/\AllBare s'.gens/\Un (frs outer) [] H H' s.heap s'.heap/\HOk P w H' s'.heap/\RelV v u/\Q v H'
def CR(CX:CXT)(outer:List Env)(P:Program)(w:World)(H:Hp)(s:Shared)(Q:VK)(E:XK)(r:Result)(s':Shared):Prop:=
 match r with
 |.ok (.ret u)=>CE outer P w H s Q u s'
 |.ok _=>False
 |.error e=>CX outer H s E e s'
structure FnOk(P:Program)(w:World)(K:Frag)(mg:MT)(base:Heap)(CX:CXT)(k:Nat)(f:Addr)(fd:FuncData)(ps:List Str)(sp:Sp):Prop where
 len:∀vs H Q E,sp vs H Q E->vs.length=ps.length
 run:∀(A:Around)(outer:List Env)(s:Shared)(H:Hp)(args:Args)(us:LW)(vs:List V)(Q:VK)(E:XK),Room k A->Env0 P w K mg base A outer s H->BindsTo s fd args (ps.zip us)->Vals vs us->sp vs H Q E ->
  codeAny (model P w) A (.call (.ref f) args) (CR CX outer P w H s Q E) s
theorem Env0.make{P:Program}{w:World}{K:Frag}{a:MT}{base:Heap}{A:Around}{outer:List Env}{s:Shared}{H:Hp}(e:Env0 P w K a base A outer s H)(C:Addr)(us:LW)(b:List (Str×Value)):
  Env0 P w K a base (A.under (.builtin "type.__call__" ⟨.ref C:: us,b⟩)) outer s H:=⟨by first|exact e.frames|(simpa [Around.under,Code.envs,Code.isFrame,pushEnvs]using e.frames),e.mod,e.bs,e.bsz,e.funs,e.frf,e.hok,e.bare⟩
section
variable {X:Cx} {pins:PN} {σ:St} {H:Hp} {s s':Shared}
theorem Inv.env0(I:Inv X pins σ H s):Env0 X.prog X.w X.K X.mg X.base X.A X.stack s H:=
 ⟨I.ok.frames,I.ok.mod,I.bs,zR I.ok.bsz I.sz,I.stack,I.stkFree,I.hok,I.bare⟩
theorem Inv.after{Q:VK}{u:Value}(I:Inv X pins σ H s)(h:CE X.stack X.prog X.w H s Q u s'):EP X pins σ Q u s':=by
 obtain⟨v,H',i,a,un,c,r,q⟩:=h;obtain⟨hh,g,d,e,f⟩:=s';obtain rfl:f=s.os:=i;exact⟨v,H',I.call (h':=hh) (g':=g) (d':=d) (t':=e) (ch:=[]) un c a (λb z=>absurd z (by simp)),r,q⟩
end
def oV(sp:Sp)(dvs:List V)(E:XK)(t:TA):TE:=λσ H Q=>t σ H λvs H1=>sp (vs++dvs) H1 Q E
def kD(C:Addr)(m:Str)(sp:Sp)(dvs:List V)(E:XK)(ta:TE)(t:TA):TE:=λσ H Q=>ta σ H λx H1=>∃a dx fs,x=.ref a/\H1 a=some (.ins C dx fs)/\fs.lookup m=none /\
 t σ H1 λvs H2=>sp (x:: (vs++dvs)) H2 Q E
def dF(C:Addr)(sp:Sp)(dvs:List V)(E:XK)(t:TA):TE:=λσ H Q=>t σ H λvs H1=>∀x dx,H1 x=none->H1 dx=none->dx≠x ->
 sp (.ref x:: (vs++dvs)) (upd (upd H1 dx (.own x)) x (.ins C dx [])) (λv H2=>v=.non/\Q (.ref x) H2) E
def nD(K:Frag)(fd:FuncData)(ps:List Str)(ds:LW):Prop:=
 ∀(s:Shared)(us:LW),K.In s.heap->(us++ds).length=ps.length->BindsTo s fd ⟨us,[]⟩ (ps.zip (us++ds))
theorem nD.all{K:Frag}{a:FuncData}{ps:List Str}(h:∀us:LW,us.length=ps.length->bindArgs a ⟨us,[]⟩=pure (ps.zip us)):nD K a ps []:=λs us _ hl=>by
 rw[vQ]at hl ⊢;exact .of_eq (h us hl)
def jN(CX:CXT)(X:Cx)(E:XK):Prop:=∀(pins:PN)(σ:St)(H:Hp)(s:Shared)(e:Value)(s':Shared),Inv X pins σ H s->CX X.stack H s E e s'->X.xe e s'
section
variable {X:Cx} {CX:CXT} {k:Nat} {f C:Addr} {fd:FuncData} {ps:List Str} {sp:Sp} {dvs:List V} {ds:LW} {E:XK} {x m:Str} {p pos apos:Pos} {e o:Expr} {es:List Expr} {ta:TE} {t:TA}
theorem aC{b:PN}{c:St}{H:Hp}{s:Shared}{Q:VK}{us:LW}{vs:List V}(F:FnOk X.prog X.w X.K X.mg X.base CX k f fd ps sp)(hr:Room k X.A)(i:nD X.K fd ps ds)(g:Vals dvs ds)(j:jN CX X E)
  (I:Inv X b c H s)(r:Vals vs us)(h:sp (vs++dvs) H Q E):wpAny (model X.prog X.w) X.A (call (.ref f) us) (EP X b c Q) X.xe s:=by
 have d:Vals (vs++dvs) (us++ds):=r.append g;have hl:(us++ds).length=ps.length:=by rw[←d.length];exact F.len _ _ _ _ h
 refine vS (uC (F.run X.A X.stack s H ⟨us,[]⟩ (us++ds) (vs++dvs) Q E hr I.env0 (i s us I.kIn hl) d h) λr s' a=>?_);cases r with
 |error e=>exact j b c H s e s' I a
 |ok fl =>
  cases fl with
  |ret u=>exact I.after a
  |next=>exact False.elim a
  |brk=>exact False.elim a
  |cont=>exact False.elim a
theorem mX(F:FnOk X.prog X.w X.K X.mg X.base CX k f fd ps sp)(hr:Room k X.A)(i:Gl X x)(y:X.mg x=some (.ref f))(v:PySem.W.keepIn X.K (.ref f)=true)(u:nD X.K fd ps ds)(b:Vals dvs ds)(w:jN CX X E)
  (g:PA X (e:: es) t)(j:(x == ("__debug__" :Str))=false:=by decide)(n:starEach (e:: es) X.env=(false,eval e X.env):: starEach es X.env:=by rfl)(l:(backTo pos (starEach es X.env)).any (·.1)=false:=by rfl):
  PE X (.Call (.Name x p) (e:: es) [] pos) (oV sp dvs E t):=by
 intro c s d H Q I h;refine wS (jL I i y ?_ j);refine vR (h₀:=X.base) I.ok.mod.kin v (thn (g pos c s d H _ I h) λus D⟨vs,z,a,r,q⟩=>⟨a.kIn,?_⟩) n l;exact aC F hr u b w a r q
theorem Dy{pl:Sem Bool}(K:PE X o ta)(c:Cls X.K C)(j:Meth X.K C m f)(F:FnOk X.prog X.w X.K X.mg X.base CX k f fd ps sp)(hr:Room k X.A)(y:nD X.K fd ps ds)(P:Vals dvs ds)(z:jN CX X E)(G:PA X (e:: es) t)
  (N:starEach (e:: es) X.env=(false,eval e X.env):: starEach es X.env:=by rfl)(w:(backTo pos (starEach es X.env)).any (·.1)=false:=by rfl)
  (D:eval (.Call (.Attribute o m apos) (e:: es) [] pos) X.env=(do
   let ov ←eval o X.env
   standAt apos.atName
   let (f,first) ←holding [ov] (getMethod ov m pl)
   callWith pos f first (backTo pos (starEach (e:: es) X.env)) (backToKw pos (keywordEach [] X.env))):=by rfl):
  PE X (.Call (.Attribute o m apos) (e:: es) [] pos) (kD C m sp dvs E ta t):=by
 intro b s d H Q I h;refine tX (pl:=pl) (thn (K b s d H _ I h) ?_) D;rintro u O ⟨x,M,i,L,a,R,fs,n,v,l,q⟩;subst n;obtain rfl:u=Value.ref a:=L;refine Ca i v c j l ?_;refine vR (first:=[.ref a]) (h₀:=X.base) I.ok.mod.kin j.kp (thn (G pos b O d M _ i q) λus T⟨vs,S,g,r,J⟩=>⟨g.kIn,?_⟩) N w;exact aC (us:=.ref a:: us) (vs:=.ref a:: vs) F hr y P z g (.cons rfl r) J
theorem jW{pl:Sem Bool}(y:PE X o ta)(c:Cls X.K C)(d:Meth X.K C m f)(F:FnOk X.prog X.w X.K X.mg X.base CX k f fd ps sp)(hr:Room k X.A)(z:nD X.K fd ps ds)(i:Vals dvs ds)(D:jN CX X E)
  (v:eval (.Call (.Attribute o m apos) [] [] pos) X.env=(do
   let ov ←eval o X.env
   standAt apos.atName
   let (f,first) ←holding [ov] (getMethod ov m pl)
   callWith pos f first (backTo pos (starEach [] X.env)) (backToKw pos (keywordEach [] X.env))):=by rfl):
  PE X (.Call (.Attribute o m apos) [] [] pos) (kD C m sp dvs E ta tNil):=by
 intro j s n H Q I h;refine tX (pl:=pl) (thn (y j s n H _ I h) ?_) v;rintro u J ⟨x,K,b,w,a,G,fs,g,r,l,q⟩;subst g;obtain rfl:u=Value.ref a:=w;refine Ca b r c d l ?_;exact PySem.W.callWith_K0 (first:=[.ref a]) b.kIn d.kp (aC (us:=[.ref a]) (vs:=[.ref a]) F hr z i D b (.cons rfl .nil) q)
structure Mk(K:Frag)(C f:Addr):Prop where
 makes:PySem.W.makesIn K C=true
 init:PySem.W.findIn K (.ref C) "__init__"=some (some (.ref f))
 fn:PySem.W.isFn K (.ref f)=true
 kp:PySem.W.keepIn K (.ref C)=true
theorem Lf{d:PN}{g:St}{H:Hp}{s:Shared}{Q:VK}{us:LW}{vs:List V}(M:Mk X.K C f)(F:FnOk X.prog X.w X.K X.mg X.base CX k f fd ps sp)(hr:Room (k+1) X.A)(D:nD X.K fd ps ds)(n:Vals dvs ds)
  (G:jN CX X E)(I:Inv X d g H s)(r:Vals vs us)
  (h:∀x b,H x=none->H b=none->b≠x->sp (.ref x:: (vs++dvs)) (upd (upd H b (.own x)) x (.ins C b [])) (λv y=>v=.non/\Q (.ref x) y) E):
  wpAny (model X.prog X.w) X.A (call (.ref C) us) (EP X d g Q) X.xe s:=by
 have j:=h (s.heap.objs.size+1) s.heap.objs.size (I.hok.fresh (tQ _)) (I.hok.fresh (zF _)) (zU (tW _));have c:=Inv.made (C:=C) I;have i:Vals (V.ref (s.heap.objs.size+1):: (vs++dvs)) (Value.ref (s.heap.objs.size+1):: (us++ds)):=.cons rfl (r.append n);have hl:(Value.ref (s.heap.objs.size+1):: us++ds).length=ps.length:=by
  have e:=i.length;rw[F.len _ _ _ _ j]at e;exact e.symm
 refine vS (Ll (f:=f) I.kIn M.makes M.init (qV.mp M.fn) (uC (F.run _ X.stack _ _ ⟨Value.ref (s.heap.objs.size+1):: us,[]⟩ (Value.ref (s.heap.objs.size+1):: (us++ds)) _ _ E (hr.make C us [])
  (c.env0.make C us []) (D _ (Value.ref (s.heap.objs.size+1):: us) c.kIn hl) i j) λr s' a=>?_))
 cases r with
 |error e=>exact G d g _ _ e s' c a
 | ok fl =>
  cases fl with
  |ret u =>
   obtain⟨v,H',l,q,w,z⟩:=c.after a;subst w;exact⟨q,⟨V.ref (s.heap.objs.size+1),H',l,rfl,z⟩⟩
  |next=>exact False.elim a
  |brk=>exact False.elim a
  |cont=>exact False.elim a
theorem aD(M:Mk X.K C f)(F:FnOk X.prog X.w X.K X.mg X.base CX k f fd ps sp)(hr:Room (k+1) X.A)(i:Gl X x)(w:X.mg x=some (.ref C))(u:nD X.K fd ps ds)(b:Vals dvs ds)(v:jN CX X E)
  (g:PA X (e:: es) t)(j:(x == ("__debug__" :Str))=false:=by decide)(n:starEach (e:: es) X.env=(false,eval e X.env):: starEach es X.env:=by rfl)(l:(backTo pos (starEach es X.env)).any (·.1)=false:=by rfl):
  PE X (.Call (.Name x p) (e:: es) [] pos) (dF C sp dvs E t):=by
 intro c s d H Q I h;refine wS (jL I i w ?_ j);refine vR (h₀:=X.base) I.ok.mod.kin M.kp (thn (g pos c s d H _ I h) λus y⟨vs,z,a,r,q⟩=>⟨a.kIn,?_⟩) n l;exact Lf M F hr u b v a r q
end
section
variable {X:Cx} {CX:CXT} {k:Nat} {f C:Addr} {fd:FuncData} {ps ks:List Str} {sp:Sp} {E:XK} {x m:Str} {p pos apos kpos:Pos} {e o:Expr} {es:List Expr} {kws:List Keyword} {te ta:TE} {t tk:TA} {nm:Option Str}
variable {g:LW->LW->LW} {gV:List V->List V->List V}
end
structure pX(N P:List Str)(sc:Scope):Prop where
 kind:sc.kind=.function
 co:sc.isCoroutine=false
 gen:sc.isGenerator=false
 nd:N.Nodup
 pre:N.take P.length=P
 par:∀x∈P,sc.names.lookup x=some .local\/sc.names.lookup x=some .cell
 nofree:∀y∈sc.names,y.2≠.free
theorem Dx{a:Str->Option NameKind}{x:Str}:∀{binds:List (Str×Value)}{m:MT},(∀v,(x,v)∉binds)->bindL a binds m x=m x
 |[],_,_=>rfl
 | (n,v):: r,m,h=>by
  unfold bindL;rw[Dx λw b=>h w (zM _ b)];split
  ·have:x≠n:=by rintro rfl;exact h v zQ
   simp[this]
  ·rfl
theorem Dw{a:Str->Option NameKind}{x:Str}:∀{binds:List (Str×Value)}{m:MT},(∀v,(x,v)∉binds)->bindC a binds m x=m x
 |[],_,_=>rfl
 | (n,v):: r,m,h=>by
  unfold bindC;rw[Dw λw b=>h w (zM _ b)];split
  ·rfl
  ·have:x≠n:=by rintro rfl;exact h v zQ
   simp[this]
theorem Dv{c:Str->Option NameKind}{x:Str}{v:Value}:∀{P:List Str}{vs:LW}{i:Nat}{m:MT},P.Nodup->P[i]?=some x->vs[i]?=some v->c x=some .local ->
  bindL c (P.zip vs) m x=some v
 |[],_,_,_,_,h,_,_=>by simp at h
 |_:: _,[],_,_,_,_,h,_=>by simp at h
 |p:: P,w:: vs,0,m,e,a,b,d=>by
  simp at a b;subst a;subst b;show bindL c ((p,w):: P.zip vs) m p=_;unfold bindL;rw[Dx λv f=>(sG.mp e).1 (uT f).1,zG d];simp
 |p:: P,w:: vs,i+1,m,e,a,b,d=>by
  show bindL c ((p,w):: P.zip vs) m x=_;unfold bindL;exact Dv (i:=i) (sG.mp e).2 (by simpa using a) (by simpa using b) d
theorem Du{c:Str->Option NameKind}{x:Str}{v:Value}:∀{P:List Str}{vs:LW}{i:Nat}{m:MT},P.Nodup->P[i]?=some x->vs[i]?=some v->c x≠some .local ->
  bindC c (P.zip vs) m x=some v
 |[],_,_,_,_,h,_,_=>by simp at h
 |_:: _,[],_,_,_,_,h,_=>by simp at h
 |p:: P,w:: vs,0,m,e,a,b,d=>by
  simp at a b;subst a;subst b;show bindC c ((p,w):: P.zip vs) m p=_;unfold bindC;rw[Dw λv f=>(sG.mp e).1 (uT f).1,zE d];simp
 |p:: P,w:: vs,i+1,m,e,a,b,d=>by
  show bindC c ((p,w):: P.zip vs) m x=_;unfold bindC;exact Du (i:=i) (sG.mp e).2 (by simpa using a) (by simpa using b) d
def mY(N:List Str)(vs:List V):St:=vs.map some++List.replicate (N.length-vs.length) none
def cxOf(CX:CXT)(P:Program)(w:World)(K:Frag)(mg:MT)(base:Heap)(N:List Str)(qual:Str)(scope:Scope)(f:Addr)(cd:Value)(A:Around)(outer:List Env)(s:Shared)(H:Hp)(E:XK):Cx where
 prog:=P
 w:=w
 K:=K
 mg:=mg
 base:=base
 A:=A.deeper (envOfC qual scope s.heap.objs.size f cd)
 N:=N
 s₀:=s
 H₀:=H
 env:=envOfC qual scope s.heap.objs.size f cd
 outer:=outer
 stack:=envOfC qual scope s.heap.objs.size f cd:: outer
 ex:=[]
 calm:=true
 fn:=λ_=>true
 pn:=[]
 xe:=λe s'=>wpAny (model P w) (A.deeper (envOfC qual scope s.heap.objs.size f cd)) (leaving (envOfC qual scope s.heap.objs.size f cd) e) (λ_ s''=>CX outer H s E e s'') (λe' s''=>CX outer H s E e' s'') s'
theorem Ds{sc:Scope}{n:Nat}{x:Str}(h:sc.names.lookup x=some .cell):∃c,(cellsFrom n sc.names []).lookup x=some c:=by
 have q:=tM sc.names n [] (.inl h);exact Option.isSome_iff_exists.mp q
theorem Dr{M:CXT}{P:Program}{w:World}{K:Frag}{F:MT}{base:Heap}{N ps:List Str}{o:Str}{j:Scope}{f:Addr}{C:Value}{A:Around}{outer:List Env}{s L:Shared}{H:Hp}{E:XK}{us:LW}{vs:List V}
  (m:pX N ps j)(S:A.handled=none)(g:Env0 P w K F base A outer s H)(hl:vs.length=ps.length)(r:Vals vs us)
  (x:InCallC s s.heap.objs.size (bindL (envOfC o j s.heap.objs.size f C).kindOf (ps.zip us) λ_=>none) (cellsFrom (s.heap.objs.size+1) j.names []) (bindC (envOfC o j s.heap.objs.size f C).kindOf (ps.zip us) λ_=>none) L):
  Inv (cxOf M P w K F base N o j f C A outer s H E) [] (mY N vs) H L:=by
 have U:ps.length<=N.length:=by have:=wE List.length m.pre;rw[wP]at this;omega
 obtain⟨t,tk,rfl,I⟩:=x.done;have D:∀b:Addr,b∉(cxOf M P w K F base N o j f C A outer s H E).ex:=λb z=>absurd (show b∈([]:LA) from z) (by simp);refine⟨⟨g.mod,m.kind,rfl,rfl,zF _,λy z c t d=>?_,λy l=>?_,λy c _ h=>?_,λ_=>S,Around.frames_deeper g.frames,.inr ⟨rfl,rfl⟩,λb z=>absurd z (D b),g.bs,g.bsz,λb _ _=>D b,λb z=>absurd z (D b),g.funs,g.frf⟩,
  rfl,g.bare,Un.kept I,⟨_,x.toInCall.ns,λi y v t d T=>?_⟩,λy c h=>⟨_,x.cell y c h⟩,g.hok.fresh (zF _),λy c h=>?_,λp n=>absurd (show p∈([]:PN) from n) (by simp),g.hok.kept I,?_⟩
 ·exact name_of_addr x.apart (wM t) (wM d)
 ·have l:j.names.lookup y=some .cell\/j.names.lookup y=some .free:=l;rcases l with l|l
  ·exact Ds l
  ·exact absurd rfl (m.nofree _ (wM l))
 ·exact vL (x.above y c (wM h))
 ·have hi:i<vs.length:=by
   unfold mY at d
   by_cases hi:i<vs.length
   ·exact hi
   ·rw[xG (by simpa using hi)]at d;rw[tF]at d;split at d <;> cases d
  have R:vs[i]?=some v:=by
   unfold mY at d;rw[yV (by simpa using hi),zD]at d;cases e:vs[i]? with
   |none=>rw[e]at d;cases d
   |some a=>rw[e]at d;cases d;rfl
  obtain⟨u,J,O⟩:=r.get R;have n:ps[i]?=some y:=by
   rw[←m.pre,List.getElem?_take_of_lt ⋯];exact t
  have G:ps.Nodup:=by rw[←m.pre];exact m.nd.sublist (List.take_sublist _ _)
  refine⟨u,O,?_⟩;rcases m.par y (vB n) with k|k
  ·exact .inl ⟨k,Dv G n J k⟩
  ·obtain⟨c,e⟩:=Ds (n:=s.heap.objs.size+1) k;refine .inr ⟨.inl k,c,e,?_⟩;have q:=x.cell y c e;rw[Du G n J (by show j.names.lookup y≠_;rw[k];decide)]at q;exact q
 ·exact g.hok.fresh (vL (x.above y c (wM h)))
 ·unfold mY;show _=N.length;rw[yI,yN,yU];omega
theorem dG{m:CXT}{P:Program}{w:World}{K:Frag}{p:MT}{base:Heap}{k:Nat}{f:Addr}{name d:Str}{G:Arguments}{body:List Stmt}{a:Scope}{L kV O F cdv R a5:Value}{S od:Option Addr}
  {a0:Array (Option Value)}{N ps:List Str}{z:Sp}(T:K.lookup f=some ⟨a5,od,.func (PySem.W.fnOf name d G body a L kV O F S cdv R),a0⟩)(a1:PySem.W.codeIn K cdv d=true)(j:pX N ps a)
  (len:∀vs H Q E,z vs H Q E->vs.length=ps.length)
  (Z:∀(A:Around)(outer:List Env)(s:Shared)(H:Hp)(vs:List V)(Q:VK)(E:XK),Room k (A.deeper (envOfC d a s.heap.objs.size f cdv))->z vs H Q E ->
   ∃C,PSs (cxOf m P w K p base N d a f cdv A outer s H E) body C/\C {nx:=λ_ H'=>Q .non H',rt:=Q} (mY N vs) H):
  FnOk P w K p base m (k+1) f (PySem.W.fnOf name d G body a L kV O F S cdv R) ps z:=by
 refine⟨len,λA outer s H a6 us vs Q E hr i U r J=>?_⟩;have hl:=len _ _ _ _ J;have KX:K.In s.heap:=i.mod.kin.keeps λb o e=>(i.bs b o e).1;have a3:s.heap.NoLimit:=i.mod.nolimit.keeps λb o e=>(i.bs b o e).1;have a4:∀y∈ps.zip us,a.names.lookup y.1=some .local\/(a.names.lookup y.1=some .cell/\((cellsFrom (s.heap.objs.size+1) a.names []).lookup y.1).isSome=true):=λ⟨n,v⟩W=>by
  rcases j.par n (uT W).1 with q|q
  ·exact .inl q
  ·exact .inr ⟨q,tM _ _ _ (.inl q)⟩
 refine codeAny_call_function hr.depth (KX _ _ T) rfl j.co j.gen rfl (PySem.W.codeRec_of KX a1) (U _ _ _ _ ?_);refine wpAny_newFunctionEnv_cells j.kind a4 λenv Y M x=>?_;subst Y;refine⟨a3.keeps x.toInCall.keep,codeAny_func ?_⟩;obtain⟨C,X,a2⟩:=Z A outer s H vs Q E (hr.deeper _) J;have I:Inv (cxOf m P w K p base N d a f cdv A outer s H E) [] (mY N vs) H M:=Dr j hr.hd i hl r x;refine yF (X [] M (mY N vs) H _ I a2) (λfl s' g=>?_) λe s' g=>g;have D:∀{l:St}{H':Hp}{v:V}{u:Value},Inv (cxOf m P w K p base N d a f cdv A outer s H E) [] l H' s'->RelV v u->Q v H'->CE outer P w H s Q u s':=
  λ{l H' v u}c t q=>⟨v,H',c.os,c.bare,c.base,c.hok,t,q⟩
 cases fl with
 |ret u =>
  obtain⟨v,l,H',c,t,q⟩:=g;exact D c t q
 |next =>
  obtain⟨l,H',c,q⟩:=g;exact D (v:=V.non) (u:=Value.none) c rfl q
 |brk =>
  obtain⟨_,_,_,q⟩:=g;exact False.elim q
 |cont =>
  obtain⟨_,_,_,q⟩:=g;exact False.elim q
section
variable {X:Cx} {x:Str} {p pos:Pos} {e:Expr} {es:List Expr} {t:TA} {id T:String} {r:List V->Hp->VK->Prop}
def tCB(r:List V->Hp->VK->Prop)(t:TA):TE:=λσ H Q=>t σ H λvs H1=>r vs H1 Q
theorem oP(d:mI X (.builtin id) r)(i:Gl X x)(u:X.mg x=none)(m:bootBuiltins x=some (.builtin id))(f:PA X (e:: es) t)(g:x≠"__name__" := by decide)(j:(x == ("__debug__" :Str))=false:=by decide)
  (l:starEach (e:: es) X.env=(false,eval e X.env):: starEach es X.env:=by rfl)(k:(backTo pos (starEach es X.env)).any (·.1)=false:=by rfl):PE X (.Call (.Name x p) (e:: es) [] pos) (tCB r t):=by
 intro a s b H Q I h;refine wS (iN I i u m ?_ g j);exact PyProof.Rows.callWith_builtin1 (thn (f pos a s b H _ I h) λus n⟨vs,o,v,q,c⟩=>d a n b o vs us Q v q c) l k
theorem oZ(d:mI X (.type T) r)(i:Gl X x)(u:X.mg x=none)(m:bootBuiltins x=some (.type T))(f:PA X (e:: es) t)(g:x≠"__name__" := by decide)(j:(x == ("__debug__" :Str))=false:=by decide)
  (l:starEach (e:: es) X.env=(false,eval e X.env):: starEach es X.env:=by rfl)(k:(backTo pos (starEach es X.env)).any (·.1)=false:=by rfl):PE X (.Call (.Name x p) (e:: es) [] pos) (tCB r t):=by
 intro a s b H Q I h;refine wS (iN I i u m ?_ g j);exact xY (thn (f pos a s b H _ I h) λus n⟨vs,o,v,q,c⟩=>d a n b o vs us Q v q c) l k
end
end L2
namespace HT
open PySem PyProof.Rows
section
open PySem.SeqAt
open PySem.AutoSeq1 (wpAny_loadPart')
open PySem.MeetsSeq PySem.MeetsSeq2 PySem.MeetsSeq3
end
section
variable {prog:Program} {w:World} {A:Around} {E:VP} {s:Shared}
def sIx(n d:Nat):Option Int->Nat
 |none=>d
 |some v=>if v<0 then(v+(n:Int)).toNat else min v.toNat n
theorem sIx_none(n d:Nat):sIx n d none=d:=rfl
theorem sIx_nat(n d k:Nat):sIx n d (some (k:Int))=min k n:=by
 show(if(k:Int)<0 then((k:Int)+(n:Int)).toNat else min (k:Int).toNat n)=min k n;rw[zE ⋯,zW]
theorem Le(n d:Nat)(b:d<=n)(o:Option Int):sIx n d o<=n:=by
 cases o with
 |none=>exact b
 |some v =>
  show(if v<0 then(v+(n:Int)).toNat else min v.toNat n)<=n
  by_cases a:v<0
  ·rw[zG a];omega
  ·rw[zE a];exact Nat.min_le_right _ _
theorem Dq(v:Int)(n d:Nat):(if v<0 then max (v+(n:Int)) 0 else min v (n:Int))=((sIx n d (some v):Nat):Int):=by
 show(if v<0 then max (v+(n:Int)) 0 else min v (n:Int))=(((if v<0 then(v+(n:Int)).toNat else min v.toNat n):Nat):Int)
 by_cases a:v<0
 ·simp only[if_pos a];omega
 ·simp only[if_neg a];omega
theorem Ld(a hi:Option Int)(n:Nat):Builtin.Slice.sliceAdjust a hi 1 (n:Int)=(((sIx n 0 a:Nat):Int),((sIx n n hi:Nat):Int)):=by
 have b:¬ ((1:Int)<0):=⋯
 unfold Builtin.Slice.sliceAdjust;simp only[b,if_false];refine Prod.ext ?_ ?_
 ·cases a with
  |none=>rfl
  |some v=>exact Dq v n 0
 ·cases hi with
  |none=>rfl
  |some v=>exact Dq v n n
theorem Lc(i j:Nat):Builtin.Slice.slicePlaces (i:Int) (j:Int) 1=j-i:=by
 unfold Builtin.Slice.slicePlaces;have a:(1:Int) > 0:=⋯
 simp only[a,if_true,Int.ediv_one];split <;> omega
theorem Dp{v:Value}{o:Option Int}{Q:Option Int->Shared->Prop}(p:IsPart v o)(h:Q o s):wpAny (model prog w) A (Builtin.Slice.slicePartIndex v) Q E s:=by
 cases p with
 |none=>exact slicePart_none h
 |int i t=>exact slicePart_int h
theorem Lb{f:Addr}{b d:Value}{a hi:Option Int}{n:Nat}{Q:Int×Int×Nat->Shared->Prop}(i:s.heap.IsSliceOf f b d .none)(pl:IsPart b a)(g:IsPart d hi)
  (h:Q (((sIx n 0 a:Nat):Int),1,sIx n n hi-sIx n 0 a) s):wpAny (model prog w) A (Builtin.Slice.sliceApplied (.ref f) (pure (n:Int))) Q E s:=by
 obtain⟨k,c,j,e⟩:=id i;unfold Builtin.Slice.sliceApplied Builtin.Slice.sliceFields;refine zA (zA (yS c e (x:=b) rfl (zA (yS c e (x:=d) rfl (zA (yS c e (x:=.none) rfl (zB ?_)))))));refine zA (slicePart_none ?_);show wpAny _ _ (if((1:Int) == 0)=true then _ else _) _ _ s;rw[zE ∅];refine zA (Dp pl (zA (Dp g (zA (zB ?_)))));show wpAny _ _ (match Builtin.Slice.sliceAdjust a hi 1 (n:Int) with|(a,hi)=>pure (a,(1:Int),Builtin.Slice.slicePlaces a hi 1)) _ _ s;rw[Ld a hi n];show wpAny _ _ (pure (((sIx n 0 a:Nat):Int),(1:Int),Builtin.Slice.slicePlaces ((sIx n 0 a:Nat):Int) ((sIx n n hi:Nat):Int) 1)) _ _ s;rw[Lc];exact zB h
theorem La(xs:Array Value)(i k:Nat):((List.range k).filterMap λ(m:Nat)=>xs[((i:Int)+(m:Int)*1).toNat]?).toArray=((xs.toList.drop i).take k).toArray:=by
 have e:(λ(m:Nat)=>xs[((i:Int)+(m:Int)*1).toNat]?)=λm=>xs[i+m]?:=by
  funext m
  have:((i:Int)+(m:Int)*1).toNat=i+m:=⋯
  rw[this]
 rw[e];have:=pick_run xs i k;rw[List.filterMap_map]at this;have a:((λx=>xs[x]?)∘ λx=>i+x)=λm=>xs[i+m]?:=rfl;rw[a]at this;rw[this]
theorem getItem_tuple_cut{d e:Addr}{items:Array Value}{f i:Value}{a hi:Option Int}{Q:VP}(b:IsTup s.heap d items)(g:s.heap.IsSliceOf e f i .none)(pl:IsPart f a)(n:IsPart i hi)
  (l:¬ (sIx items.size 0 a=0/\sIx items.size items.size hi=items.size))
  (h:Q (.ref s.heap.objs.size) {s with heap:=s.heap.push {cls:=.type "tuple",data:=.seq ((items.toList.drop (sIx items.size 0 a)).take (sIx items.size items.size hi-sIx items.size 0 a)).toArray}})
  (hsz:items.size<=sizeLine):wpAny (model prog w) A (getItem (.ref d) (.ref e)) Q E s:=by
 have c:sizeOk (.seq ((items.toList.drop (sIx items.size 0 a)).take (sIx items.size items.size hi-sIx items.size 0 a)).toArray):=by
  show((items.toList.drop (sIx items.size 0 a)).take (sIx items.size items.size hi-sIx items.size 0 a)).toArray.size<=sizeLine;rw[zT,wP,rV,vM];omega
 have v:sIx items.size items.size hi<=items.size:=Le _ _ (zF _) hi;obtain⟨p,j,o,r⟩:=id g;have k:s.TypeIs (.ref e) "slice" := ⟨p,j,o⟩;unfold getItem
 try with_reducible refine yL ?_
 first|refine zA (zB ?_)|skip
 refine zA (wpAny_sequenceKey b.typeIs ∅ ?_);refine zA (xO (name:=Str.ofString "__getitem__") b.typeIs PyProof.Rows.slot_tuple_getitem
  (xL PyProof.Rows.slot_tuple_getitem b.typeIs entry_tuple_getitem ?_ (args_tuple_getitem _ _)))
 show wpAny _ _ (Builtin.Tuple.tupleItemsOf (.ref d) >>= _) _ _ s;refine zA (tupleItemsOf_ b ?_);refine zA (uB k ?_);rw[zG ∅];refine zA (Lb g pl n ?_);have m:¬ ((((sIx items.size 0 a:Nat):Int) == 0 && (1:Int) == 1 && (sIx items.size items.size hi-sIx items.size 0 a) == items.size)=true):=by
  intro q;rw[zO,zO]at q;have t:((sIx items.size 0 a:Nat):Int)=0:=eq_of_beq q.1.1;have u:sIx items.size items.size hi-sIx items.size 0 a=items.size:=eq_of_beq q.2;exact l ⟨⋯,⋯⟩
 show wpAny _ _ (if(((sIx items.size 0 a:Nat):Int) == 0 && (1:Int) == 1 && (sIx items.size items.size hi-sIx items.size 0 a) == items.size)=true then _ else _) _ _ s;rw[zE m,La]
 first
  |exact zA (m:=Builtin.Tuple.tupleExact _) (xA (zB ⟨_,rfl,zB h⟩) c)
  |exact zA (m:=Builtin.Tuple.tupleExact _) (xA (zA (zB (zB ⟨_,rfl,zB h⟩))) c)
  |exact zA (zA (m:=Builtin.Tuple.tupleExact _) (xA (zB (zB ⟨_,rfl,zB h⟩)) c))
  |exact zA (zA (m:=Builtin.Tuple.tupleExact _) (xA (zB ⟨_,rfl,zB h⟩) c))
end
end HT
namespace L2
open PySem PySem.Spec PyProof.Rows
open PySem.W (Frag)
abbrev TO:=St->Hp->(Option Int->Hp->Prop)->Prop
def PO(X:Cx)(e:Option Expr)(t:TO):Prop:=
 ∀(pins:PN)(s:Shared)(σ:St)(H:Hp)(Q:Option Int->Hp->Prop),Inv X pins σ H s->t σ H Q ->
  wpAny (model X.prog X.w) X.A (evalPart e X.env) (λu s'=>∃o H',Inv X pins σ H' s'/\IsPart u o/\Q o H') X.xe s
def aE:TO:=λ_ H Q=>Q none H
def aF(t:TE):TO:=λσ H Q=>t σ H λx H1=>∃i,x=.int i/\Q (some i) H1
section
variable {X:Cx} {e:Expr} {te:TE} {lo hi:Option Expr} {tl th:TO} {pos p2:Pos}
theorem Do:PO X none aE:=by
 intro b s a H Q I h;rw[evalPart_none];exact zB ⟨none,H,I,.none,h⟩
theorem Dm(h:PE X e te):PO X (some e) (aF te):=by
 intro c s d H Q I j;rw[evalPart_some];refine thn (h c s d H _ I j) ?_;rintro u l ⟨x,g,k,a,b⟩;obtain⟨i,rfl,q⟩:=b;obtain⟨f,rfl⟩:=a;exact⟨some i,g,k,.int i f,q⟩
def SlR(X:Cx)(r:V->Option Int->Option Int->Hp->VK->Prop):Prop:=
 ∀(pins:PN)(s:Shared)(σ:St)(H:Hp)(x:V)(v vl vu:Value)(lo hi:Option Int)(sl:Addr)(Q:VK),Inv X pins σ H s->RelV x v->s.heap.IsSliceOf sl vl vu .none->IsPart vl lo->IsPart vu hi->r x lo hi H Q ->
  ∃T id,typeLookup (.type T) "__getitem__"=pure (some (.builtin id))/\s.TypeIs v T/\wpAny (model X.prog X.w) X.A (getItem v (.ref sl)) (EP X pins σ Q) X.xe s
def tSl(r:V->Option Int->Option Int->Hp->VK->Prop)(te:TE)(tl th:TO):TE:=λσ H Q=>te σ H λx H1=>tl σ H1 λl H2=>th σ H2 λu H3=>r x l u H3 Q
theorem Dl{r:V->Option Int->Option Int->Hp->VK->Prop}(hr:SlR X r)(z:PE X e te)(hl:PO X lo tl)(F:PO X hi th):PE X (.Subscript e (.Slice lo hi none p2) pos) (tSl r te tl th):=by
 intro c s d H Q I h;refine Subscript_ (thn (z c s d H _ I h) ?_);rintro v G ⟨x,C,n,M,t⟩;refine wpAny_Slice (thn (hl c G d C _ n t) λf L⟨l,j,m,pl,y⟩=>thn (F c L d j _ m y) ?_);rintro g a ⟨u,i,p,D,k⟩;rw[evalPart_none];refine zB ?_;have o:Inv X c d i {a with heap:=a.heap.push {cls:=.type "slice",data:=.fields #[f,g,.none]}}:=p.kept (t':=a.toks) λb N q=>zC _ q;obtain⟨T,id,J,w,K⟩:=hr c {a with heap:=a.heap.push {cls:=.type "slice",data:=.fields #[f,g,.none]}} d i x v f g l u a.heap.objs.size Q o M (Heap.IsSliceOf.new ..) pl D k;show wpAny (model X.prog X.w) X.A (subscriptTail e (.Slice lo hi none p2) v (.ref a.heap.objs.size)) (EP X c d Q) X.xe {a with heap:=a.heap.push {cls:=.type "slice",data:=.fields #[f,g,.none]}};exact tail_any (ops:=[.ref a.heap.objs.size,v]) w J K (by with_unfolding_all rfl)
def cutV(xs:List V)(lo hi:Option Int):List V:=(xs.drop (HT.sIx xs.length 0 lo)).take (HT.sIx xs.length xs.length hi-HT.sIx xs.length 0 lo)
theorem Dk(xs:List V)(lo hi:Option Int):(cutV xs lo hi).length<=xs.length:=by
 unfold cutV;rw[wP,rV];omega
def rSlT(K:Frag):V->Option Int->Option Int->Hp->VK->Prop:=λx lo hi H Q=>∃a xs,x=.ref a/\SqT K H a xs /\
 ¬ (HT.sIx xs.length 0 lo=0/\HT.sIx xs.length xs.length hi=xs.length)/\∀p,H p=none->Q (.ref p) (upd H p (.tup (cutV xs lo hi)))
theorem Mz:SlR X (rSlT X.K):=by
 intro m s n H x v o p lo hi u Q I j i pl g h;obtain⟨a,xs,rfl,k,l,q⟩:=h;cases j;obtain⟨its,r,d,f⟩:=I.tuple k;have c:its.toArray.size=xs.length:=by rw[zT];exact r.length.symm
 refine⟨"tuple",_,PyProof.Rows.slot_tuple_getitem.lookup,d.typeIs,?_⟩;refine HT.getItem_tuple_cut d i pl g (by rw[c];exact l) ?_ (by rw[c];exact f);rw[c];refine⟨.ref s.heap.objs.size,_,I.laid (t':=s.toks) (o:=.tup (cutV xs lo hi)) (λb t q=>zC _ q) (zF _) ?_,rfl,q _ (I.hok.fresh (zF _))⟩;exact⟨zR (Dk xs lo hi) f,_,(r.drop (HT.sIx xs.length 0 lo)).take (HT.sIx xs.length xs.length hi-HT.sIx xs.length 0 lo),IsTup.new _ _⟩
end
def ixN(n:Nat)(i:Int):Option Nat:=if 0<=i then(if i<n then some i.toNat else none) else if -(n:Int)<=i then some (i+n).toNat else none
def atI{α:Type}(xs:List α)(i:Int):Option α:=(ixN xs.length i).bind λj=>xs[j]?
theorem Dj{n:Nat}{i:Int}{j:Nat}(h:ixN n i=some j):seqIndex? i n=some j/\j<n/\-(n:Int)<=i/\i<n:=by
 unfold ixN at h
 by_cases b:0<=i
 ·rw[zG b]at h
  by_cases a:i<n
  ·rw[zG a]at h;have e:i.toNat=j:=zP h;exact⟨by rw[seqIndex_of b a,e],⋯,⋯,a⟩
  ·rw[zE a]at h;cases h
 ·rw[zE b]at h
  by_cases a:-(n:Int)<=i
  ·rw[zG a]at h;have e:(i+n).toNat=j:=zP h;exact⟨by rw[qN ⋯ a,e],⋯,a,⋯⟩
  ·rw[zE a]at h;cases h
theorem Di{a:Type}{xs:List a}{i:Int}{v:a}(h:atI xs i=some v):∃j,seqIndex? i xs.length=some j/\xs[j]?=some v/\j<xs.length/\-(xs.length:Int)<=i/\i<xs.length:=by
 unfold atI at h;cases e:ixN xs.length i with
 |none=>rw[e]at h;cases h
 |some j =>
  rw[e]at h;obtain⟨b,f,d,c⟩:=Dj e;exact⟨j,b,h,f,d,c⟩
theorem My{a:Type}{xs:List a}{j:Nat}{v:a}(h:xs[j]?=some v):atI xs (j:Int)=some v:=by
 have b:j<xs.length:=(pB.mp h).1;have e:ixN xs.length (j:Int)=some j:=by
  unfold ixN;rw[zG ⋯,zG ⋯];simp
 unfold atI;rw[e];exact h
def Mx(b:Expr):Prop:=∀o i,subscripted b false o i=operate [o,i] (getItem o i)
def IxR(X:Cx)(r:R2):Prop:=
 ∀(value slice:Expr)(pins:PN)(s:Shared)(σ:St)(H:Hp)(x y:V)(v u:Value)(Q:VK),Inv X pins σ H s->RelV x v->RelV y u->r x y H Q ->
  subscripted slice false v u=operate [v,u] (getItem v u)->wpAny (model X.prog X.w) X.A (subscriptTail value slice v u) (EP X pins σ Q) X.xe s
def MtR(X:Cx)(id:String)(r:V->List V->Hp->VK->Prop):Prop:=
 ∀(pins:PN)(s:Shared)(σ:St)(H:Hp)(x:V)(xs:List V)(v:Value)(us:LW)(Q:VK),Inv X pins σ H s->RelV x v->Vals xs us->r x xs H Q ->
  wpAny (model X.prog X.w) X.A (call (.builtin id) (v:: us)) (EP X pins σ Q) X.xe s
section
variable {X:Cx} {a b:Expr} {ta tb:TE} {pos:Pos}
theorem nN{r:R2}(hr:IxR X r)(f:PE X a ta)(k:PE X b tb)(g:Mx b):PE X (.Subscript a b pos) (tOp r ta tb):=by
 intro c s d H Q I h;exact Subscript_ (binT f k I h λv u j x y i l e m q=>hr a b c j d i x y v u Q l e m q (g _ _))
def rIxL(K:Frag):R2:=λx y H Q=>∃p xs i v,x=.ref p/\y=.int i/\SqL K H p xs/\atI xs i=some v/\Q v H
def rIxT(K:Frag):R2:=λx y H Q=>∃p xs i v,x=.ref p/\y=.int i/\SqT K H p xs/\atI xs i=some v/\Q v H
theorem Mw:IxR X (rIxL X.K):=by
 intro O P e s f H x y v u Q I D J h l;obtain⟨p,xs,i,z,rfl,rfl,G,C,q⟩:=h;cases D;obtain⟨M,rfl⟩:=J;obtain⟨its,r,pl,N⟩:=I.list G;obtain⟨j,c,t,K,n,F⟩:=Di C;obtain⟨w,m,o⟩:=r.get t;have hl:=r.length;have L:=dD;have k:EP X e f Q w s:=⟨z,H,I,o,q⟩
 by_cases g:0<=i
 ·have d:i.toNat=j:=by
   rw[seqIndex_of g F]at c;exact zP c
  exact item_listR pl.isList g ⋯ (by rw[d];simpa using m) k l
 ·have d:(i+(its.toArray.size:Int)).toNat=j:=by
   rw[qN ⋯ n]at c;rw[zT,←hl];exact zP c
  exact tO (x:=w) pl.isList.typeIs slot_list_getitem.lookup
   (wpAny_getItem_list_neg (Q:=λr s'=>r=w/\EP X e f Q r s') pl.isList ⋯ (by rw[zT] <;> omega) ⋯ (by rw[d];simpa using m) ⟨rfl,k⟩) l
theorem Mv:IxR X (rIxT X.K):=by
 intro M N c s d H x y v u Q I l C h o;obtain⟨p,xs,i,z,rfl,rfl,m,k,q⟩:=h;cases l;obtain⟨J,rfl⟩:=C;obtain⟨its,r,pl,L⟩:=I.tuple m;obtain⟨j,n,g,F,D,K⟩:=Di k;obtain⟨w,t,f⟩:=r.get g;have hl:=r.length;have G:=dD;have e:EP X c d Q w s:=⟨z,H,I,f,q⟩;exact tO (x:=w) pl.typeIs slot_tuple_getitem.lookup
  (getItem_tuple (j:=j) (Q:=λr s'=>r=w/\EP X c d Q r s') pl ⋯ ⋯ (by rw[zT,←hl];exact n) (by simpa using t) ⟨rfl,e⟩) o
theorem Mu(its:LW)(n j:Nat)(u:Value):Obj.mapSeq (·.setIfInBounds j u) {cls:=.type "list",data:=.seq its.toArray n}={cls:=.type "list",data:=.seq (its.set j u).toArray n}:=by
 simp[Obj.mapSeq]
theorem Inv.lst{d:PN}{c:St}{H:Hp}{s:Shared}{p:Addr}{xs:List V}(I:Inv X d c H s)(h:H p=some (.lst xs)):
  ∃(its:LW)(n:Nat),Vals xs its/\s.heap.get? p=some {cls:=.type "list",data:=.seq its.toArray n}/\xs.length<=sizeLine:=by
 obtain⟨z,its,n,r,e⟩:=I.hok p _ h;exact⟨its,n,r,e,z⟩
theorem Inv.lstUpd{d:PN}{g:St}{H:Hp}{s:Shared}{p:Addr}{xs ys:List V}{its its':LW}{n c:Nat}{f:Obj->Obj}(I:Inv X d g H s)(h:H p=some (.lst xs))
  (k:s.heap.get? p=some {cls:=.type "list",data:=.seq its.toArray n})(i:f {cls:=.type "list",data:=.seq its.toArray n}={cls:=.type "list",data:=.seq its'.toArray c})(r:Vals ys its')(j:ys.length<=sizeLine)(m:Nat):
  Inv X d g (upd H p (.lst ys)) {s with heap:=s.heap.update p f,toks:=m}:=by
 have e:(s.heap.update p f).get? p=some {cls:=.type "list",data:=.seq its'.toArray c}:=by
  rw[yT f k (by rw[i] <;> rfl),i]
 refine I.write (x:=p) (e:=p) (by rw[h];trivial) (.inl rfl) (λb u l q=>(xB _ _ (zS l)).trans q) ⟨_,e⟩ ?_;exact⟨j,its',c,r,e⟩
def fQ:V->V->V->Hp->(Hp->Prop)->Prop:=λo i v H Q=>∃p xs k j,o=.ref p/\i=.int k/\H p=some (.lst xs)/\ixN xs.length k=some j/\Q (upd H p (.lst (xs.set j v)))
theorem dH:PSet X fQ:=by
 intro w s x H o i v ov L u Q I z F y h;obtain⟨p,xs,k,j,rfl,rfl,t,C,q⟩:=h;cases z;obtain⟨K,rfl⟩:=F;obtain⟨its,n,r,e,D⟩:=I.lst t;obtain⟨c,J,l,f⟩:=Dj C;have hl:=r.length;have G:=dD;have m:Inv X w x (upd H p (.lst (xs.set j v))) {s with heap:=s.heap.update p (Obj.mapSeq (·.setIfInBounds j u))}:=
  I.lstUpd t e (Mu its n j u) (r.set y j) (by rw[uU];exact D) s.toks
 by_cases g:0<=k
 ·have d:k.toNat=j:=by
   rw[seqIndex_of g f]at c;exact zP c
  exact PySem.W.ki_setAt e g ⋯ (by rw[zT,←hl];exact f) (by rw[d];exact⟨_,m,q⟩)
 ·have d:(k+(its.toArray.size:Int)).toNat=j:=by
   rw[qN ⋯ l]at c;rw[zT,←hl];exact zP c
  exact PySem.W.ki_setBack e ⋯ (by rw[zT,←hl];exact l) ⋯ (by rw[d];exact⟨_,m,q⟩)
theorem Mt(c hi:Option Int)(n:Nat):(sliceBounds c hi none n).1=((HT.sIx n 0 c:Nat):Int)/\(sliceBounds c hi none n).2.1=((HT.sIx n n hi:Nat):Int)/\(sliceBounds c hi none n).2.2=1:=by
 refine⟨?_,?_,rfl⟩
 ·cases c with
  |none=>simp[sliceBounds,HT.sIx]
  |some i =>
   simp only[sliceBounds,HT.sIx,Option.getD_none,show(1:Int) > 0 by decide,if_true]
   by_cases h:i<0
   ·simp only[h,if_true] <;> omega
   ·simp only[h,if_false] <;> omega
 ·cases hi with
  |none=>simp[sliceBounds,HT.sIx]
  |some i =>
   simp only[sliceBounds,HT.sIx,Option.getD_none,show(1:Int) > 0 by decide,if_true]
   by_cases h:i<0
   ·simp only[h,if_true] <;> omega
   ·simp only[h,if_false] <;> omega
theorem Mr(its:LW)(c hi:Option Int):slicePick its.toArray c hi none=((its.drop (HT.sIx its.length 0 c)).take (HT.sIx its.length its.length hi-HT.sIx its.length 0 c)).toArray:=by
 obtain⟨d,f,e⟩:=Mt c hi its.toArray.size;unfold slicePick;rw[d,f,e];simp only[sliceRange_one,pick_run,List.size_toArray] <;> rfl
def rSlL(K:Frag):V->Option Int->Option Int->Hp->VK->Prop:=λx lo hi H Q=>∃a xs,x=.ref a/\SqL K H a xs/\∀p,H p=none->Q (.ref p) (upd H p (.lst (cutV xs lo hi)))
theorem Mq:SlR X (rSlL X.K):=by
 intro l s m H x v n o c hi t Q I j g pl f h;obtain⟨a,xs,rfl,k,q⟩:=h;cases j;obtain⟨its,r,d,i⟩:=I.list k;have e:=r.length;refine⟨"list",_,slot_list_getitem.lookup,d.isList.typeIs,?_⟩;refine wpAny_getItem_list_slice d.isList g pl f .none (by simp) ?_ (by rw[List.size_toArray] <;> omega);rw[Mr,←e];refine⟨.ref s.heap.objs.size,_,I.laid (t':=s.toks) (o:=.lst (cutV xs c hi)) (λb p q=>zC _ q) (zF _) ?_,rfl,q _ (I.hok.fresh (zF _))⟩;exact⟨zR (Dk xs c hi) i,_,0,(r.drop (HT.sIx xs.length 0 c)).take (HT.sIx xs.length xs.length hi-HT.sIx xs.length 0 c),zN _ rfl⟩
def jX:V->Bool
 |.non=>true
 |.bl _=>true
 |.int _=>true
 |.str _=>true
 |_=>false
def eqV:V->V->Bool
 |.non,.non=>true
 |.bl a,.bl b=>a == b
 |.bl a,.int b=>(if a then 1 else 0) == b
 |.int a,.bl b=>a == (if b then 1 else 0)
 |.int a,.int b=>a == b
 |.str a,.str b=>a == b
 |_,_=>false
theorem Mp{A:Around}{s:Shared}{y x:V}{u v:Value}(f:RelV y u)(c:RelV x v)(g:jX y=true)(e:jX x=true):SeqAt.EqAt A s u v (eqV y x):=by
 cases y with
 |non =>
  cases f;cases x with
  |non=>cases c;exact SeqAt.EqAt.same _
  |bl b=>cases c;exact SeqAt.EqAt.none_bool b
  |int b=>obtain⟨d,rfl⟩:=c;exact SeqAt.EqAt.none_int b d
  |str b=>obtain⟨d,rfl⟩:=c;exact SeqAt.EqAt.none_str b d
  |_=>exact absurd (show false=true from e) zZ
 |bl a =>
  cases f;cases x with
  |non=>cases c;exact SeqAt.EqAt.bool_none a
  |bl b=>cases c;exact SeqAt.EqAt.bool_bool a b
  |int b=>obtain⟨d,rfl⟩:=c;exact SeqAt.EqAt.bool_int a b d
  |str b=>obtain⟨d,rfl⟩:=c;exact SeqAt.EqAt.bool_str a b d
  |_=>exact absurd (show false=true from e) zZ
 |int a =>
  obtain⟨t',rfl⟩:=f;cases x with
  |non=>cases c;exact SeqAt.EqAt.int_none a t'
  |bl b=>cases c;exact SeqAt.EqAt.int_bool a t' b
  |int b=>obtain⟨d,rfl⟩:=c;exact SeqAt.EqAt.int_int a t' b d
  |str b=>obtain⟨d,rfl⟩:=c;exact SeqAt.EqAt.int_str a t' b d
  |_=>exact absurd (show false=true from e) zZ
 |str a =>
  obtain⟨t',rfl⟩:=f;cases x with
  |non=>cases c;exact SeqAt.EqAt.str_none a t'
  |bl b=>cases c;exact SeqAt.EqAt.str_bool a t' b
  |int b=>obtain⟨d,rfl⟩:=c;exact SeqAt.EqAt.str_int a t' b d
  |str b=>obtain⟨d,rfl⟩:=c;exact SeqAt.EqAt.str_str a t' b d
  |_=>exact absurd (show false=true from e) zZ
 |_=>exact absurd (show false=true from g) zZ
def eqU(x:V)(u:Value):Bool:=match u with
 |.none=>eqV .non x
 |.bool b=>eqV (.bl b) x
 |.int i _=>eqV (.int i) x
 |.str z _=>eqV (.str z) x
 |_=>false
theorem Dh{x y:V}{u:Value}(r:RelV y u)(f:jX y=true):eqU x u=eqV y x:=by
 cases y with
 |non=>cases r;rfl
 |bl b=>cases r;rfl
 |int i=>obtain⟨t,rfl⟩:=r;rfl
 |str z=>obtain⟨t,rfl⟩:=r;rfl
 |_=>exact absurd (show false=true from f) zZ
theorem aG{x:V}:∀{xs:List V}{us:LW},Vals xs us->xs.all jX=true->us.any (eqU x)=xs.any λy=>eqV y x
 |_,_,.nil,_=>rfl
 |y:: xs,u:: us,.cons r t,f=>by
  rw[yZ,zO]at f;rw[uM,uM,Dh r f.1,aG t f.2]
theorem aH{A:Around}{s:Shared}{x:V}{v:Value}(d:RelV x v)(e:jX x=true):∀{xs:List V}{us:LW},Vals xs us->xs.all jX=true->∀u∈us,SeqAt.EqAt A s u v (eqU x u)
 |_,_,.nil,_=>λu c=>by cases c
 |y:: xs,u:: us,.cons r i,f=>λg c=>by
  rw[yZ,zO]at f;rcases yQ.mp c with rfl|c
  ·rw[Dh r f.1];exact Mp r d f.1 e
  ·exact aH d e i f.2 g c
def inV(x:V)(xs:List V):Bool:=xs.any λy=>eqV y x
def rIn(K:Frag)(neg:Bool):R2:=λx y H Q=>∃p xs,y=.ref p/\(SqL K H p xs\/SqT K H p xs)/\jX x=true/\xs.all jX=true/\Q (.bl (if neg then !inV x xs else inV x xs)) H
theorem dI:OpR X (compareOp .NotIn) (rIn X.K true):=by
 intro j s k H x y v u Q I e i h;obtain⟨p,xs,rfl,c,f,fs,q⟩:=h;cases i;rcases c with c|c
 ·obtain⟨its,r,pl,g⟩:=I.list c;refine SeqAt.notIn_listAt (eqU x) pl.isList (λw d=>aH e f r fs w (by simpa using d)) ⟨.bl _,H,I,rfl,?_⟩;rw[show its.toArray.any (eqU x)=its.any (eqU x) by simp,aG r fs];exact q
 ·obtain⟨its,r,pl,g⟩:=I.tuple c;refine SeqAt.notIn_tupleAt (eqU x) pl (λw d=>aH e f r fs w (by simpa using d)) ⟨.bl _,H,I,rfl,?_⟩;rw[show its.toArray.any (eqU x)=its.any (eqU x) by simp,aG r fs];exact q
theorem Mo:mI X (.builtin "len") (λxs H Q=>∃p ys,xs=[.ref p]/\(SqL X.K H p ys\/SqT X.K H p ys)/\Q (.int ys.length) H):=by
 intro i s j H xs us Q I r h;obtain⟨p,ys,rfl,c,q⟩:=h;obtain⟨u,rfl,g⟩:=kZ r;cases g;have k:=dD;rcases c with c|c
 ·obtain⟨its,d,pl,f⟩:=I.list c;have e:=d.length;exact Calls.call_len_list pl.isList (by simp only[List.size_toArray] <;> omega) ⟨.int ys.length,H,I.tok _,⟨s.toks+1,by rw[zT,e]⟩,q⟩
 ·obtain⟨its,d,pl,f⟩:=I.tuple c;have e:=d.length;exact len_tuple pl (by simp only[List.size_toArray] <;> omega) ⟨.int ys.length,H,I.tok _,⟨s.toks+1,by rw[zT,e]⟩,q⟩
theorem Mn:mI X (.type "list") (λxs H Q=>∃p ys,xs=[.ref p]/\(SqL X.K H p ys\/SqT X.K H p ys)/\∀l,H l=none->Q (.ref l) (upd H l (.lst ys))):=by
 intro w s x H xs us Q I r h;obtain⟨p,ys,rfl,g,q⟩:=h;obtain⟨u,rfl,y⟩:=kZ r;cases y;have v:∀(its:LW),Vals ys its->ys.length<=sizeLine->∀(h':Heap)(c:Nat),(∀b t,s.heap.get? b=some t->h'.get? b=some t) ->
   h'.get? s.heap.objs.size=some {cls:=.type "list",dict:=none,data:=.seq its.toArray c,slots:=#[]}->EP X w x Q (.ref s.heap.objs.size) {s with heap:=h'}:=λits d f h' c i e =>
  ⟨.ref s.heap.objs.size,_,I.laid (t':=s.toks) i (zF _) (show oK X.prog X.w _ h' _ (.lst ys) from⟨f,its,c,d,e⟩),rfl,q _ (I.hok.fresh (zF _))⟩
 rcases g with g|g
 ·obtain⟨its,d,pl,f⟩:=I.list g;have z:=d.length;obtain⟨o,m,k,n,j⟩:=pl.isList;exact call_list_seq p (.inl rfl) m k j (λh' c i e=>v its d f h' c i e) (by simp only[List.size_toArray] <;> omega)
 ·obtain⟨its,d,pl,f⟩:=I.tuple g;have z:=d.length;obtain⟨o,m,k,n,j⟩:=pl;exact call_list_seq p (.inr rfl) m k j (λh' c i e=>v its d f h' c i e) (by simp only[List.size_toArray] <;> omega)
theorem Mm:mI X (.type "tuple") (λxs H Q=>∃p ys,xs=[.ref p]/\((SqL X.K H p ys/\∀l,H l=none->Q (.ref l) (upd H l (.tup ys)))\/(SqT X.K H p ys/\Q (.ref p) H))):=by
 intro f s g H xs us Q I r h;obtain⟨p,ys,rfl,h⟩:=h;obtain⟨u,rfl,k⟩:=kZ r;cases k;rcases h with⟨d,q⟩|⟨d,q⟩
 ·obtain⟨its,c,pl,i⟩:=I.list d;have t:=c.length;refine call_tuple_list pl.isList (λh' n=>?_) (by simp only[List.size_toArray] <;> omega);have j:Inv X f g H {s with heap:=h'}:=I.kept (t':=s.toks) n;have m:Inv X f g (upd H h'.objs.size (.tup ys)) {s with heap:=h'.push {cls:=.type "tuple",data:=.seq its.toArray}}:=
   j.laid (t':=s.toks) (λb o e=>zC _ e) (zF _) (show oK X.prog X.w _ _ _ (.tup ys) from⟨i,its,c,IsTup.new _ _⟩)
  exact⟨.ref h'.objs.size,_,m,rfl,q _ (j.hok.fresh (zF _))⟩
 ·obtain⟨its,c,pl,i⟩:=I.tuple d;exact call_tuple_same pl ⟨.ref p,H,I,rfl,q⟩
def tyV(K:Frag)(T:String)(x:V)(H:Hp):Prop:=match x with
 |.str _=>T="str"
 |.int _=>T="int"
 | .ref p=>(T="list" /\ ∃xs,SqL K H p xs)\/(T="tuple" /\ ∃o,K.lookup p=some o/\o.cls=.type "tuple" /\ o.dict=none) \/
   (T="dict" /\ ((∃kvs,H p=some (.dK kvs))\/∃kvs,H p=some (.dT kvs)))\/(T="set" /\ ∃S n,H p=some (.set S n))
 |_=>False
theorem Ml{m:PN}{q:St}{H:Hp}{s:Shared}{T:String}{x:V}{v:Value}(I:Inv X m q H s)(r:RelV x v)(ty:tyV X.K T x H):
  s.TypeIs v T/\∀a,v=.ref a->∃l,s.heap.get? a=some l/\l.dict=none:=by
 cases x with
 |str z =>
  obtain⟨k,rfl⟩:=r;cases(show T="str" from ty);exact⟨typeIs_str s z k,λ_ e=>nomatch e⟩
 |int i =>
  obtain⟨k,rfl⟩:=r;cases(show T="int" from ty);exact⟨typeIs_int s i k,λ_ e=>nomatch e⟩
 | ref p =>
  cases r;rcases ty with⟨rfl,xs,u⟩|⟨rfl,o,d,t,j⟩|⟨rfl,d⟩|⟨rfl,w,n,d⟩
  ·obtain⟨its,_,pl,_⟩:=I.list u;refine⟨pl.isList.typeIs,λa e=>?_⟩;cases e;obtain⟨o,n,e,c,j,_⟩:=pl;exact⟨o,e,j⟩
  ·refine⟨⟨o,I.kIn p o d,t⟩,λa e=>?_⟩;cases e;exact⟨o,I.kIn _ o d,j⟩
  ·have z:∃o,s.heap.get? p=some o/\o.ExactDict:=by
    rcases d with⟨kvs,d⟩|⟨kvs,d⟩
    ·obtain⟨_,_,_,_,o,_,_,e,f,_⟩:=I.hok p _ d;exact⟨o,e,f⟩
    ·obtain⟨_,_,_,_,o,_,_,e,f,_⟩:=I.hok p _ d;exact⟨o,e,f⟩
   obtain⟨o,e,f⟩:=z;refine⟨⟨o,e,f.1⟩,λa g=>?_⟩;cases g;exact⟨o,e,f.2.1⟩
  ·obtain⟨o,_,_,_,e,f,_⟩:=I.hok p _ d;refine⟨⟨o,e,f.1⟩,λa g=>?_⟩;cases g;exact⟨o,e,f.2.1⟩
 |_=>exact False.elim ty
def tBM0(K:Frag)(T:String)(r:V->List V->Hp->VK->Prop)(to:TE):TE:=λσ H Q=>to σ H λx H1=>tyV K T x H1/\r x [] H1 Q
def tBM(K:Frag)(T:String)(r:V->List V->Hp->VK->Prop)(to:TE)(t:TA):TE:=λσ H Q=>to σ H λx H1=>tyV K T x H1/\t σ H1 λxs H2=>r x xs H2 Q
variable {o e:Expr} {es:List Expr} {to:TE} {t:TA} {name:Str} {apos cpos:Pos} {T id:String} {r:V->List V->Hp->VK->Prop}
theorem dJ(j:PlainAttrs T)(y:Slot T name id)(l:typeOf (.builtin id)=pure (.type "method_descriptor"))(C:MtR X id r)(F:PE X o to)(q:PA X (e:: es) t)
  (D:attributeBase o name X.env (eval o X.env)=eval o X.env:=by rfl)
  (O:((backTo cpos (starEach (e:: es) X.env)).all (λx=>!x.1) && (backToKw cpos (keywordEach [] X.env)).all (λx=>x.1.isSome)
   && decide ((e:: es).length+([]:List Keyword).length+(if([]:List Keyword).isEmpty then 0 else 1)<30))=true:=by rfl)
  (L:(apos.endLine == cpos.line)=true:=by rfl)(M:starEach (e:: es) X.env=(false,eval e X.env):: starEach es X.env:=by rfl)(n:(backTo cpos (starEach es X.env)).any (·.1)=false:=by rfl):
  PE X (.Call (.Attribute o name apos) (e:: es) [] cpos) (tBM X.K T r to t):=by
 intro d s c H Q I h;refine wpAny_Call_method_late D O L rfl (thn (F d s c H _ I h) ?_);rintro v G ⟨x,z,g,i,ty,p⟩;obtain⟨K,u⟩:=Ml g i ty;refine⟨T,id,j,y,l,K,u,?_⟩;have f:=q cpos d G c z _ g p;rw[M]at f ⊢;refine tN (by show(false || (backTo cpos (starEach es X.env)).any (·.1))=false;rw[n] <;> rfl) (wZ ?_);exact thn f λus N⟨vs,k,m,J,w⟩=>C d N c k x vs v us Q m i J w
end
def MtM(X:Cx)(id:String)(r:V->List V->Hp->VK->Prop):Prop:=
 ∀(pins:PN)(s:Shared)(σ:St)(H:Hp)(x:V)(xs:List V)(v:Value)(us:LW)(Q:VK),Inv X pins σ H s->RelV x v->Vals xs us->r x xs H Q ->
  wpAny (model X.prog X.w) X.A (call (.builtin id) (v:: us)) (EP X pins σ Q) X.xe s
theorem Vals.one{x:V}{us:LW}(h:Vals [x] us):∃u,us=[u]/\RelV x u:=by
 cases h with|cons r h=>cases h;exact⟨_,rfl,r⟩
theorem Vals.two{x y:V}{us:LW}(h:Vals [x,y] us):∃u v,us=[u,v]/\RelV x u/\RelV y v:=by
 cases h with|cons r h=>obtain⟨v,rfl,q⟩:=Vals.one h;exact⟨_,_,rfl,r,q⟩
theorem Vals.rep{xs:List V}{us:LW}(h:Vals xs us):∀k:Nat,Vals (List.replicate k xs).flatten (List.replicate k us).flatten
 |0=>.nil
 |k+1=>by
  rw[wO,wO,tL,tL];exact Vals.append h (Vals.rep h k)
theorem Dg(its:LW):∀(k:Nat)(acc:LW),
  List.foldl (λc b=>c++b) acc.toArray (List.replicate k its.toArray)=(acc++(List.replicate k its).flatten).toArray
 |0,acc=>by simp
 | k+1,acc=>by
  have e:acc.toArray++its.toArray=(acc++its).toArray:=by simp
  have a:(acc++its)++(List.replicate k its).flatten=acc++(List.replicate (k+1) its).flatten:=by
   rw[wO,tL,wX]
  rw[←a,←Dg its k (acc++its),←e,wO,wG]
section
variable {X:Cx} {pins:PN} {σ:St} {H:Hp} {s:Shared} {l b:Addr} {xs ys zs:List V}
theorem Inv.lset{its its':LW}{n:Nat}{f:Array Value->Array Value}{t':Nat}(I:Inv X pins σ H s)(c:H l=some (.lst xs))
  (e:s.heap.get? l=some {cls:=.type "list",data:=.seq its.toArray n})(i:f its.toArray=its'.toArray)(d:Vals ys its')(a:ys.length<=sizeLine):
  Inv X pins σ (upd H l (.lst ys)) {s with heap:=s.heap.update l (Obj.mapSeq f),toks:=t'}:=by
 have q:=PySem.IsL.update e f;rw[i]at q;refine I.write (x:=l) (e:=l) (by rw[c];exact trivial) (.inl rfl) (λk u j g=>(xB s.heap (Obj.mapSeq f) (zS j)).trans g) ⟨_,q⟩ ?_;exact⟨a,its',_,d,q⟩
theorem Inv.lnew{its:LW}{t':Nat}(I:Inv X pins σ H s)(a:Vals ys its)(c:ys.length<=sizeLine):
  Inv X pins σ (upd H s.heap.objs.size (.lst ys)) {s with heap:=s.heap.push {cls:=.type "list",data:=.seq its.toArray},toks:=t'}:=
 I.laid (λ_ _ q=>zC _ q) (zF _) ⟨c,its,0,a,zN _ rfl⟩
theorem Inv.fresh(I:Inv X pins σ H s):H s.heap.objs.size=none:=I.hok.fresh (zF _)
theorem Inv.lstM(I:Inv X pins σ H s)(a:H l=some (.lst xs)):xs.length<=sizeLine/\∃(its:LW)(n:Nat),Vals xs its/\xs.length=its.length/\s.heap.get? l=some {cls:=.type "list",data:=.seq its.toArray n}:=by
 obtain⟨z,its,n,r,e⟩:=I.hok l _ a;exact⟨z,its,n,r,r.length,e⟩
theorem Mj{n:Nat}(h:n<=sizeLine):Builtin.List.listTooLong n=false:=by
 unfold Builtin.List.listTooLong;exact zK ⋯
end
section
variable {X:Cx}
def Mi:V->List V->Hp->VK->Prop:=λx vs H Q=>∃l xs y,x=.ref l/\vs=[y]/\H l=some (.lst xs)/\xs.length<sizeLine/\Q .non (upd H l (.lst (xs++[y])))
theorem aI:MtM X "list.append" Mi:=by
 intro f s g H x vs v us Q I d b h;obtain⟨l,xs,y,rfl,rfl,a,i,q⟩:=h;cases d;obtain⟨u,rfl,c⟩:=b.one;obtain⟨z,its,n,r,hl,e⟩:=I.lstM a;refine rN F.slot_list_append ⟨_,e,rfl⟩ F.entry_list_append (F.args_list_append_2 _ _) (PySem.list_append l its.toArray n u (by rw[zT];omega)) ⟨e,?_⟩;refine⟨.non,_,I.lset (its':=its++[u]) a e (by simp) (r.append (.cons c .nil)) ?_,rfl,q⟩;rw[yI,List.length_singleton];omega
def rCat:R2:=λx y H Q=>∃l b xs zs,x=.ref l/\y=.ref b/\H l=some (.lst xs)/\H b=some (.lst zs)/\xs.length+zs.length<=sizeLine/\∀p,H p=none->Q (.ref p) (upd H p (.lst (xs++zs)))
theorem jO:OpR X (binaryOp .Add) rCat:=by
 intro o s p H x y v u Q I j k h;obtain⟨l,b,xs,zs,rfl,rfl,i,f,w,q⟩:=h;cases j;cases k;obtain⟨z,its,n,r,hl,e⟩:=I.lstM i;obtain⟨C,a,m,d,t,c⟩:=I.lstM f;refine PySem.P.add_list e c ?_ (by rw[zT,zT];omega);have g:its.toArray++a.toArray=(its++a).toArray:=by simp
 rw[g];exact⟨.ref _,_,I.lnew (t':=s.toks) (r.append d) (by rw[yI];omega),rfl,q _ I.fresh⟩
def rRep:R2:=λx y H Q=>∃l k xs,x=.ref l/\y=.int k/\H l=some (.lst xs)/\-(2^63)<=k/\k<2^63/\xs.length*k.toNat<=sizeLine /\
 ∀p,H p=none->Q (.ref p) (upd H p (.lst (List.replicate k.toNat xs).flatten))
theorem Mh{b:Type}(xs:List b)(k:Nat):(List.replicate k xs).flatten.length=k*xs.length:=by
 induction k with
 |zero=>simp
 |succ k a=>rw[wO,tL,yI,a,rR,Nat.add_comm]
theorem Mg:OpR X (binaryOp .Mult) rRep:=by
 intro K s L H x y v u Q I C J h;obtain⟨l,k,xs,rfl,rfl,t,g,o,f,q⟩:=h;cases C;obtain⟨b,rfl⟩:=J;obtain⟨z,its,n,r,hl,e⟩:=I.lstM t;have j:its.toArray.size*k.toNat<=sizeLine:=by rw[zT,←hl];exact f
 have i:¬ its.toArray.size*k.toNat > (2^63-1)/8:=by
  have:(sizeLine:Nat)<=(2^63-1)/8:=∅
  omega
 have G:¬ (!Builtin.List.listFitsIndex k)=true:=by
  rw[fitsIndex_both g o];exact zZ
 have p:¬ Builtin.List.listTooLong (its.toArray.size*k.toNat)=true:=by
  rw[Mj j];exact zZ
 have D:List.foldl (λc d=>c++d) #[] (List.replicate (if its.toArray.isEmpty=true then 0 else k.toNat) its.toArray)=(List.replicate k.toNat its).flatten.toArray:=by
  have w:∀m:Nat,List.foldl (λc d=>c++d) #[] (List.replicate m its.toArray)=(List.replicate m its).flatten.toArray:=λm=>by
   have:=Dg its m [];rw[List.nil_append]at this;exact this
  rw[w];cases its with
  |nil=>simp
  |cons a M=>rw[zE (by simp)]
 refine wpAny_binaryOp_repeat_ref (T:= "list") (U:= "int") ∅ ⟨_,e,rfl⟩ (λs'=>typeIs_int s' k b) noFill_list_mul F.fills_int_mul F.slot_int_rmul repeat_list F.slot_int_index.lookup
  (rN F.slot_int_rmul (typeIs_int s k b) F.entry_int_rmul (F.args_int_rmul_2 _ _) (int___rmul___int_list k b l its.toArray n)
   ⟨e,rfl,⟨_,e,rfl⟩,rN F.slot_list_mul ⟨_,e,rfl⟩ F.entry_list_mul (F.args_list_mul_2 _ _) (AutoListH.list___mul___list_int_3 l its.toArray n k b G i p) ⟨e,?_⟩⟩)
 rw[D];exact⟨.ref _,_,I.lnew (t':=s.toks) (r.rep k.toNat) (by rw[Mh,rT];exact f),rfl,q _ I.fresh⟩
end
section
variable {prog:Program} {w:World} {A:Around} {E:VP} {s:Shared}
set_option maxRecDepth 100000 in
end
end L2
namespace Att
open PySem PySem.W PySem.Calls PyProof.Rows
theorem Mf{P:Params}{h:Heap}:∀(ns:LI')(vs:LW),WellAll P h vs (ns.map WData.int)->IntsAre vs ns:=by
 intro ns
 induction ns with
 |nil =>
  intro vs w;rw[List.map_nil]at w;cases w;exact .nil
 | cons n ns c =>
  intro vs w;rw[zH]at w;cases w with
  |cons a b =>
   cases a;exact .cons _ _ (c _ b)
theorem Me{l:OpenLaw}{n:Nat}(o:l.most=some n){P:Params}{h:Heap}{args:List WData}{vals:LW}
  (e:l.row.toRowW.claim.pre args=true)(x:WellAll P h vals args):
  ∃a vs ns,vals=[Value.ref a]/\args=[WData.list (ns.map WData.int)]/\h.get? a=some {cls:=.type "list",data:=.seq vs.toArray}/\IntsAre vs ns/\ns.length<=n:=by
 have u:WShape.hasAll [] args [.list .int]=true:=(pre_splitW e).1;have f:l.pre.holds [] {args:=args}=true:=(pre_splitW e).2;obtain⟨d,r,rfl,i,t⟩:=hasAllW_cons u;obtain rfl:=hasAllW_nil t;obtain⟨xs,rfl,m⟩:=hasW_list i;obtain⟨ns,rfl⟩:=items_int m;have k:ns.length<=n:=by
  unfold OpenLaw.pre at f;have b:(WTm.not (.lt (.lit (.int (n:Int))) (.len (.arg 0)))).holds [] {args:=[.list (ns.map .int)]}=true:=by
   have b:=(holds_andW f).1;rw[o]at b;exact b
  have c:=condW_of b (w_not (w_lt w_lit (w_len_list (w_arg rfl))));rw[yN]at c;refine Nat.le_of_not_lt λq=>?_;have p:(n:Int)<((ns.length:Nat):Int):=⋯
  first
   |(rw[zJ p]at c;exact absurd c ∅)
   |(simp at c;omega)
 cases x with
 |cons j g =>
  cases g;cases j with
  |list v w=>exact⟨_,_,ns,rfl,rfl,v,Mf ns _ w,k⟩
theorem Md(l:OpenLaw)(args:List WData):l.row.toRowW.claim.post args (.bool true) args=true:=
 postW_of (r:=l.row.toRowW) (X:=(true == true))
  (show WShape.has [] (.bool true) .bool=true by first|rfl|decide|simp[WShape.has,WShape.arms,WShape.armsAll])
  (show(WTm.eq .res (.lit (.bool true))).value [] {args:=args,res:=some (.bool true),after:=args}=some (.bool (true == true)) from w_eq_bool (w_res rfl) w_lit) rfl
section
variable {prog:Program} {w:World} {A:Around} {E:VP} {s:Shared} {K:Frag}
def t_H(h:Heap)(L d:Addr):PN:=(List.range h.objs.size).filterMap λa=>if a=L\/a=d then none else(h.get? a).map λo=>(a,o)
end
end Att
namespace L2
open PySem PySem.Spec PyProof.Rows
open PySem.W (Frag)
theorem Df:∀{vs:LW}{ns:LI'},IntsAre vs ns->Vals (ns.map V.int) vs
 |_,_,.nil=>.nil
 |_,_,.cons n t h=>.cons ⟨t,rfl⟩ (Df h)
def Only(H:Hp):Prop:=∀b,H b=none\/∃o xs,H b=some (.frz o (.lst xs))
theorem Mc{P:Program}{w:World}{K:Frag}{i p:MT}{R:CXT}{k:Nat}{t a:Addr}{L:FuncData}{x:Str}{I:Sp}{c:Shared}{vs:LW}{ns:LI'}
  (KX:K.In c.heap)(N:c.heap.Ns mainGlobals i)(f:c.heap.Ns builtinsNs p)(W:∀x:Str,x≠"__name__" -> p x=bootBuiltins x)(a0:c.heap.NoLimit)(b6:c.gens=#[])
  (l:c.heap.get? a=some {cls:=.type "list",data:=.seq vs.toArray})(hi:IntsAre vs ns)(hl:ns.length<=sizeLine)(hr:Room k callerA)
  (F:∀base:Heap,K.In base->base.Ns mainGlobals i->FnOk P w K i base R k t L [x] I)(U:∀(s:Shared)(u:Value),BindsTo s L ⟨[u],[]⟩ [(x,u)])
  (a8:∀H:Hp,Only H->SqL K H a (ns.map V.int)->I [.ref a] H (λv _=>v=.bl true) λ_ _ _=>False)
  (a4:∀H e s',R [] H c (λ_ _ _=>False) e s'->False):
  codeAny (model P w) callerA (.call (.ref t) ⟨[.ref a],[]⟩) (λr s'=>r=.ok (.ret (.bool true))/\OldK c.heap s'.heap/\s'.os=c.os/\AllBare s'.gens) c:=by
 have G:=Df hi;have T:=hi.length
 -- from an abstract heap in which nothing but the script may be tracked
 have C:∀H:Hp,Only H->SqL K H a (ns.map V.int)->HOk P w H c.heap->(∀b,H b≠none->b=a)->(H a≠none->K.lookup a=none) ->
   codeAny (model P w) callerA (.call (.ref t) ⟨[.ref a],[]⟩) (λr s'=>r=.ok (.ret (.bool true))/\OldK c.heap s'.heap/\s'.os=c.os/\AllBare s'.gens) c:=by
  intro H O Z J D a2;have S:∀{b:Addr}{o:Obj},c.heap.get? b=some o->H b=none->(hidT c.heap H).get? b=some o:=λe n=>Kj e n;have a1:∀{b:Addr}{o:Obj}{es:Array DictEntry}{ep:Nat},c.heap.get? b=some o->o.data=.dict es ep->H b=none:=λ{b o es ep}e d=>by
   cases q:H b with
   |none=>rfl
   |some u =>
    have y:b=a:=D b (by rw[q];simp);subst y;rw[l]at e;cases e;have d':Data.seq vs.toArray _=Data.dict es ep:=d;cases d'
  have j:∀{b:Addr}{m:MT},c.heap.Ns b m->(hidT c.heap H).Ns b m:=λ{b m}⟨o,es,ep,e,d,r⟩=>⟨o,es,ep,S e (a1 e d),d,r⟩;have M:K.In (hidT c.heap H):=λb o e=>S (KX b o e) (by
   cases q:H b with
   |none=>rfl
   |some u =>
    have y:b=a:=D b (by rw[q];simp);subst y;rw[a2 (by rw[q];simp)]at e;cases e)
  have a7:Mod K i (hidT c.heap H):=⟨M,j N,⟨p,j f,W⟩,let ⟨b2,b5,a3⟩:=a0;⟨b2,j b5,a3⟩⟩;have Y:Env0 P w K i (hidT c.heap H) callerA [] c H:=⟨rfl,a7,λb o e=>Ki e,tY (Kk _ _),trivial,λb f=>absurd (show b∈([]:LA) from f) (by simp),J,.of_eq b6⟩;refine uC ((F _ M (j N)).run callerA [] c H ⟨[.ref a],[]⟩ [.ref a] [.ref a] _ _ hr Y (U c (.ref a)) (.cons rfl .nil) (a8 H O Z)) λr s' h=>?_;cases r with
  |error e=>exact(a4 H e s' h).elim
  | ok fl =>
   cases fl with
   |next=>exact False.elim h
   |brk=>exact False.elim h
   |cont=>exact False.elim h
   | ret u =>
    obtain⟨v,H',b4,a9,un,a5,b1,q⟩:=h;have b0:v=.bl true:=q;subst b0;obtain rfl:u=Value.bool true:=b1;refine⟨rfl,OldK.of_keep λb o e=>?_,b4,a9⟩;cases q:H b with
    |none=>exact un.keep b o e q (by intro z;exact absurd (show b∈([]:LA) from z) (by simp)) (by simp)
    |some u =>
     rcases O b with z|⟨X,xs,z⟩
     ·rw[q]at z;cases z
     ·have b3:=un.frzs b X _ z;obtain⟨e1,_⟩:=J b _ z;obtain⟨a6,_⟩:=a5 b _ b3;rw[e]at e1;cases e1;exact a6
 cases hk:K.lookup a with
 |some o =>
  -- the script is one of the module's own objects
  have e:=KX a o hk;rw[l]at e;cases e;refine C (λ_=>none) (λ_=>.inl rfl) (.inr ⟨_,vs.toArray,_,hk,rfl,rfl,rfl,by rw[zT,T];exact hl,by simpa using G⟩) (λb u z=>by have g:(none:Option HO)=some u:=z;cases g) (λb z=>absurd rfl z) λz=>absurd rfl z
 | none =>
  refine C (λb=>if b=a then some (.frz {cls:=.type "list",data:=.seq vs.toArray} (.lst (ns.map V.int))) else none) (λb=>?_) (.inl (.inr ⟨{cls:=.type "list",data:=.seq vs.toArray},zG rfl⟩)) (λb u z=>?_) (λb z=>?_) λ_=>hk
  ·by_cases f:b=a
   ·exact .inr ⟨_,_,zG f⟩
   ·exact .inl (zE f)
  ·by_cases f:b=a
   ·have g:=(zG f).symm.trans z;cases g;subst f;exact⟨l,by rw[yN];exact hl,vs,_,G,l⟩
   ·have g:=(zE f).symm.trans z;cases g
  ·by_cases f:b=a
   ·exact f
   ·exact absurd (zE f) z
abbrev KOf{K:Frag}{h:Heap}(_:K.In h):Frag:=K
def gL(s:Stmt)(j:Nat):Stmt:=match s with
 |.ClassDef _ _ _ body _ _ _ _ _ _ _=>body.getD j (.Pass ⟨0,0,0,0⟩)
 |_=>.Pass ⟨0,0,0,0⟩
def kL(s:Stmt):Arguments:=match s with
 |.FunctionDef _ a _ _ _ _ _ _ _ _=>a
 |_=>{posonlyargs:=[],args:=[],vararg:=none,kwonlyargs:=[],kw_defaults:=[],kwarg:=none,defaults:=[]}
def nR(s:Stmt):List Stmt:=match s with
 |.FunctionDef _ _ b _ _ _ _ _ _ _=>b
 |_=>[]
def pM(s:Stmt):Scope:=match s with
 |.FunctionDef _ _ _ _ _ _ sc _ _ _=>sc
 |_=>{kind:=.function,names:=[],isGenerator:=false,isCoroutine:=false}
abbrev CX0:CXT:=λ_ _ _ _ _ _=>False
abbrev E0:XK:=λ_ _ _=>False
theorem mZ{X:Cx}:jN CX0 X E0:=λ_ _ _ _ _ _ _ h=>h.elim
structure Fun(K:Frag)(x qual:Str)(st:Stmt)(f:Addr)(fd:FuncData):Prop where
 ex:∃(oc:Value)(od:Option Addr)(kV doc pm:Value)(an:Option Addr)(cdv ct:Value)(osl:Array (Option Value)),
  fd=PySem.W.fnOf x qual (kL st) (nR st) (pM st) .none kV doc pm an cdv ct/\K.lookup f=some ⟨oc,od,.func fd,osl⟩/\PySem.W.codeIn K cdv qual=true
 kp:PySem.W.keepIn K (.ref f)=true
section
variable {P:Program} {w:World} {K:Frag} {mg:MT} {base:Heap}
theorem Fun.ok{x c:Str}{st:Stmt}{f:Addr}{d:FuncData}{N ps:List Str}{k:Nat}{b:Sp}(F:Fun K x c st f d)(j:pX N ps (pM st))(len:∀vs H Q E,b vs H Q E->vs.length=ps.length)
  (g:∀(cdv:Value)(A:Around)(outer:List Env)(s:Shared)(H:Hp)(vs:List V)(Q:VK)(E:XK),Room k (A.deeper (envOfC c (pM st) s.heap.objs.size f cdv))->b vs H Q E ->
   ∃a,PSs (cxOf CX0 P w K mg base N c (pM st) f cdv A outer s H E).nox (nR st) a/\a {nx:=λ_ H'=>Q .non H',rt:=Q} (mY N vs) H):FnOk P w K mg base CX0 (k+1) f d ps b:=by
 obtain⟨t,od,kV,m,r,p,cdv,o,n,rfl,e,l⟩:=F.ex;refine dG e l j len λA outer s H vs Q E hr i=>?_;obtain⟨a,h,q⟩:=g cdv A outer s H vs Q E hr i;exact⟨a,h.nox,q⟩
theorem Fun.binds{x e:Str}{st:Stmt}{f:Addr}{g:FuncData}{ps:List Str}(F:Fun K x e st f g)
  (h:∀(kV a d:Value)(c:Option Addr)(cdv b:Value)(us:LW),us.length=ps.length->bindArgs (PySem.W.fnOf x e (kL st) (nR st) (pM st) .none kV a d c cdv b) ⟨us,[]⟩=pure (ps.zip us)):nD K g ps []:=by
 obtain⟨l,od,kV,a,d,c,cdv,b,j,rfl,i,k⟩:=F.ex;exact .all (h kV a d c cdv b)
theorem fun_mk{x a:Str}{st:Stmt}{f:Addr}{j:Value}{od e:Option Addr}{i:Array (Option Value)}{kV b g cdv d:Value}(l:K.lookup f=some ⟨j,od,.func (PySem.W.fnOf x a (kL st) (nR st) (pM st) .none kV b g e cdv d),i⟩)
  (c:PySem.W.codeIn K cdv a=true)(k:PySem.W.keepIn K (.ref f)=true):Fun K x a st f (PySem.W.fnOf x a (kL st) (nR st) (pM st) .none kV b g e cdv d):=⟨⟨j,od,kV,b,g,e,cdv,d,i,rfl,l,c⟩,k⟩
end
theorem aJ{n:Nat}(h:n<=1000):n<sizeLine:=xN h ∅
section
variable {X:Cx}
theorem pv(i:Nat){x:Str}{a:Pos}(b:X.N[i]?=some x:=by rfl)(d:Vis X.env.scope x:=by first|exact Or.inl rfl|exact Or.inr (Or.inl rfl)|exact Or.inr (Or.inr rfl))(e:(x == ("__debug__" :Str))=false:=by decide)
  (c:(x == ("__classdict__" :Str))=false:=by decide):PE X (.Name x a) (tVar i):=Kg b d e c
end
theorem iteF{A B:Prop}(h:B):if false=true then A else B:=by
 rw[zE zZ];exact h
theorem iteT{A B:Prop}(h:A):if true=true then A else B:=by
 rw[zG rfl];exact h
theorem ite2{c A B:Prop}[Decidable c](a:c->A)(b:¬ c->B):if c then A else B:=by
 by_cases h:c
 ·rw[zG h];exact a h
 ·rw[zE h];exact b h
def Same(H H':Hp):Prop:=∀b o,H b=some o->H' b=some o
theorem Same.refl(H:Hp):Same H H:=λ_ _ h=>h
theorem Same.trans{H e d:Hp}(a:Same H e)(b:Same e d):Same H d:=λc o h=>b c o (a c o h)
theorem Same.seq{K:Frag}{H H':Hp}{a:Addr}{xs:List V}(e:Same H H')(h:SqL K H a xs):SqL K H' a xs:=by
 rcases h with(h|⟨o,h⟩)|h
 ·exact .inl (.inl (e _ _ h))
 ·exact .inl (.inr ⟨o,e _ _ h⟩)
 ·exact .inr h
end L2
set_option maxHeartbeats 4000000
namespace L2
open PySem PySem.Spec PyProof.Rows
open PySem.W (Frag)
inductive E1{T0:Type}(P:T0->Prop):Prop
 |mk (x0:T0):P x0->E1 P
inductive E2{T0 T1:Type}(P:T0->T1->Prop):Prop
 |mk (x0:T0) (x1:T1):P x0 x1->E2 P
inductive E3{T0 T1 T2:Type}(P:T0->T1->T2->Prop):Prop
 |mk (x0:T0) (x1:T1) (x2:T2):P x0 x1 x2->E3 P
inductive E4{T0 T1 T2 T3:Type}(P:T0->T1->T2->T3->Prop):Prop
 |mk (x0:T0) (x1:T1) (x2:T2) (x3:T3):P x0 x1 x2 x3->E4 P
inductive E5{T0 T1 T2 T3 T4:Type}(P:T0->T1->T2->T3->T4->Prop):Prop
 |mk (x0:T0) (x1:T1) (x2:T2) (x3:T3) (x4:T4):P x0 x1 x2 x3 x4->E5 P
inductive E6{T0 T1 T2 T3 T4 T5:Type}(P:T0->T1->T2->T3->T4->T5->Prop):Prop
 |mk (x0:T0) (x1:T1) (x2:T2) (x3:T3) (x4:T4) (x5:T5):P x0 x1 x2 x3 x4 x5->E6 P
inductive E7{T0 T1 T2 T3 T4 T5 T6:Type}(P:T0->T1->T2->T3->T4->T5->T6->Prop):Prop
 |mk (x0:T0) (x1:T1) (x2:T2) (x3:T3) (x4:T4) (x5:T5) (x6:T6):P x0 x1 x2 x3 x4 x5 x6->E7 P
inductive E8{T0 T1 T2 T3 T4 T5 T6 T7:Type}(P:T0->T1->T2->T3->T4->T5->T6->T7->Prop):Prop
 |mk (x0:T0) (x1:T1) (x2:T2) (x3:T3) (x4:T4) (x5:T5) (x6:T6) (x7:T7):P x0 x1 x2 x3 x4 x5 x6 x7->E8 P
inductive E9{T0 T1 T2 T3 T4 T5 T6 T7 T8:Type}(P:T0->T1->T2->T3->T4->T5->T6->T7->T8->Prop):Prop
 |mk (x0:T0) (x1:T1) (x2:T2) (x3:T3) (x4:T4) (x5:T5) (x6:T6) (x7:T7) (x8:T8):P x0 x1 x2 x3 x4 x5 x6 x7 x8->E9 P
inductive E12{T0 T1 T2 T3 T4 T5 T6 T7 T8 T9 T10 T11:Type}(P:T0->T1->T2->T3->T4->T5->T6->T7->T8->T9->T10->T11->Prop):Prop
 |mk (x0:T0) (x1:T1) (x2:T2) (x3:T3) (x4:T4) (x5:T5) (x6:T6) (x7:T7) (x8:T8) (x9:T9) (x10:T10) (x11:T11):P x0 x1 x2 x3 x4 x5 x6 x7 x8 x9 x10 x11->E12 P
inductive A2(a b:Prop):Prop|mk:a->b->A2 a b
inductive A3(a b c:Prop):Prop|mk:a->b->c->A3 a b c
inductive A4(a b c d:Prop):Prop|mk:a->b->c->d->A4 a b c d
inductive A5(a b c d e:Prop):Prop|mk:a->b->c->d->e->A5 a b c d e
inductive A6(a b c d e f:Prop):Prop|mk:a->b->c->d->e->f->A6 a b c d e f
inductive A7(a b c d e f g:Prop):Prop|mk:a->b->c->d->e->f->g->A7 a b c d e f g
inductive A8(a b c d e f g h:Prop):Prop|mk:a->b->c->d->e->f->g->h->A8 a b c d e f g h
inductive A9(a b c d e f g h i:Prop):Prop|mk:a->b->c->d->e->f->g->h->i->A9 a b c d e f g h i
inductive A10(a b c d e f g h i j:Prop):Prop|mk:a->b->c->d->e->f->g->h->i->j->A10 a b c d e f g h i j
inductive A11(a b c d e f g h i j k:Prop):Prop|mk:a->b->c->d->e->f->g->h->i->j->k->A11 a b c d e f g h i j k
inductive A13(a b c d e f g h i j k l m:Prop):Prop|mk:a->b->c->d->e->f->g->h->i->j->k->l->m->A13 a b c d e f g h i j k l m
inductive A14(a b c d e f g h i j k l m n:Prop):Prop|mk:a->b->c->d->e->f->g->h->i->j->k->l->m->n->A14 a b c d e f g h i j k l m n
inductive A16(a b c d e f g h i j k l m n o p:Prop):Prop|mk:a->b->c->d->e->f->g->h->i->j->k->l->m->n->o->p->A16 a b c d e f g h i j k l m n o p
def clOf(env:Env):List (Str×NameKind)->List (Str×Addr)->List (Str×Addr)
 |[],cs=>cs
 |(n,k):: r,cs=>clOf env r (if k == .free then(n,(env.cells.lookup n).getD 0):: cs else cs)
theorem De{env:Env}{n:Str}{c:Addr}:∀{l:List (Str×NameKind)}{cs:List (Str×Addr)},(∀y∈l,y.2=.free->∃c,env.cells.lookup y.1=some c) ->
  (clOf env l cs).lookup n=some c->cs.lookup n=some c\/env.cells.lookup n=some c
 |[],_,_,h=>.inl h
 | (m,k):: r,cs,hl,h=>by
  have hr:∀y∈r,y.2=.free->∃c,env.cells.lookup y.1=some c:=λy d=>hl y (zM _ d);rcases De hr h with q|q
  ·by_cases a:(k == NameKind.free)=true
   ·rw[zG a]at q;obtain⟨f,e⟩:=hl (m,k) zQ (by simpa using a);rw[yY]at q;cases hm:n == m with
    |true =>
     rw[hm]at q;have b:(env.cells.lookup m).getD 0=c:=zP q;have i:n=m:=by simpa using hm
     rw[e]at b;have g:f=c:=b;rw[i,e,g];exact .inr rfl
    |false =>
     rw[hm]at q;exact .inl q
   ·rw[zE a]at q;exact .inl q
  ·exact .inr q
theorem aK{env:Env}{n:Str}:∀{l:List (Str×NameKind)}{cs:List (Str×Addr)},((n,NameKind.free)∈l\/∃c,cs.lookup n=some c)->∃c,(clOf env l cs).lookup n=some c
 |[],_,h=>by
  rcases h with h|h
  ·simp at h
  ·exact h
 | (m,k):: r,cs,h=>by
  refine aK (l:=r) ?_
  by_cases b:(n,NameKind.free)∈r
  ·exact .inl b
  ·refine .inr ?_;rcases h with h|⟨c,h⟩
   ·rcases yQ.mp h with e|e
    ·cases e;rw[zG ∅];exact⟨(env.cells.lookup n).getD 0,by rw[yY];simp⟩
    ·exact absurd e b
   ·by_cases a:(k == NameKind.free)=true
    ·rw[zG a,yY];cases hm:n == m with
     |true=>exact⟨_,rfl⟩
     |false=>exact⟨c,h⟩
    ·rw[zE a];exact⟨c,h⟩
theorem Db{d:Scope}{env:Env}(h:∀y∈d.names,y.2=.free->∃c,env.cells.lookup y.1=some c):closureFor d env=pure (clOf env d.names []):=by
 have go:∀(l:List (Str×NameKind))(cs:List (Str×Addr)),(∀y∈l,y.2=.free->∃c,env.cells.lookup y.1=some c) ->
   (forIn l cs (λ(x:Str×NameKind)(r:List (Str×Addr))=>if x.2 == NameKind.free then(do let a ←cellOf env x.1;pure (ForInStep.yield ((x.1,a):: r))) else(pure (ForInStep.yield r):Sem _)):Sem _)=pure (clOf env l cs):=by
  intro l
  induction l with
  |nil=>intro cs _;rfl
  | cons y r f =>
   intro cs hl;obtain⟨n,k⟩:=y;have hr:∀y∈r,y.2=.free->∃c,env.cells.lookup y.1=some c:=λy g=>hl y (zM _ g);rw[vP]
   by_cases b:(k == NameKind.free)=true
   ·obtain⟨c,e⟩:=hl (n,k) zQ (by simpa using b);have e1:cellOf env n=pure c:=by unfold cellOf;rw[show env.cells.lookup n=some c from e]
    dsimp only;rw[zG b,e1];simp only[pure_bind];rw[f _ hr];show _=pure (clOf env r _);rw[zG b,show env.cells.lookup n=some c from e]
    all_goals rfl
   ·dsimp only;rw[zE b];simp only[pure_bind];rw[f _ hr];show _=pure (clOf env r _);rw[zE b]
 have e:closureFor d env=(forIn d.names ([]:List (Str×Addr)) (λ(x:Str×NameKind)(r:List (Str×Addr))=>if x.2 == NameKind.free then(do let a ←cellOf env x.1;pure (ForInStep.yield ((x.1,a):: r))) else(pure (ForInStep.yield r):Sem _)):Sem _):=by
  unfold closureFor
  first
   |rfl
   |(simp only[bind_pure];rfl)
   |(simp;done)
 rw[e];exact go _ _ h
theorem Da{env:Env}:∀{b:List (Str×NameKind)}{x:Str},b.lookup x=some .free ->
  (b.map λ(n,k)=>if(k == NameKind.free && env.scope.kind == .function && env.kindOf n == some .cell) then(n,NameKind.cell) else(n,k)).lookup x=some .cell \/
  (b.map λ(n,k)=>if(k == NameKind.free && env.scope.kind == .function && env.kindOf n == some .cell) then(n,NameKind.cell) else(n,k)).lookup x=some .free
 |[],_,h=>by simp at h
 | (n,k):: r,x,h=>by
  have c:=@Da env r x;cases hx:x == n with
  |true =>
   simp only[List.lookup_cons,hx]at h;cases h
   by_cases a:(NameKind.free == NameKind.free && env.scope.kind == .function && env.kindOf n == some .cell)=true
   ·refine .inl ?_;rw[zH];dsimp only;rw[zG a,yY,hx]
   ·refine .inr ?_;rw[zH];dsimp only;rw[zE a,yY,hx]
  |false =>
   simp only[List.lookup_cons,hx]at h;rw[zH];dsimp only
   by_cases a:(k == NameKind.free && env.scope.kind == .function && env.kindOf n == some .cell)=true
   ·rw[zG a,yY,hx];exact c h
   ·rw[zE a,yY,hx];exact c h
structure t_I(X:Cx)(scope:Scope)(x:Str)(fr:List (Str×Nat)):Prop where
 kind:scope.kind=.function
 cell:∀y∈scope.names,y.2≠.cell
 free:∀y∈scope.names,y.2=.free->X.env.kindOf y.1=some .cell\/X.env.kindOf y.1=some .free
 loc:∀y∈scope.names,y.2=.local->scope.names.lookup y.1=some .local
 name:scope.names.lookup x=some .local
 nd:(x:: fr.map (·.1)).Nodup
 fr:∀p∈fr,X.N[p.2]?=some p.1/\scope.names.lookup p.1=some .free
def mE(fr:List (Str×Nat))(σ:St):St:=fr.map λp=>σ.getD p.2 none
section
variable {X:Cx} {scope:Scope} {x:Str} {fr:List (Str×Nat)}
def Ez(i:Nat)(te:TE):TS:=λD σ H=>te σ H λv H1=>D.nx (σ.set i (some v)) H1
end
def Dc(h:Heap)(e:Addr)(o:Option Addr):Prop:=∃oe,h.get? e=some oe/\∀dx,o=some dx->oe.dict=some dx
theorem Mb(o:Obj)(f:Array Value->Array Value):(o.mapFields f).dict=o.dict:=by
 unfold Obj.mapFields;split <;> rfl
section
variable {M:Model} {A:Around} {E:VP} {s:Shared}
theorem aL{base:Heap}{env:Env}{outer:List Env}{L e:Addr}{g:Obj}{vs:Array Value}{head a0:Value}{R:Bool}{Q:Unit->Shared->Prop}(O:A.frames=some (env:: outer))(hl:s.heap.FunFrames base (env:: outer))(N:env.frame=some L)
  (m:s.heap.get? e=some g)(J:base.StaysIn s.heap)(F:base.get? e=none)(l:g.data=.fields vs)(hsz:1<vs.size)(G:vs[0]?=some a0){od:Option Addr}(K:∀i,od=some i->g.dict=some i)
  (h:∀h',Heap.NotedW base (env:: outer) e g.cls a0 (rawInt L) s.heap h'->Dc h' e od->Q () {s with heap:=h'}):
  wpAny M A (do let a ←frameOf env;let pl ←entryPlaceOf L R;let b ←EntryCells.newEntry head a .none (rawInt L) .none pl;setField (.ref e) 1 b) Q E s:=by
 have I:e∉(env:: outer).filterMap (·.frame):=by
  intro p;have⟨_,o,w,f⟩:=hl.mem p;rw[m]at w;cases w;exact f vs l
 refine zA (wpAny_frameOf_fun O hl N λc j=>zA (wpAny_entryPlaceOf λpl r=>?_));unfold EntryCells.newEntry newFields;refine zA (xA ?_ (r.sizeOk5 _ _ _ _ _));have D:c.get? e=some g:=(j.2.1 e I).trans m;have b1:base.StaysIn c:=λb o q=>(j.2.1 b (by intro p;rw[(hl.mem p).1]at q;cases q)).trans (J b o q);generalize hT:({cls:=.type "traceback",dict:=none,data:=.fields ([head,.ref L,.none,rawInt L,.none]++(if pl.isEmpty then List.replicate 6 Value.none else pl)).toArray}:Obj)=k;have t:=zC (h:=c) k D;refine wQ t l hsz ?_;have x:c.objs.size≠e:=tD (zL D);have v:=wC l (·.setIfInBounds 1 (Value.ref c.objs.size));have u:=yT (Obj.mapFields (·.setIfInBounds 1 (Value.ref c.objs.size))) t (uD v);have P:((c.push k).update e (Obj.mapFields (·.setIfInBounds 1 (Value.ref c.objs.size)))).get? c.objs.size=some k:=(xB _ _ (zS x)).trans (zN c (by subst hT;rfl));have n:∀b o,b≠e->c.get? b=some o->((c.push k).update e (Obj.mapFields (·.setIfInBounds 1 (Value.ref c.objs.size)))).get? b=some o:=λb o q d=>(xB _ _ (zS q)).trans (zC _ d);have y:∀b o,s.heap.get? b=some o->(∀vs,o.data≠.fields vs)->b≠e:=λb o d f q=>by
  rw[q,m]at d;cases d;exact f vs l
 refine h _ ⟨λb o q=>n b o (by intro z;rw[z,F]at q;cases q) (b1 b o q),hl.of_keeps λb o d f=>?_,?_,λb o d f=>?_⟩ ⟨_,u,λi q=>(Mb _ _).trans (K i q)⟩
 ·obtain⟨C,q⟩:=j.2.2 b o d;exact⟨_,n b _ (y b o d f) q,rfl⟩
 ·subst hT;exact⟨_,_,c.objs.size,_,_,u,⟨rK _ _,by rw[Array.getElem?_setIfInBounds_ne ∅];exact G⟩,v,by simp[hsz],b1.fresh,x,P,rfl,by first|(simp;done)|(rcases r with rfl|⟨_,_,_,_,_,_,_,rfl⟩ <;> simp)⟩
 ·obtain⟨C,q⟩:=j.2.2 b o d;exact⟨C,n b _ (y b o d f) q⟩
theorem Ey{base:Heap}{l:List Env}{e:Addr}{p a0 fl:Value}{Q:Unit->Shared->Prop}(y:base.StaysIn s.heap)(hl:s.heap.FunFrames base l)(C:s.heap.TracedAtW base e p a0 fl){od:Option Addr}(F:Dc s.heap e od)
  (h:∀h',base.StaysIn h'->h'.FunFrames base l->h'.TracedW base e p a0->Dc h' e od->s.heap.UpToSlots h'->Q () {s with heap:=h'}):wpAny M A (setFlight (.ref e) none) Q E s:=by
 obtain⟨v,vs,T,I,ts,i,G,r,u,n,j,k,g,x⟩:=C;obtain⟨J,m,D⟩:=F;rw[i]at m;cases m;have w:3<ts.size:=(pG.mp x).1;have c:∀b,b≠T->(s.heap.update T (Obj.mapFields (·.setIfInBounds 3 ((none:Option Addr).elim Value.none λf=>rawInt f)))).get? b=s.heap.get? b:=λb q=>xB _ _ (zS q);have t:∀b o,s.heap.get? b=some o->(∀vs,o.data≠.fields vs)->b≠T:=λb o a d q=>by
  rw[q,k]at a;cases a;exact d ts g
 unfold setFlight;refine zA (yS i r u ?_);rw[zG (show(Value.ref T != Value.none)=true by simp)];refine wQ k g w (h _ (λb o q=>(c b (by intro z;rw[z,n]at q;cases q)).trans (y b o q)) (hl.of_keeps λb o a d=>⟨o,(c b (t b o a d)).trans a,rfl⟩) ?_ ⟨v,(c e (zS j)).trans i,D⟩ λb o a d=>⟨o.slots,(c b (t b o a d)).trans a⟩);exact⟨v,vs,T,_,_,(c e (zS j)).trans i,G,r,u,n,j,yT _ k (uD (wC g _)),wC g _,by simp[w]⟩
theorem Ex{base:Heap}{env:Env}{outer:List Env}{L e:Addr}{p a0:Value}{Q:Unit->Shared->Prop}(J:A.frames=some (env:: outer))(m:env.frame=some L)(O:Heap.FlyingW base (env:: outer) e p a0 s.heap){od:Option Addr}(K:Dc s.heap e od)
  (R:∀h',Heap.HeldW base (env:: outer) e p a0 L h'->Dc h' e od->s.heap.UpToSlots h'->Q () {s with heap:=h'}):wpAny M A (noteFrame (.ref e) env) Q E s:=by
 obtain⟨x,n,C,V,vs,T,S,ts,i,⟨P,w⟩,u,t,F,I,j,g,k⟩:=O;obtain⟨U,l,D⟩:=K;rw[i]at l;cases l;subst P;unfold noteFrame;simp only[m];refine zA (yS i u t ?_);rw[zG (show(Value.ref T != Value.none)=true by simp)];refine zA (yS j g k ?_);rw[zE (show¬ ((Value.none == rawInt L)=true) by simp[rawInt])];refine zA (wQ j g (pG.mp k).1 ?_);have f:∀b,b≠T->(s.heap.update T (Obj.mapFields (·.setIfInBounds 3 Value.none))).get? b=s.heap.get? b:=λb q=>xB _ _ (zS q);have r:∀b o,s.heap.get? b=some o->(∀vs,o.data≠.fields vs)->b≠T:=λb o a d q=>by
  rw[q,j]at a;cases a;exact d ts g
 refine aL J (C.of_keeps λb o a d=>⟨o,(f b (r b o a d)).trans a,rfl⟩) m ((f e (zS I)).trans i) (λb o q=>(f b (by intro z;rw[z,F]at q;cases q)).trans (x b o q)) n u (pG.mp t).1 w D λh'⟨v,y,N,G⟩c=>?_;exact R h' ⟨v,n,y,N⟩ c λb o a d=>G b o ((f b (r b o a d)).trans a) d
theorem dL{base:Heap}{l:List Env}{e L:Addr}{a a0:Value}{Q:Unit->Shared->Prop}(hh:Heap.HeldW base l e a a0 L s.heap){od:Option Addr}(g:Dc s.heap e od)
  (i:∀h',Heap.FlyingW base l e a a0 h'->Dc h' e od->s.heap.UpToSlots h'->Q () {s with heap:=h'}):wpAny M A (setFlight (.ref e) none) Q E s:=
 let ⟨j,b,k,d⟩:=hh;Ey j k d g λh' k1 k2 k3 c f=>i h' ⟨k1,b,k2,k3⟩ c f
theorem Ma{base:Heap}{l:List Env}{e:Addr}{a a0:Value}{Q:Unit->Shared->Prop}(hh:Heap.FlyingW base l e a a0 s.heap){od:Option Addr}(g:Dc s.heap e od)
  (i:∀h',Heap.FlyingW base l e a a0 h'->Dc h' e od->s.heap.UpToSlots h'->Q () {s with heap:=h'}):wpAny M A (setFlight (.ref e) none) Q E s:=
 let ⟨j,b,k,d⟩:=hh;Ey j k d.at g λh' k1 k2 k3 c f=>i h' ⟨k1,b,k2,k3⟩ c f
theorem Nz{base:Heap}{env:Env}{outer:List Env}{L e:Addr}{a a0:Value}{Q:Unit->Shared->Prop}(g:A.frames=some (env:: outer))(n:env.frame=some L)(d:Heap.FlyingW base (env:: outer) e a a0 s.heap){od:Option Addr}(i:Dc s.heap e od)
  (j:∀h',Heap.FlyingW base outer e a a0 h'->Dc h' e od->s.heap.UpToSlots h'->Q () {s with heap:=h'}):wpAny M A (leaving env (.ref e)) Q E s:=by
 unfold leaving;refine zA (Ex g n d i λb hh m k=>?_);refine dL (s:={s with heap:=b}) hh m λl⟨k1,k2,⟨_,_,k3⟩,f⟩o c=>j l ⟨k1,k2,k3,f⟩ o (k.trans c)
theorem Ny{base h:Heap}{env:Env}{outer:List Env}{L e:Addr}{j:Value}{w:LW}{Q:Unit->Shared->Prop}(v:A.frames=some (env:: outer))(i:env.frame=some L)(f:base.StaysIn h)(hl:h.FunFrames base (env:: outer))(c:Heap.MadeExcOf h s.heap e j w)
  (C:∀h' d,Heap.FlyingW base outer e j (.ref d) h'->Dc h' e none->s.heap.UpToSlots h'->Q () {s with heap:=h'}):wpAny M A (leaving env (.ref e)) Q E s:=by
 obtain⟨d,g,F,D⟩:=c.there;have fr:∀b,h.get? b=none->base.get? b=none:=λb a=>by
  cases hq:base.get? b with
  |none=>rfl
  |some n=>rw[f b n hq]at a;cases a
 unfold leaving noteFrame;simp only[i];refine zA (zA (yS g rfl (x:=.none) rfl ?_));rw[zE ∅];refine aL v (hl.of_keeps λb o a _=>⟨o,c.keeps b o a,rfl⟩) i g (λb o a=>c.keeps b o (f b o a)) (fr e c.new) rfl (by simp) (a0:=.ref d) rfl (od:=none) (λ_ q=>by cases q) ?_;rintro z ⟨k,p,x,u⟩ y;refine dL (s:={s with heap:=z}) ⟨k,fr e c.new,p,x⟩ y λt⟨k1,k2,⟨_,_,k3⟩,m⟩r l=>C t d ⟨k1,k2,k3,m⟩ r (Heap.UpToSlots.trans u l)
end
theorem oK.there{P:Program}{w:World}{H:Hp}{h:Heap}{a:Addr}{o:HO}(x:oK P w H h a o):∃b,h.get? a=some b:=by
 cases o with
 |lst xs=>obtain⟨_,_,_,_,e⟩:=x;exact⟨_,e⟩
 |tup xs=>obtain⟨_,_,_,b,e,_⟩:=x;exact⟨b,e⟩
 |dK kvs=>obtain⟨_,_,_,_,o,_,_,e,_⟩:=x;exact⟨_,e⟩
 |dT kvs=>obtain⟨_,_,_,_,o,_,_,e,_⟩:=x;exact⟨_,e⟩
 |set i n=>obtain⟨o,_,_,_,e,_⟩:=x;exact⟨_,e⟩
 |ins C c fs=>obtain⟨_,_,_,e,_⟩:=x;exact⟨_,e⟩
 |own y=>exact x
 |xd fs=>obtain⟨_,⟨_,_,_,e,_⟩,_⟩:=x;exact⟨_,e⟩
 |rng g hi=>obtain⟨_,_,_,e⟩:=x;exact⟨_,e⟩
 |frz b u=>exact⟨_,x.1⟩
 |tbl ps=>exact⟨_,x⟩
 |met f y=>exact⟨_,x⟩
 |ext d=>exact x.2.1
abbrev Cov(fs:LA)(h₀:Heap)(H:Hp)(h B:Heap):Prop:=∀b o,h.get? b=some o->b∉fs->((∃o',h₀.get? b=some o')\/∃u,H b=some u)->B.get? b=some o
def FlyX(X:Cx)(pins:PN)(H:Hp)(e:Addr)(C:Value)(od:Option Addr)(h:Heap):Prop:=(∃B a0,Heap.FlyingW B X.stack e C a0 h/\Cov (frs X.stack) X.s₀.heap H h B/\∀p∈X.pn++pins,B.get? p.1=some p.2)/\Dc h e od
def CX1(P:Program)(w:World):CXT:=λouter H s E ev s'=>∃e C od H' B a0,ev=.ref e/\s'.os=s.os/\AllBare s'.gens/\Un (frs outer) [] H H' s.heap s'.heap/\HOk P w H' s'.heap /\
 Heap.FlyingW B outer e C a0 s'.heap/\Cov (frs outer) s.heap H' s'.heap B/\Dc s'.heap e od/\E C od H'
abbrev XE:=St->Value->Option Addr->Hp->Prop
def dM(X:Cx)(EX:XE):Prop:=∀(pins:PN)(σ:St)(H:Hp)(s:Shared)(e:Addr)(C:Value)(od:Option Addr),Inv X pins σ H s->FlyX X pins H e C od s.heap->EX σ C od H->X.xe (.ref e) s
def Ew(X:Cx)(EX:XE):Prop:=∀(pins:PN)(σ:St)(H:Hp)(s:Shared)(h':Heap)(e:Addr)(C:Value)(vs:LW),Inv X pins σ H s->Heap.MadeExcOf s.heap h' e C vs->EX σ C none H->X.xe (.ref e) {s with heap:=h'}
theorem dN{X:Cx}{C:PN}{D:St}{H:Hp}{s:Shared}{g B:Heap}(I:Inv X C D H s)(G:X.stack=X.env:: X.outer)(K:X.env.frame=some X.env.locals)(F:X.ex=[])
  (stay:B.StaysIn g)(sm:s.heap.UpToSlots g)(t:Cov (frs X.stack) X.s₀.heap H s.heap B):
  Un X.fs [] X.H₀ H X.s₀.heap g/\HOk X.prog X.w H g/\Cov X.fs X.s₀.heap H g B:=by
 have u:=I.base;rw[F]at u;have M:frs X.stack=X.env.locals:: X.fs:=by
  rw[G];unfold frs;rw[uQ,K];rfl
 have m:∀b o,X.s₀.heap.get? b=some o->b∉X.fs->b∉frs X.stack:=λb o e c l=>by
  rw[M]at l;rcases yQ.mp l with z|z
  ·exact absurd (zI (zL e) I.ok.above) (by rw[z];exact yP _)
  ·exact c z
 have trk:∀b v,H b=some v->b∉frs X.stack:=λb v e l=>by
  have:=I.stkFree b l;rw[e]at this;cases this
 have i:∀b o,s.heap.get? b=some o->b∉frs X.stack->((∃f,X.s₀.heap.get? b=some f)\/∃v,H b=some v)->g.get? b=some o:=λb o e c w=>stay b o (t b o e c w);have y:∀b,b∈X.fs->∀o,s.heap.get? b=some o->∃x,g.get? b=some {o with slots:=x}:=λb c o e=>by
  obtain⟨_,f,d,L⟩:=I.funs.mem c;rw[e]at d;cases d;exact sm b o e L
 refine⟨⟨λb o e n c k=>?_,λb o e n c k=>?_,u.free,λb o e k=>?_,u.tups,u.frzs,u.tbls⟩,λa o p=>?_,λb o e c w=>?_⟩
 ·exact i b o (u.keep b o e n c k) (m b o e c) (.inl ⟨o,e⟩)
 ·obtain⟨x,e1⟩:=u.slot b o e n c k;obtain⟨J,r⟩:=y b c _ e1;exact⟨J,r⟩
 ·obtain⟨j,e1⟩:=u.there b o e k
  by_cases c:b∈X.fs
  ·obtain⟨x,r⟩:=y b c _ e1;exact⟨_,r⟩
  ·exact⟨j,i b j e1 (m b o e c) (.inl ⟨o,e⟩)⟩
 ·refine(I.hok a o p).stay (λb v c q=>?_) (λ_ q=>q) λ_ _ q=>q;rcases c with c|c
  ·subst c;exact i b v q (trk b o p) (.inr ⟨o,p⟩)
  ·exact i b v q (trk b _ c) (.inr ⟨_,c⟩)
 ·rcases w with⟨f,d⟩|⟨v,d⟩
  ·obtain⟨j,e1⟩:=u.there b f d (by simp);have q:=i b j e1 (m b f d c) (.inl ⟨f,d⟩);rw[e]at q;cases q;exact t b o e1 (m b f d c) (.inl ⟨f,d⟩)
  ·obtain⟨j,e1⟩:=(I.hok b v d).there;have q:=i b j e1 (trk b v d) (.inr ⟨v,d⟩);rw[e]at q;cases q;exact t b o e1 (trk b v d) (.inr ⟨v,d⟩)
section
variable {P:Program} {w:World} {K:Frag} {mg:MT} {base:Heap} {N:List Str} {qual:Str} {scope:Scope} {f:Addr} {cd:Value} {A:Around} {outer:List Env} {s₀:Shared} {H₀:Hp} {E:XK}
theorem iU:dM (cxOf (CX1 P w) P w K mg base N qual scope f cd A outer s₀ H₀ E) (λ_ C od H=>E C od H):=by
 intro j k H s e C od I F i;obtain⟨⟨B,a0,fl,c,_⟩,b⟩:=F;refine Nz I.ok.frames rfl fl b λl a d sm=>?_;obtain⟨un,ok,g⟩:=dN I rfl rfl rfl a.1 sm c;exact⟨e,C,od,H,B,a0,rfl,I.os,I.bare,un,ok,a,g,d,i⟩
theorem jP:Ew (cxOf (CX1 P w) P w K mg base N qual scope f cd A outer s₀ H₀ E) (λ_ C od H=>E C od H):=by
 intro p r H s h' e C vs I M n;have m:=I.stack;have d:=PySem.W.funFrames_hide (as:=frs (cxOf (CX1 P w) P w K mg base N qual scope f cd A outer s₀ H₀ E).stack) m (λenv k a g=>pF.mpr ⟨env,k,g⟩);refine Ny (s:={s with heap:=h'}) (h:=s.heap) I.ok.frames rfl (λb o q=>sZ _ q) d M λt u c i sm=>?_;obtain⟨un,ok,j⟩:=dN I rfl rfl rfl c.1 ((Heap.UpToSlots.of_keeps M.keeps).trans sm) λb o q l _=>sT _ q l;exact⟨e,C,none,H,_,_,rfl,I.os,I.bare,un,ok,c,j,i,n⟩
end
section
variable {X:Cx} {EX:XE} {k:Nat} {f:Addr} {fd:FuncData} {ps:List Str} {sp:Sp} {dvs:List V} {ds:LW} {x:Str} {p pos:Pos} {e:Expr} {es:List Expr} {t:TA}
def Nx(sp:Sp)(dvs:List V)(EX:XE)(t:TA):TE:=λσ H Q=>t σ H λvs H1=>sp (vs++dvs) H1 Q λC od H'=>EX σ C od H'
theorem Nw{d:PN}{a:St}{H:Hp}{s:Shared}{Q:VK}{us:LW}{vs:List V}(F:FnOk X.prog X.w X.K X.mg X.base (CX1 X.prog X.w) k f fd ps sp)(hr:Room k X.A)(g:nD X.K fd ps ds)(R:Vals dvs ds)(w:dM X EX)
  (y:X.ex=[])(I:Inv X d a H s)(r:Vals vs us)(h:sp (vs++dvs) H Q λC od H'=>EX a C od H'):wpAny (model X.prog X.w) X.A (call (.ref f) us) (EP X d a Q) X.xe s:=by
 have m:Vals (vs++dvs) (us++ds):=r.append R;have hl:(us++ds).length=ps.length:=by rw[←m.length];exact F.len _ _ _ _ h
 refine vS (uC (F.run X.A X.stack s H ⟨us,[]⟩ (us++ds) (vs++dvs) Q _ hr I.env0 (g s us I.kIn hl) m h) λr s' c=>?_);cases r with
 | error T =>
  obtain⟨e,C,od,H',B,a0,rfl,O,L,un,ok,fl,l,K,q⟩:=c;have j:Inv X d a H' s':=I.call' O un ok L λb z=>absurd z (by simp);refine w d a H' s' e C od j ⟨⟨B,a0,fl,λb o e1 g i=>l b o e1 g ?_,λp n=>?_⟩,K⟩ q
  ·rcases i with⟨v,P⟩|i
   ·obtain⟨D,J⟩:=I.base.there b v P (by rw[y];simp);exact .inl ⟨D,J⟩
   ·exact .inr i
  ·obtain⟨e1,S,N,M,_⟩:=j.pin p n;refine l p.1 p.2 e1 (λG=>?_) (.inl ⟨_,(I.pin p n).1⟩);rcases yQ.mp (I.stkSub p.1 G) with z|z
   ·exact N z
   ·exact M z
 |ok fl =>
  cases fl with
  |ret u=>exact I.after c
  |next=>exact False.elim c
  |brk=>exact False.elim c
  |cont=>exact False.elim c
theorem lW(F:FnOk X.prog X.w X.K X.mg X.base (CX1 X.prog X.w) k f fd ps sp)(hr:Room k X.A)(j:Gl X x)(g:X.mg x=some (.ref f))(u:PySem.W.keepIn X.K (.ref f)=true)(o:nD X.K fd ps ds)(b:Vals dvs ds)(v:dM X EX)
  (i:PA X (e:: es) t)(w:X.ex=[]:=by rfl)(l:(x == ("__debug__" :Str))=false:=by decide)(n:starEach (e:: es) X.env=(false,eval e X.env):: starEach es X.env:=by rfl)(m:(backTo pos (starEach es X.env)).any (·.1)=false:=by rfl):
  PE X (.Call (.Name x p) (e:: es) [] pos) (Nx sp dvs EX t):=by
 intro c s d H Q I h;refine wS (jL I j g ?_ l);refine vR (h₀:=X.base) I.ok.mod.kin u (thn (i pos c s d H _ I h) λus z⟨vs,y,a,r,q⟩=>⟨a.kIn,?_⟩) n m;exact Nw F hr o b v w a r q
theorem lJ{P:Program}{w:World}{Y:Cx}:jN (CX1 P w) Y E0:=λ_ _ _ _ _ _ _ h=>by
 obtain⟨_,_,_,_,_,_,_,_,_,_,_,_,_,_,q⟩:=h;exact q.elim
end
theorem Nv{K:Frag}{h:Heap}{C:Addr}{e:LW}{newId:String}(KX:K.In h)(a:PySem.W.excIn K C e newId=true):
  ∃bm N nm b bs c sn sub ab col dd k0 k1 k2 k3 k5 mN,h.get? C=some (excClassObj nm b C N bs bm c sn sub ab col dd k0 k1 k2 k3 k5 newId)/\h.Ns N mN/\mN "__init__"=none/\OwnTail h e bm:=by
 revert a
 unfold PySem.W.excIn;split
 ·next dd u d g =>
  split
  ·next p bm k0 k1 k2 k3 n k5 j es =>
   intro a;simp only[Bool.and_eq_true,beq_iff_eq,Bool.not_eq_true']at a;obtain⟨⟨⟨⟨⟨e1,o⟩,w⟩,v⟩,f⟩,r⟩:=a;subst e1 o;cases u with
   | mk nm bs q ns b c sn sub ab col i =>
    have t:q=Value.ref p:: bm:=j;have m:i=false:=w;subst t m;have k:d=#[k0,k1,k2,k3,some (Value.builtin n),k5]:=by
     cases d with
     |mk l=>exact wE Array.mk es
    subst k;exact⟨bm,ns,nm,b,bs,c,sn,sub,ab,col,dd,k0,k1,k2,k3,k5,_,KX _ _ g,qA (sY KX f),PySem.W.nsMap_none_of_in KX f r,PySem.W.tail_of_in KX v⟩
  ·intro z;cases z
 ·intro z;cases z
section
variable {X:Cx} {EX:XE} {C:Addr} {x:Str} {np cpos pos:Pos} {e₀:Expr} {rest:List Expr} {t:TA} {bmB:LW} {B newId initId:String}
def jQ(C:Addr)(EX:XE)(t:TA):TS:=λ_ σ H=>t σ H λvs H1=>vs.length<=sizeLine/\EX σ (.ref C) none H1
theorem jR(u:X.calm=true)(l:Ew X EX)(F:Gl X x)(p:X.mg x=some (.ref C))(i:PySem.W.excIn X.K C bmB newId=true)(f:ExcBaseFacts B newId initId bmB)(n:PA X (e₀:: rest) t)
  (J:(x == ("__debug__" :Str))=false:=by decide)(g:starEach (e₀:: rest) X.env=(false,eval e₀ X.env):: starEach rest X.env:=by rfl)(k:(backTo cpos (starEach rest X.env)).any (·.1)=false:=by rfl):
  PS X (.Raise (some (.Call (.Name x np) (e₀:: rest) [] cpos)) none pos) (jQ C EX t):=by
 intro b s c H D I h;obtain⟨bm,N,nm,q,bs,K,sn,sub,ab,col,dd,k0,k1,k2,k3,k5,mN,w,v,m,T⟩:=Nv I.mod.kin i;have y:(backTo cpos (starEach (e₀:: rest) X.env)).any (·.1)=false:=by
  rw[g];show(false || (backTo cpos (starEach rest X.env)).any (·.1))=false;rw[k];rfl
 refine wpAny_Raise_call_subT (C:=C) (nm:=nm) (q:=q) (N:=N) (bs:=bs) (bm:=bm) (hdct:=K) (sn:=sn) (sub:=sub) (ab:=ab) (col:=col) (dd:=dd) (k0:=k0) (k1:=k1) (k2:=k2) (k3:=k3) (k5:=k5) f (mN:=mN) (T.hasType f.hasBase) (I.ok.hd u) y m
  (jL I F p ⟨rfl,?_⟩ J)
 have d:=n cpos b s c H _ I h;rw[g]at d ⊢;refine wZ (thn d λus G⟨vs,j,a,r,z,o⟩=>⟨rfl,?_,a.bk _ _ w,v.keeps a.bk,T.keeps a.bk,λh' e M=>l b c j G h' e _ us a M o⟩);show us.length<=sizeLine;rw[←r.length];exact z
end
section
variable {X:Cx} {pins:PN} {σ:St} {H:Hp} {s:Shared}
theorem Inv.flown{h' B:Heap}(I:Inv X pins σ H s)(C:X.stack=X.env:: X.outer)(n:X.env.frame=some X.env.locals)(a:X.ex=[])(stay:B.StaysIn h')(sm:s.heap.UpToSlots h')(j:Cov (frs X.stack) X.s₀.heap H s.heap B)
  (w:∀p∈X.pn++pins,B.get? p.1=some p.2):Inv X pins σ H {s with heap:=h'}:=by
 obtain⟨un,ok,_⟩:=dN I C n a stay sm j;have f:∀c v,s.heap.IsCell c v->h'.IsCell c v:=λc v⟨o,e,d⟩=>by
  obtain⟨D,y⟩:=sm c o e λvs z=>by rw[d]at z;cases z
  exact⟨_,y,d⟩
 refine⟨I.ok,I.os,I.bare,by rw[a];exact un,?_,λx c e=>?_,I.free,I.freeC,λp b=>?_,ok,I.len⟩
 ·obtain⟨m,q,hl⟩:=I.loc;refine⟨m,sm.ns q,λi x v e1 g t=>?_⟩;obtain⟨u,r,l⟩:=hl i x v e1 g t;refine⟨u,r,?_⟩;rcases l with l|⟨k,c,e,z⟩
  ·exact .inl l
  ·exact .inr ⟨k,c,e,f c _ z⟩
 ·obtain⟨v,z⟩:=I.cell x c e;exact⟨v,f c v z⟩
 ·obtain⟨_,r⟩:=I.pin p b;exact⟨stay _ _ (w p b),r⟩
def jA(e:Addr)(C:Value)(od:Option Addr):HO:=.ext λh=>∃o,h.get? e=some o/\o.cls=C/\PySem.W.notCls o=true/\∀dx,od=some dx->o.dict=some dx
theorem Inv.trackE{e:Addr}{C:Value}{od:Option Addr}{d:Obj}{vs:Array Value}(I:Inv X pins σ H s)(j:s.heap.get? e=some d)(N:d.cls=C)(l:d.data=.fields vs)(y:∀t,od=some t->d.dict=some t)(F:H e=none)(G:X.s₀.heap.get? e=none)(M:∀p∈X.pn++pins,p.1≠e):
  Inv X pins σ (upd H e (jA e C od)) s:=by
 have i:∀b u,H b=some u->b≠e:=λb u q z=>by rw[z,F]at q;cases q
 have K:X.env.locals≠e:=λz=>by
  obtain⟨m,⟨o,es,ep,g,f,_⟩,_⟩:=I.loc;rw[z,j]at g;cases g;rw[l]at f;cases f
 have O:∀x c,X.env.cells.lookup x=some c->c≠e:=λx c q z=>by
  obtain⟨v,o,g,f⟩:=I.cell x c q;rw[z,j]at g;cases g;rw[l]at f;cases f
 have u:=I.base;refine⟨I.ok,I.os,I.bare,⟨u.keep,u.slot,λb o q n J=>?_,u.there,λb xs q=>?_,λb o v q=>?_,λb ps q=>?_⟩,I.loc,I.cell,?_,λx c q=>?_,λp D=>?_,λa o q=>?_,I.len⟩
 ·rw[pR (λz=>by rw[z,G]at q;cases q)];exact u.free b o q n J
 ·have:=u.tups b xs q;rw[pR (i _ _ this)];exact this
 ·have:=u.frzs b o v q;rw[pR (i _ _ this)];exact this
 ·obtain⟨m,e1⟩:=u.tbls b ps q;exact⟨m,by rw[pR (i _ _ e1)];exact e1⟩
 ·rw[pR K];exact I.free
 ·rw[pR (O x c q)];exact I.freeC x c q
 ·obtain⟨e1,L,r⟩:=I.pin p D;exact⟨e1,by rw[pR (M p D)];exact L,r⟩
 ·by_cases w:a=e
  ·subst w;rw[pN]at q;cases q;exact⟨⟨d,j,N,by unfold PySem.W.notCls;rw[l],y⟩,⟨d,j⟩,λP y⟨o,e1,r⟩k=>⟨o,k o e1,r⟩⟩
  ·rw[pR w]at q;exact(I.hok a o q).stay (λ_ _ _ z=>z) (λb z=>by rw[pR (i _ _ z)];exact z) λb xs z=>by rw[pR (i _ _ z)];exact z
theorem Inv.unbind{h':Heap}{m:MT}{u:Option Value}{i:Nat}{n:Str}(I:Inv X pins σ H s)(M:X.N.Nodup)(hi:X.N[i]?=some n)(hl:X.env.scope.names.lookup n=some .local)
  (L:s.heap.Ns X.env.locals m)(R:h'.Ns X.env.locals (λx=>if x=n then u else m x))(D:Heap.SameBut X.env.locals s.heap h')(O:∀(j:Nat) x v,X.N[j]?=some x->σ[j]?=some (some v)->Vis X.env.scope x->∃u,RelV v u/\Look X.env s.heap m x u):
  Inv X pins (σ.set i none) H {s with heap:=h'}:=by
 obtain⟨Z,W,V,Y,_⟩:=id L;have C:∀b o,X.s₀.heap.get? b=some o->b≠X.env.locals:=λb o e=>zU (zI (zL e) I.ok.above);have t:∀b o,b≠X.env.locals->s.heap.get? b=some o->h'.get? b=some o:=λb o d e=>(D.2 b d).trans e;have F:∀b v,H b=some v->b≠X.env.locals:=λb v e z=>by rw[z,I.free]at e;cases e
 have g:=I.base;refine⟨I.ok,I.os,I.bare,⟨λb o e n d f=>t b o (C b o e) (g.keep b o e n d f),λb o e n d f=>?_,g.free,λb o e f=>?_,g.tups,g.frzs,g.tbls⟩,⟨_,R,λj x v e1 y T=>?_⟩,λx c e=>?_,I.free,I.freeC,λp U=>?_,λa o e=>?_,by simpa using I.len⟩
 ·obtain⟨S,e1⟩:=g.slot b o e n d f;exact⟨S,t b _ (C b o e) e1⟩
 ·obtain⟨G,e1⟩:=g.there b o e f;exact⟨G,t b G (C b o e) e1⟩
 ·have J:j≠i:=λz=>by
   subst z;have P:j<σ.length:=by rw[I.len];exact(pB.mp hi).1
   rw[xS P]at y;cases y
  rw[wH (zS J)]at y;have f:x≠n:=λz=>J (bT M e1 (z ▸ hi));obtain⟨w,r,l⟩:=O j x v e1 y T;refine⟨w,r,?_⟩;rcases l with⟨k,e⟩|⟨k,c,e,z⟩
  ·exact .inl ⟨k,by simp[f,e]⟩
  ·exact .inr ⟨k,c,e,z.sameBut D (I.cne x c e)⟩
 ·obtain⟨v,z⟩:=I.cell x c e;exact⟨v,z.sameBut D (I.cne x c e)⟩
 ·obtain⟨e1,N,K,r⟩:=I.pin p U;exact⟨t _ _ K e1,N,K,r⟩
 ·refine(I.hok a o e).stay (λb v d q=>t b v ?_ q) (λ_ q=>q) λ_ _ q=>q;rcases d with d|d
  ·rw[d];exact F a o e
  ·exact F b _ d
end
abbrev Cx.body(X:Cx)(pn:PN)(E:VP):Cx:={X with pn:=pn,xe:=E}
abbrev Cx.suite(X:Cx)(e:Addr):Cx:={X with A:=X.A.mark (some (.ref e)),calm:=false,xe:=λ_ _=>False}
section
variable {X:Cx} {pins pins':PN} {σ:St} {H:Hp} {s:Shared} {E:VP} {e:Addr}
theorem Inv.intry(I:Inv X pins σ H s):Inv (X.body (X.pn++pins) E) [] σ H s:=
 ⟨⟨I.ok.mod,I.ok.kind,I.ok.glob,I.ok.blt,I.ok.above,I.ok.inj,I.ok.has,I.ok.cab,I.ok.hd,I.ok.frames,I.ok.stk,I.ok.exf,I.ok.bs,I.ok.bsz,I.ok.noex,I.ok.exfs,I.ok.funs,I.ok.frf⟩,
  I.os,I.bare,I.base,I.loc,I.cell,I.free,I.freeC,λp a=>I.pin p (by simpa using a),I.hok,I.len⟩
theorem Inv.offtry(I:Inv (X.body (X.pn++pins) E) pins' σ H s):Inv X pins σ H s:=
 ⟨⟨I.ok.mod,I.ok.kind,I.ok.glob,I.ok.blt,I.ok.above,I.ok.inj,I.ok.has,I.ok.cab,I.ok.hd,I.ok.frames,I.ok.stk,I.ok.exf,I.ok.bs,I.ok.bsz,I.ok.noex,I.ok.exfs,I.ok.funs,I.ok.frf⟩,
  I.os,I.bare,I.base,I.loc,I.cell,I.free,I.freeC,λp a=>I.pin p (xJ _ a),I.hok,I.len⟩
theorem Inv.insuite(I:Inv X pins σ H s):Inv (X.suite e) pins σ H s:=
 ⟨⟨I.ok.mod,I.ok.kind,I.ok.glob,I.ok.blt,I.ok.above,I.ok.inj,I.ok.has,I.ok.cab,(λz=>by cases z),I.ok.frames,I.ok.stk,I.ok.exf,I.ok.bs,I.ok.bsz,I.ok.noex,I.ok.exfs,I.ok.funs,I.ok.frf⟩,
  I.os,I.bare,I.base,I.loc,I.cell,I.free,I.freeC,I.pin,I.hok,I.len⟩
theorem Inv.offsuite(I:Inv (X.suite e) pins σ H s)(ok:X.Ok):Inv X pins σ H s:=
 ⟨ok,I.os,I.bare,I.base,I.loc,I.cell,I.free,I.freeC,I.pin,I.hok,I.len⟩
theorem SP.offtry{D:Ends}{f:Flow}(h:SP (X.body (X.pn++pins) E) [] D f s):SP X pins D f s:=by
 cases f with
 |next=>obtain⟨a,H',b,q⟩:=h;exact⟨a,H',b.offtry,q⟩
 |brk=>obtain⟨a,H',b,q⟩:=h;exact⟨a,H',b.offtry,q⟩
 |cont=>obtain⟨a,H',b,q⟩:=h;exact⟨a,H',b.offtry,q⟩
 |ret u=>obtain⟨v,a,H',b,r,q⟩:=h;exact⟨v,a,H',b.offtry,r,q⟩
end
def Ends.gone(D:Ends)(i:Nat):Ends:={nx:=λσ H=>D.nx (σ.set i none) H,rt:=D.rt,bk:=λσ H=>D.bk (σ.set i none) H,ct:=λσ H=>D.ct (σ.set i none) H}
def tTry(K:Frag)(C0:Addr)(i:Nat)(tb:XE->TS)(ts:TS):TS:=λD σ H =>
 tb (λσ' C od H'=>PySem.W.exmOne K C (.ref C0)=some true/\∀e,H' e=none->ts (D.gone i) (σ'.set i (some (.ref e))) (upd H' e (jA e C od))) D σ H
section
variable {X:Cx} {C0:Addr} {x n:Str} {np hpos pos:Pos} {i:Nat} {body suite:List Stmt} {b₀:Stmt} {tb:XE->TS} {ts:TS}
theorem Nu{d:PN}{D:Ends}{f:Flow}{s:Shared}{e:Addr}(ok:X.Ok)(o:X.N.Nodup)(hi:X.N[i]?=some n)(hl:X.env.scope.names.lookup n=some .local)(h:SP (X.suite e) d (D.gone i) f s):
  wpAny (model X.prog X.w) X.A (do bindName X.env n .none;unbindBehindTheSuite X.env n hpos) (λ_ s'=>SP X d D f s') X.xe s:=by
 have J:(X.env.scope.kind == .class || (X.env.scope.kind == .module && X.env.locals != X.env.globals))=false:=by rw[ok.kind];rfl
 have g:∀(a:St)(H':Hp),Inv (X.suite e) d a H' s->∀(R:Shared->Prop),(∀s',Inv X d (a.set i none) H' s'->R s') ->
   wpAny (model X.prog X.w) X.A (do bindName X.env n .none;unbindBehindTheSuite X.env n hpos) (λ_ s'=>R s') X.xe s:=by
  intro a H' b R F;have w:=b.offsuite ok;refine zA (wpAny_bindName (fJ (v:=.non) w o hi (.inl hl) rfl (λM p=>?_) (.inr hl)));obtain⟨m,j,t⟩:=p.loc;have G:i<a.length:=by rw[w.len];exact(pB.mp hi).1
  obtain⟨u,L,y⟩:=t i n .non hi (xS G) (.inl hl);have C:m n=some u:=by
   rcases y with⟨_,z⟩|⟨z,_⟩
   ·exact z
   ·rcases z with z|z <;> (have l:X.env.scope.names.lookup n=_:=z;rw[hl]at l;cases l)
  unfold unbindBehindTheSuite;refine tR (yF (wpAny_unbindName_local hl j C J λh' v I K=>?_) (λ_ _ q=>q) λ_ _ q=>xZ q);refine F _ ?_;have k:=p.unbind o hi hl j I K t;rw[List.set_set]at k;exact k
 cases f with
 |next=>obtain⟨a,H',b,q⟩:=h;exact g a H' b _ λs' c=>⟨_,H',c,q⟩
 |brk=>obtain⟨a,H',b,q⟩:=h;exact g a H' b _ λs' c=>⟨_,H',c,q⟩
 |cont=>obtain⟨a,H',b,q⟩:=h;exact g a H' b _ λs' c=>⟨_,H',c,q⟩
 |ret u=>obtain⟨v,a,H',b,r,q⟩:=h;exact g a H' b _ λs' c=>⟨v,_,H',c,r,q⟩
theorem Ev(g:X.stack=X.env:: X.outer)(w:X.env.frame=some X.env.locals)(N:X.ex=[])(O:X.N.Nodup)(hi:X.N[i]?=some n)(hl:X.env.scope.names.lookup n=some .local)
  (d4:Gl X x)(t:X.mg x=some (.ref C0))(b0:∀T E S,dM (X.body T E) S->PSs (X.body T E) body (tb S))(d5:∀e,PSs (X.suite e) (b₀:: suite) ts)
  (d6:(x == ("__debug__" :Str))=false:=by decide):PS X (.Try body [.ExceptHandler (some (.Name x np)) (some n) (b₀:: suite) hpos] [] [] pos) (tTry X.K C0 i tb ts):=by
 intro a s a3 H D I h;refine wpAny_Try_except (yF (b0 (X.pn++a) (λK c8=>wpAny (model X.prog X.w) X.A (noteFrame K X.env) (λ_ d7=>wpAny (model X.prog X.w) X.A (setFlight K none) (λ_ c0 =>
  wpAny (model X.prog X.w) X.A (handleBy K X.env [.ExceptHandler (some (.Name x np)) (some n) (b₀:: suite) hpos]) (SP X a D) X.xe c0) X.xe d7) X.xe c8) _ ?_ [] s a3 H D I.intry h) (λf c q=>?_) λ_ _ q=>q)
 ·-- an exception arrives
  intro e6 d H' c e C od b2 F b8;obtain⟨d8,b4⟩:=b8;have J:Inv X a d H' c:=b2.offtry;obtain⟨⟨B,a0,fl,j,d0⟩,c6⟩:=F;have G:Heap.FlyingW B (X.env:: X.outer) e C a0 c.heap:=g ▸ fl;have c2:X.A.frames=some (X.env:: X.outer):=I.ok.frames.trans (by rw[g]);have y:∀p∈X.pn++a,B.get? p.1=some p.2:=λp L=>d0 p (xJ _ L)
  -- where e lies
  have m:∀b o,B.get? b=some o->b≠e:=λb o q z=>by have:=G.2.1;rw[←z,q]at this;cases this
  obtain⟨e2,b5,r,e4,c1,_⟩:=G.first;have Z:e∉frs X.stack:=λt=>by
   obtain⟨_,o,W,c4⟩:=J.stack.mem t;rw[r]at W;cases W;exact c4 b5 c1
  have U:H' e=none:=by
   cases q:H' e with
   |none=>rfl
   |some v=>exact absurd rfl (m e _ (j e _ r Z (.inr ⟨v,q⟩)))
  have b3:X.s₀.heap.get? e=none:=by
   cases q:X.s₀.heap.get? e with
   |none=>rfl
   |some o=>exact absurd rfl (m e _ (j e _ r Z (.inl ⟨o,q⟩)))
  refine Ex c2 w G c6 λa7 a6 a2 M=>?_;refine dL (s:={c with heap:=a7}) a6 a2 λk l c9 Y=>?_;have a1:Inv X a d H' {c with heap:=k}:=J.flown g w N l.1 (M.trans Y) j y;have d3:Inv (X.suite e) a d H' {c with heap:=k}:=a1.insuite;obtain⟨e3,d1,d2⟩:=l.there;refine wpAny_handleBy_cons (codeAny_handlers_test (jL (X:=X.suite e) d3 d4 t ?_ d6)) (by intro q;cases q);have b1:PySem.W.Looks (model X.prog X.w) k (typeOf (.ref e)) C:=by
   rw[←d2];exact(rY d1).andThen .now
  refine(PySem.W.exm_one a1.kIn b1 d8).here ?_;show codeAny _ _ _ _ _;refine codeAny_handlers_suite_as ?_;refine Ma (s:={c with heap:=k}) l c9 λa5 V a9 c5=>?_;have b9:Inv X a d H' {c with heap:=a5}:=J.flown g w N V.1 ((M.trans Y).trans c5) j y;obtain⟨e0,vs,R,c3,c7,_⟩:=V.first;obtain⟨e5,P,b6⟩:=a9;rw[R]at P;cases P;have b7:=b9.trackE R c3 c7 b6 U b3 λp L=>m _ _ (y p L);refine fJ (X:=X.suite e) b7.insuite O hi (.inl hl) (show RelV (.ref e) (.ref e) from rfl) (λa8 a4=>?_) (.inr hl);refine yF (d5 e a a8 _ _ _ a4 (b4 e U)) (λf d9 q=>?_) λ_ _ q=>q.elim;exact Nu I.ok O hi hl q
 ·cases f with
  |next=>exact uR (SP.offtry q)
  |brk=>exact SP.offtry q
  |cont=>exact SP.offtry q
  |ret u=>exact SP.offtry q
end
section
variable {X:Cx}
theorem oW:OpR X (binaryOp .Mult) (rI (λi j=>IntMulOk i j) λi j=>.int (i*j)):=opI λ_ _ _ _ _ _ _ a q=>mul_int q a
def lX(_ j:Int):Prop:=j≠0/\j.natAbs.log2<9000
theorem mF:OpR X (binaryOp .FloorDiv) (rI lX λi j=>.int (i.fdiv j)):=opI λ_ _ _ _ _ _ _ a q=>floordiv_int a.1 q (.inl (PyProof.noPylong_of_log2 a.2))
end
mutual
inductive Dt(K:Frag)(H:Hp):V->PyData->Prop
 |non:Dt K H .non .none
 |bl (b):Dt K H (.bl b) (.bool b)
 |int (i):Dt K H (.int i) (.int i)
 |str (x):Dt K H (.str x) (.str x)
 |lst {a xs ds}:SqL K H a xs->Dts K H xs ds->Dt K H (.ref a) (.list ds)
 |tup {a xs ds}:SqT K H a xs->Dts K H xs ds->Dt K H (.ref a) (.tuple ds)
inductive Dts(K:Frag)(H:Hp):List V->List PyData->Prop
 |nil:Dts K H [] []
 |cons {x xs d ds}:Dt K H x d->Dts K H xs ds->Dts K H (x:: xs) (d:: ds)
end
theorem Dts.ints{K:Frag}{H:Hp}:∀(ns:LI'),Dts K H (ns.map V.int) (ns.map PyData.int)
 |[]=>.nil
 |n:: r=>.cons (.int n) (Dts.ints r)
section
variable {X:Cx} {pins:PN} {σ:St} {H:Hp} {s:Shared}
mutual
theorem Dt.reads(I:Inv X pins σ H s):∀{x:V}{d:PyData}{u:Value},Dt X.K H x d->RelV x u->∃as,Reads s.heap u d as
 |_,_,_,.non,r=>by cases(show _=Value.none from r);exact⟨_,.none⟩
 |_,_,_,.bl b,r=>by cases(show _=Value.bool b from r);exact⟨_,.bool b⟩
 |_,_,_,.int i,r=>by obtain⟨f,e⟩:=(show∃f,_=Value.int i f from r);cases e;exact⟨_,.int i f⟩
 |_,_,_,.str x,r=>by obtain⟨f,e⟩:=(show∃f,_=Value.str x f from r);cases e;exact⟨_,.str x f⟩
 |_,_,_,.lst (a:=a) h g,r=>by
  cases(show _=Value.ref a from r);obtain⟨its,j,⟨o,n,e,c,_,dd⟩,_⟩:=I.list h;obtain⟨as,q⟩:=Dts.reads I g j;exact⟨_,.list e c dd (by simpa using q)⟩
 |_,_,_,.tup (a:=a) h g,r=>by
  cases(show _=Value.ref a from r);obtain⟨its,j,⟨o,e,c,n,dd⟩,_⟩:=I.tuple h;obtain⟨as,q⟩:=Dts.reads I g j;exact⟨_,.tuple e c dd (by simpa using q)⟩
theorem Dts.reads(I:Inv X pins σ H s):∀{xs:List V}{ds:List PyData}{us:LW},Dts X.K H xs ds->Vals xs us->∃as,ReadsAll s.heap us ds as
 |_,_,_,.nil,r=>by cases r;exact⟨_,.nil⟩
 | _,_,_,.cons h d,r=>by
  cases r with
  |cons e a =>
   obtain⟨as,b⟩:=Dt.reads I h e;obtain⟨bs,c⟩:=Dts.reads I d a;exact⟨_,.cons b c⟩
end
end
section
variable {X:Cx}
def rEqD(K:Frag):R2:=λx y H Q=>∃d d',Dt K H x d/\Dt K H y d'/\SeqAt.shaped d=true/\SeqAt.shaped d'=true/\SeqAt.noMix d d'=true/\Q (.bl (same d d')) H
def rNeD(K:Frag):R2:=λx y H Q=>∃d d',Dt K H x d/\Dt K H y d'/\SeqAt.shaped d=true/\SeqAt.shaped d'=true/\SeqAt.noMix d d'=true/\Q (.bl (!same d d')) H
theorem Eu(g:X.A.units+64<cLine):OpR X (compareOp .Eq) (rEqD X.K):=by
 intro m s n H x y v u Q I i l h;obtain⟨d,d',b,e,k,f,j,q⟩:=h;obtain⟨as,c⟩:=b.reads I i;obtain⟨bs,a⟩:=e.reads I l;exact eq_dataH_same c a k f g j ⟨.bl (same d d'),H,I,rfl,q⟩
theorem Nt(g:X.A.units+64<cLine):OpR X (compareOp .NotEq) (rNeD X.K):=by
 intro m s n H x y v u Q I i l h;obtain⟨d,d',b,e,k,f,j,q⟩:=h;obtain⟨as,c⟩:=b.reads I i;obtain⟨bs,a⟩:=e.reads I l;exact ne_dataH_same c a k f g j ⟨.bl (!same d d'),H,I,rfl,q⟩
end
structure gM(K:Frag)(C:Addr):Prop where
 ga:PySem.W.findIn K (.ref C) "__getattribute__"=some (some (.builtin "BaseException.__getattribute__"))
 gt:PySem.W.findIn K (.ref C) "__getattr__"=some none
 ca:PySem.W.findIn K (.ref C) "__class__"=some (some (.builtin "object.__class__"))
 cg:PySem.W.specialIn K (.builtin "object.__class__") "__get__"=some (some (.builtin "getset_descriptor.__get__"))
 tk:PySem.W.takesIn K (.builtin "object.__class__")=some true
 ob:PySem.W.mroIn K C (.type "object")=some true
 bx:PySem.W.mroIn K C (.type "BaseException")=some true
 cl:(PySem.W.clsIn K C).isSome=true
theorem Nr{prog:Program}{w:World}{A:Around}{E:VP}{s:Shared}{K:Frag}{x C:Addr}{Q:Option Value->Shared->Prop}(F:gM K C)(KX:K.In s.heap)(b:∃o,s.heap.get? x=some o/\o.cls=.ref C)
  (h:Q (some (.ref C)) {s with toks:=s.toks+1}):wpAny (model prog w) A (getAttr? (.ref x) "__class__") Q E s:=by
 obtain⟨hh,g,d,e,y⟩:=s;obtain⟨o,b,a⟩:=b;have c:PySem.W.Looks (model prog w) hh (typeOf (.ref x)) (.ref C):=a ▸ (rY b).andThen .now;have u:=xV (M:=model prog w) KX F.ga;have k:=xV (M:=model prog w) KX F.gt;have q:=xV (M:=model prog w) KX F.ca;have m:=PySem.W.looks_specialIn (M:=model prog w) KX F.cg;have f:=PySem.W.looks_takesIn (M:=model prog w) KX F.tk;have t:=uP (M:=model prog w) KX F.ob;have j:=uP (M:=model prog w) KX F.bx;unfold getAttr? getAttrBy? getAttrBy;refine zA (qJ (zA (wJ (yL (zA (c.at (zA (u.at ?_))))))));show wpAny _ _ (getAttrByItsOwn _ _ _ _ _ _) _ _ _;unfold getAttrByItsOwn;refine zA (show wpAny _ _ (hookBefore (.ref C)) _ _ _ from k.at ?_);refine zA (wJ (yL ?_));show wpAny _ _ (boundAndCalled _ _ _) _ _ _;unfold boundAndCalled;rw[PySem.F.attr_ValueError.ga.bind (.ref x)];refine zA (zB (vS ?_));refine vA PySem.F.attr_ValueError.ga.plain PySem.F.entry_bexc_ga ?_;have i:builtinKind "BaseException.__getattribute__"=some .slot:=nofun
 have n:splitId "BaseException.__getattribute__"=some ("BaseException","__getattribute__"):=nofun
 have v:=PySem.F.args_bexc_ga (.ref x) (.str "__class__" e);have r:PySem.W.Looks (model prog w) hh (isInstance (.ref x) (.type "BaseException")) true:=c.andThen j;show wpAny _ _ (checkBuiltinCall "BaseException.__getattribute__" ⟨[.ref x,.str "__class__" e],[]⟩) _ _ _;simp only[checkBuiltinCall,i,n];refine zA (r.at ?_)
 repeat wp_step
 rw[a];refine q.at ?_;refine zA (show wpAny _ _ (Builtin.ObjectAttr.getOf (some (.builtin "object.__class__"))) _ _ _ from m.at ?_);have l:PySem.W.Looks (model prog w) hh (Builtin.ObjectAttr.dataDescriptor? (some (.builtin "object.__class__")) (some (.builtin "getset_descriptor.__get__"))) (some (.builtin "getset_descriptor.__get__",.builtin "object.__class__")):=f.andThen .now;refine zA (l.at ?_)
 repeat wp_step
 have p:PySem.W.Looks (model prog w) hh (isInstance (.ref x) (.type "object")) true:=c.andThen t;refine vA PySem.W.KF.slot_gs.plain PySem.W.KF.entry_gs (PySem.W.KF.slot_gs.check _ _ _ _ _ _ _ _ PySem.W.KF.type_class (PySem.W.KF.args_gs _ _ _) ?_)
 (unfold Builtin.«getset_descriptor.__get__» Builtin.Getset_descriptor.descrGet;rw[PySem.W.dga_obj];refine zA (zB ?_))
 (unfold Builtin.Getset_descriptor.descrGetter Builtin.Getset_descriptor.descrCheckInstance Builtin.Getset_descriptor.descrNameAndClass;simp only[PySem.W.KF.owner_class])
 refine zA (zA (zB (zA (p.at (zB ?_)))))
 repeat wp_step
 refine⟨rD _ (nofun),uS PySem.W.KF.entry_class ?_⟩
 (unfold Builtin.«object.__class__» shownTypeOf;repeat wp_step)
 rw[a];exact zB (zB h)
theorem Nq{K:Frag}{x C:Addr}(F:gM K C):PySem.W.KitX K (.ref x) (.ref C) (λh=>∃o,h.get? x=some o/\o.cls=.ref C) where
 ty:=λM h _⟨o,f,b⟩=>b ▸ (rY f).andThen .now
 it:=λM h KX _=>by
  have q:=F.cl;unfold PySem.W.clsIn at q;split at q
  ·next a =>
   intro l j i s' k z
   (unfold isType loadHead;exact zA (sW (k _ _ (KX _ _ a)) (zB z)))
  ·cases q
 ne:=λh c dd its n m KX d=>by
  have q:=F.cl;refine Bool.eq_false_iff.mpr λz=>?_;have e:C=c:=Value.ref.inj (qV.mp z);subst e;unfold PySem.W.clsIn at q;split at q
  ·next a=>exact absurd ((KX _ _ a).symm.trans d) (by intro g;cases g)
  ·cases q
 ca:=λKX p k=>Nr F KX p k
inductive TyX(K:Frag)(H:Hp):V->Value->Prop where
 |ty {x:V} {t:Value} (h:TyOf K H x t):TyX K H x t
 |exc {e C:Addr} {od:Option Addr} (h:H e=some (jA e (.ref C) od)) (F:gM K C):TyX K H (.ref e) (.ref C)
 |tupS {a:Addr} {xs:List V} (h:SqT K H a xs):TyX K H (.ref a) (.type "tuple")
def clsV:V->Value
 |.ty n=>.type n
 |.ref a=>.ref a
 |_=>.none
def Et:V->Bool
 |.ty _=>true
 |.ref _=>true
 |_=>false
def rIsi(K:Frag):List V->Hp->VK->Prop:=λvs H Q=>∃x c t b,vs=[x,c]/\TyX K H x t/\Et c=true/\PySem.W.kitOne K t (clsV c)=some b/\Q (.bl b) H
theorem mG{X:Cx}:mI X (.builtin "isinstance") (rIsi X.K):=by
 intro j s k H xs us Q I l h;obtain⟨x,c,r,b,rfl,ty,p,e,q⟩:=h;obtain⟨u,w,rfl,d,f⟩:=l.two;have m:w=clsV c:=by
  cases c <;> first|exact f|cases p
 subst m;have a:∀tk,EP X j k Q (.bool b) {s with toks:=tk}:=λtk=>⟨.bl b,H,I.tok tk,rfl,q⟩;cases ty with
 |ty h=>exact Li I d h e a
 |exc h F =>
  obtain rfl:u=_:=d;obtain⟨⟨i,k1,k2,_⟩,_,_⟩:=(show oK X.prog X.w H s.heap _ (jA _ _ _) from I.hok _ _ h);exact xE (Nq F) I.kIn ⟨i,k1,k2⟩ e (λz=>nomatch z) a
 |tupS h =>
  obtain rfl:u=_:=d;obtain⟨its,_,⟨o,g,n,_⟩,_⟩:=I.tuple h;exact xE PySem.W.kitx_tuple I.kIn ⟨o,g,n⟩ e (λz=>nomatch z) a
structure lC(k:Nat)(A:Around):Prop where
 dp:A.depth+3*k+5<recursionLimit
 un:A.units+16*k+200<cLine
theorem Room.a{k:Nat}{A:Around}(r:Room k A):lC k A:=⟨r.dp,r.un⟩
theorem lC.mono{j k:Nat}{A:Around}(r:lC k A)(h:j<=k):lC j A:=⟨by have:=r.dp;omega,by have:=r.un;omega⟩
theorem lC.deeper{k:Nat}{A:Around}(r:lC (k+1) A)(env:Env):lC k (A.deeper env):=
 ⟨by have:=r.dp;show A.depth+1+3*k+5<_;omega,by have:=r.un;show A.units+3+16*k+200<_;omega⟩
theorem lC.mark{k:Nat}{A:Around}(r:lC k A)(v:Option Value):lC k (A.mark v):=⟨r.dp,r.un⟩
theorem lC.calm{k:Nat}{A:Around}(r:lC k A):Room k {A with handled:=none}:=⟨rfl,r.dp,r.un⟩
structure fR(P:Program)(w:World)(K:Frag)(mg:MT)(base:Heap)(k:Nat)(f:Addr)(fd:FuncData)(ps:List Str)(sp:Sp):Prop where
 len:∀vs H Q E,sp vs H Q E->vs.length=ps.length
 run:∀(A:Around)(outer:List Env)(s:Shared)(H:Hp)(args:Args)(us:LW)(vs:List V)(Q:VK)(E:XK),lC k A->Env0 P w K mg base A outer s H->BindsTo s fd args (ps.zip us)->Vals vs us->sp vs H Q E ->
  codeAny (model P w) A (.call (.ref f) args) (CR CX0 outer P w H s Q E) s
abbrev cxA(P:Program)(w:World)(K:Frag)(mg:MT)(base:Heap)(N:List Str)(qual:Str)(scope:Scope)(f:Addr)(cd:Value)(A:Around)(outer:List Env)(s:Shared)(H:Hp)(E:XK):Cx:=
 {cxOf CX0 P w K mg base N qual scope f cd A outer s H E with calm:=false,xe:=λ_ _=>False}
section
variable {P:Program} {w:World} {K:Frag} {mg:MT} {base:Heap}
theorem Fun.okA{x g:Str}{st:Stmt}{f:Addr}{D:FuncData}{N ps:List Str}{k:Nat}{l:Sp}(F:Fun K x g st f D)(i:pX N ps (pM st))(len:∀vs H Q E,l vs H Q E->vs.length=ps.length)
  (T:∀(cdv:Value)(A:Around)(outer:List Env)(s:Shared)(H:Hp)(vs:List V)(Q:VK)(E:XK),lC k (A.deeper (envOfC g (pM st) s.heap.objs.size f cdv))->l vs H Q E ->
   ∃m,PSs (cxA P w K mg base N g (pM st) f cdv A outer s H E) (nR st) m/\m {nx:=λ_ H'=>Q .non H',rt:=Q} (mY N vs) H):fR P w K mg base (k+1) f D ps l:=by
 obtain⟨a4,od,kV,a1,Y,a3,cdv,a2,Z,rfl,G,U⟩:=F.ex;refine⟨len,λA outer s H a0 us vs Q E hr c L r C=>?_⟩;have hl:=len _ _ _ _ C;have p:∀b o,base.get? b=some o->s.heap.get? b=some o:=λb o e=>(c.bs b o e).1;have X:∀y∈ps.zip us,(pM st).names.lookup y.1=some .local\/((pM st).names.lookup y.1=some .cell/\((cellsFrom (s.heap.objs.size+1) (pM st).names []).lookup y.1).isSome=true):=λ⟨n,v⟩M=>by
  rcases i.par n (uT M).1 with q|q
  ·exact .inl q
  ·exact .inr ⟨q,tM _ _ _ (.inl q)⟩
 refine codeAny_call_function (by have:=hr.dp;omega) (c.mod.kin.keeps p _ _ G) rfl i.co i.gen rfl (PySem.W.codeRec_of (c.mod.kin.keeps p) U) (L _ _ _ _ ?_);refine wpAny_newFunctionEnv_cells i.kind X λenv R t x=>?_;subst R;refine⟨(c.mod.nolimit.keeps p).keeps x.toInCall.keep,codeAny_func ?_⟩;obtain⟨m,O,W⟩:=T cdv A outer s H vs Q E (hr.deeper _) C;have a:Inv (cxOf CX0 P w K mg base N g (pM st) f cdv {A with handled:=none} outer s H E) [] (mY N vs) H t:=
  Dr i rfl (⟨c.frames,c.mod,c.bs,c.bsz,c.funs,c.frf,c.hok,c.bare⟩:Env0 P w K mg base {A with handled:=none} outer s H) hl r x
 have I:Inv (cxA P w K mg base N g (pM st) f cdv A outer s H E) [] (mY N vs) H t:=
  ⟨⟨a.ok.mod,a.ok.kind,a.ok.glob,a.ok.blt,a.ok.above,a.ok.inj,a.ok.has,a.ok.cab,(λz=>by cases z),Around.frames_deeper c.frames,a.ok.stk,a.ok.exf,a.ok.bs,a.ok.bsz,a.ok.noex,a.ok.exfs,a.ok.funs,a.ok.frf⟩,
   a.os,a.bare,a.base,a.loc,a.cell,a.free,a.freeC,a.pin,a.hok,a.len⟩
 refine yF (O [] t (mY N vs) H _ I W) (λfl s' j=>?_) λ_ _ z=>z.elim;cases fl with
 |ret u=>obtain⟨v,S,H',d,J,q⟩:=j;exact⟨v,H',d.os,d.bare,d.base,d.hok,J,q⟩
 |next=>obtain⟨S,H',d,q⟩:=j;exact⟨.non,H',d.os,d.bare,d.base,d.hok,rfl,q⟩
 |brk=>obtain⟨_,_,_,q⟩:=j;exact q.elim
 |cont=>obtain⟨_,_,_,q⟩:=j;exact q.elim
end
section
variable {X:Cx} {k:Nat} {f:Addr} {fd:FuncData} {ps:List Str} {sp:Sp} {dvs:List V} {ds:LW} {x:Str} {p pos:Pos} {e:Expr} {es:List Expr} {t:TA}
theorem Es(F:fR X.prog X.w X.K X.mg X.base k f fd ps sp)(hr:lC k X.A)(m:Gl X x)(C:X.mg x=some (.ref f))(y:PySem.W.keepIn X.K (.ref f)=true)(w:nD X.K fd ps ds)(g:Vals dvs ds)
  (l:PA X (e:: es) t)(n:(x == ("__debug__" :Str))=false:=by decide)(v:starEach (e:: es) X.env=(false,eval e X.env):: starEach es X.env:=by rfl)(o:(backTo pos (starEach es X.env)).any (·.1)=false:=by rfl):
  PE X (.Call (.Name x p) (e:: es) [] pos) (oV sp dvs E0 t):=by
 intro i s j H Q I h;refine wS (jL I m C ?_ n);refine vR (h₀:=X.base) I.ok.mod.kin y (thn (l pos i s j H _ I h) λus d⟨vs,z,b,r,q⟩=>⟨b.kIn,?_⟩) v o;have c:Vals (vs++dvs) (us++ds):=r.append g;have hl:(us++ds).length=ps.length:=by rw[←c.length];exact F.len _ _ _ _ q
 refine vS (uC (F.run X.A X.stack d z ⟨us,[]⟩ (us++ds) (vs++dvs) Q E0 hr b.env0 (w d us b.kIn hl) c q) λr s' a=>?_);cases r with
 |error e=>exact False.elim a
 |ok fl =>
  cases fl with
  |ret u=>exact b.after a
  |next=>exact False.elim a
  |brk=>exact False.elim a
  |cont=>exact False.elim a
end
section
variable {X:Cx}
theorem lK:OpR X (compareOp .Eq) (rI0 λi j=>.bl (decide (i=j))):=opB0 λi j _ _ _ _ _ q=>eq_int (by rw[Bool.beq_eq_decide_eq];exact q)
theorem mJ:OpR X (compareOp .NotEq) (rI0 λi j=>.bl (!decide (i=j))):=opB0 λi j _ _ _ _ _ q=>ne_int (by rw[bne,Bool.beq_eq_decide_eq];exact q)
theorem PS.nox{st:Stmt}{a:TS}(h:PS X.nox st a):PS X st a:=λd s b H D I c =>
 yF (h d s b H D (I.wish _) c) (λ_ _ q=>q.unwish) λ_ _ z=>z.elim
end
section
variable {P:Program} {w:World} {K:Frag} {mg:MT} {base:Heap}
theorem Fun.okX{x b:Str}{st:Stmt}{f:Addr}{c:FuncData}{N ps:List Str}{k:Nat}{a:Sp}(F:Fun K x b st f c)(j:pX N ps (pM st))(len:∀vs H Q E,a vs H Q E->vs.length=ps.length)
  (g:∀(cdv:Value)(A:Around)(outer:List Env)(s:Shared)(H:Hp)(vs:List V)(Q:VK)(E:XK),Room k (A.deeper (envOfC b (pM st) s.heap.objs.size f cdv))->a vs H Q E ->
   ∃d,PSs (cxOf (CX1 P w) P w K mg base N b (pM st) f cdv A outer s H E) (nR st) d/\d {nx:=λ_ H'=>Q .non H',rt:=Q} (mY N vs) H):FnOk P w K mg base (CX1 P w) (k+1) f c ps a:=by
 obtain⟨r,od,kV,m,q,p,cdv,o,n,rfl,e,l⟩:=F.ex;exact dG e l j len λA outer s H vs Q E hr i=>g cdv A outer s H vs Q E hr i
end
end L2
namespace Att
open PySem PySem.W PySem.Calls PyProof.Rows
theorem Er:∀ns:LI',ofPys (ns.map PyData.int)=ns.map WData.int
 |[]=>rfl
 |n:: r=>by
  show ofPy (.int n):: ofPys (r.map PyData.int)=_;rw[Er r];rfl
theorem Np{ns:LI'}(h:(WData.list (ns.map WData.int)).layable=true):∀n∈ns,Builtin.Int.intBits n<=1048576:=λn b=>by
 have e:ofPy (.list (ns.map PyData.int))=WData.list (ns.map WData.int):=by
  show WData.list (ofPys (ns.map PyData.int))=_;rw[Er]
 have a:PySem.Spec.Shape.has (.list .int) (.list (ns.map PyData.int))=true:=by
  simp[PySem.Spec.Shape.has]
 exact intBits_le_of_item b (layable0_of_all (lay0_ofPy (s:=.list .int) rfl a (by rw[e];exact h)))
theorem attach_callB{l:OpenLaw}{n:Nat}{q:Program}{p:List Str}{j:(MT)->Heap->Prop}{k:World->Heap->Prop}{d:DefRec}(z:l.most=some n)(S:d.params.defaults=[])
  (call:∀(w:World)(i b:Shared)(e g:MT)(c:Addr)(a:Addr)(vs:LW)(ns:LI'),Ground q p [] j w i e g b.heap->k w b.heap->e d.name=some (.ref c) ->
   b.heap.get? a=some {cls:=.type "list",data:=.seq vs.toArray}->IntsAre vs ns->ns.length<=n->(∀m∈ns,Builtin.Int.intBits m<=1048576)->b.gens=#[] ->
   codeAny (model l.prog w) callerA (.call (.ref c) ⟨[.ref a],[]⟩) (λr s'=>r=.ok (.ret (.bool true))/\OldK b.heap s'.heap/\s'.os=b.os/\AllBare s'.gens) b):
  WalkO q p j k l.row.toRowW d [] (λf vs=>PySem.call f vs):=by
 intro w i b e g G R c o T Z a0 M kV W a1 X t N P U vals as u F V J Y;obtain rfl:M=.none:=Dflts.none t S;obtain rfl:kV=.none:=Dflts.noKw t;obtain⟨a,vs,ns,rfl,rfl,L,y,x⟩:=Me z u J;have D:=Np (layableW_arg F _ zQ);refine enter_call (uC (call w i b e g c a vs ns G R N L y x D P) λr s' O=>?_);obtain⟨rfl,I,C,v⟩:=O;exact⟨.inl ⟨.bool true,.bool true,[],rfl,λ_=>rfl,.bool true,Md l _,λ_=>⟨List.Pairwise.nil,λ_ K=>(nomatch K)⟩⟩,I,C,v⟩
end Att
namespace L2
open PySem PySem.Spec PyProof.Rows
open PySem.W (Frag)
def Ep(K:Frag):Sp:=λvs H Q _=>∃(a:Addr)(ns:LI'),vs=[.ref a]/\SqL K H a (ns.map V.int)/\ns.length<=63/\(∀m∈ns,Builtin.Int.intBits m<=1048576)/\∀H',Q (.bl true) H'
theorem walkB{l:PySem.W.OpenLaw}{k:Nat}{q:Program}{I:List Str}{o:(MT)->Heap->Prop}{j:World->Heap->Prop}{d:DefRec}{K:Params->Frag}{x:Str}
  (n:l.most=some 63)(M:d.params.defaults=[])(hr:Room k callerA)(D:∀(w:World)(h:Heap),j w h->(K w.params).In h)
  (F:∀(w:World)(b:MT)(c:Addr)(h:Heap),(K w.params).In h->h.Ns mainGlobals b->b d.name=some (.ref c) ->
   ∃g:FuncData,(∀(s:Shared)(u:Value),BindsTo s g ⟨[u],[]⟩ [(x,u)])/\∀base:Heap,(K w.params).In base->base.Ns mainGlobals b->FnOk l.prog w (K w.params) b base CX0 k c g [x] (Ep (K w.params))):
  PySem.W.WalkO q I o j l.row.toRowW d [] (λf vs=>PySem.call f vs):=by
 refine Att.attach_callB n M λw O P b N c a vs ns G L C y m i p J=>?_;have KX:=D w _ L;obtain⟨g,v,r⟩:=F w b c _ KX G.T.g C;exact Mc KX G.T.g G.T.b G.T.builtins G.T.nolimit J y m (zR i ∅) hr r v (λH _ t=>⟨a,ns,rfl,t,i,p,λ_=>rfl⟩) λH e s' z=>z
theorem lN{d:TI}{g:TG}{tb:TS}{D:Ends}{a:St}{H:Hp}(h:∀B:TS,B=tb->d a H λc k=>∃b:Nat->Nat->St->Hp->Prop,(∃m,b 0 m a k)/\∀i m a H,b i m a H ->
  (c.stop i H/\D.nx a H)\/(c.go i H/\∃N:St->Hp->Prop,(∀f H',N f H'->∃e,e<m/\b (i+1) e f H')/\∀x H',c.yld i H x H'->g x a H' λj l=>B {D with nx:=N,ct:=N,bk:=D.nx} j l)):tFor d g tb D a H:=h _ rfl
theorem Eo{c:TT}{tb:TS}{D:Ends}{a:St}{H:Hp}(h:∀B:TS,B=tb->∃d:Nat->St->Hp->Prop,(∃m,d m a H)/\∀m a H,d m a H ->
  c a H λb g=>if b=true then∃N:St->Hp->Prop,(∀f H',N f H'->∃e,e<m/\d e f H')/\B {D with nx:=N,ct:=N,bk:=D.nx} a g else D.nx a g):Ck c tb D a H:=h _ rfl
theorem st{b u:TS}{D:Ends}{a:St}{H:Hp}(h:∀c:St->Hp->Prop,c=u D->b {D with nx:=c} a H):tSeq b u D a H:=h _ rfl
section
variable {g:Int->Int->V} {C:Int->Int->Prop} {f:Int->V} {i j:Int} {H:Hp} {Q:VK}
theorem r_W:rI0 g (.int i) (.int j) H Q=Q (g i j) H:=propext ⟨λ⟨_,_,e1,a,q⟩=>by cases e1;cases a;exact q,λq=>⟨_,_,rfl,rfl,q⟩⟩
theorem t_i:rI C g (.int i) (.int j) H Q=(C i j/\Q (g i j) H):=propext ⟨λ⟨_,_,e1,a,q⟩=>by cases e1;cases a;exact q,λq=>⟨_,_,rfl,rfl,q⟩⟩
theorem t_j:rU f (.int i) H Q=Q (f i) H:=propext ⟨λ⟨_,e1,q⟩=>by cases e1;exact q,λq=>⟨_,rfl,q⟩⟩
end
theorem Same.new{H:Hp}{a:Addr}{o:HO}(h:H a=none):Same H (upd H a o):=λb u e=>by rw[pR (oY e h)];exact e
theorem Same.over{H c:Hp}{a:Addr}{o:HO}(h:H a=none)(s:Same H c):Same H (upd c a o):=λb u e=>by rw[pR (oY e h)];exact s b u e
theorem Same.tup{K:Frag}{H H':Hp}{a:Addr}{xs:List V}(e:Same H H')(h:SqT K H a xs):SqT K H' a xs:=by
 rcases h with(h|⟨o,h⟩)|h
 ·exact .inl (.inl (e _ _ h))
 ·exact .inl (.inr ⟨o,e _ _ h⟩)
 ·exact .inr h
section
variable {K:Frag} {a b:Addr} {xs:List V} {te:TE} {fr:List (Str×Nat)} {σ:St} {H:Hp} {Q:VK}
def t_J(H:Hp)(a:Addr)(R:Nat->V->Prop)(i:Nat)(H1:Hp):Prop:=Same H H1/\∃ys:List V,H1 a=some (.lst ys)/\ys.length=i/\∀j y,ys[j]?=some y->R j y
end
theorem nE{b a:Type}{ys:List a}{xs:List b}{f:b->a}(hl:ys.length=xs.length)(h:∀(j:Nat)(y:a),ys[j]?=some y->∃x,xs[j]?=some x/\y=f x):ys=xs.map f:=by
 refine xQ (by simpa using hl) λi d g=>?_;obtain⟨x,e1,c⟩:=h i ys[i] (by simp[d]);obtain⟨k,e⟩:=pB.mp e1;rw[xU,c,e]
def kE(sc scope:Scope):Scope:={scope with names:=scope.names.map λ(n,k)=>if(k == .free && sc.kind == .function && sc.names.lookup n == some .cell) then(n,.cell) else(n,k)}
theorem No{a sc:Scope}{env:Env}(h:env.scope=sc):relabel a env=kE sc a:=by subst h;rfl
theorem fS:∀(a:List (Str×NameKind))(n:Nat)(acc:List (Str×Addr)),cellsFrom n a acc=cellsFrom n a []++acc
 |[],_,_=>rfl
 |(x,k):: r,n,acc=>by
  unfold cellsFrom;split
  ·rw[fS r (n+1) ((x,n):: acc),fS r (n+1) [(x,n)],wX];rfl
  ·exact fS r n acc
theorem aM{y:Str}{b:Addr}:∀{a:List (Str×NameKind)}{n:Nat}{acc:List (Str×Addr)},(y,b)∈cellsFrom n a acc->(y,b)∈acc\/(y,NameKind.cell)∈a
 |[],_,_,h=>.inl h
 | (x,k):: r,n,acc,h=>by
  unfold cellsFrom at h;split at h
  ·rename_i c;rcases aM h with q|q
   ·rcases yQ.mp q with e|e
    ·have d:k=.cell:=by simpa using c
     cases e;exact .inr (by rw[d];exact zQ)
    ·exact .inl e
   ·exact .inr (zM _ q)
  ·rcases aM h with q|q
   ·exact .inl q
   ·exact .inr (zM _ q)
theorem fU{y:Str}:∀{a:List (Str×NameKind)}{n:Nat}{acc:List (Str×Addr)},((y,NameKind.cell)∈a\/∃b,acc.lookup y=some b)->∃b,(cellsFrom n a acc).lookup y=some b
 |[],_,_,h=>by
  rcases h with h|h
  ·simp at h
  ·exact h
 | (x,k):: r,n,acc,h=>by
  unfold cellsFrom;split
  ·rename_i c;refine fU ?_;rcases h with h|⟨b,h⟩
   ·rcases yQ.mp h with e|e
    ·cases e;exact .inr ⟨n,by rw[yY];simp⟩
    ·exact .inl e
   ·rw[yY];cases hx:y == x with
    |true=>exact .inr ⟨n,rfl⟩
    |false=>exact .inr ⟨b,h⟩
  ·rename_i c;refine fU ?_;rcases h with h|h
   ·rcases yQ.mp h with e|e
    ·cases e;simp at c
    ·exact .inl e
   ·exact .inr h
theorem aN{env:Env}{q:NameKind}:∀{d:List (Str×NameKind)}{x:Str},
  (d.map λ(n,k)=>if(k == NameKind.free && env.scope.kind == .function && env.kindOf n == some .cell) then(n,NameKind.cell) else(n,k)).lookup x=some q ->
  (q=.cell\/q=.free)->(x,NameKind.free)∈d\/(x,NameKind.cell)∈d
 |[],_,h,_=>by simp at h
 | (n,k):: r,x,h,f=>by
  have g:=@aN env q r x;rw[zH]at h;dsimp only at h
  by_cases c:(k == NameKind.free && env.scope.kind == .function && env.kindOf n == some .cell)=true
  ·rw[zG c,yY]at h;cases hx:x == n with
   | true =>
    have a:x=n:=by simpa using hx
    have b:k=.free:=by
     have:=(zO _ _ ▸ ((zO _ _ ▸ c).1)).1;simpa using this
    rw[a,b];exact .inl zQ
   |false =>
    rw[hx]at h;exact(g h f).imp (zM _) (zM _)
  ·rw[zE c,yY]at h;cases hx:x == n with
   |true =>
    rw[hx]at h;have a:x=n:=by simpa using hx
    have b:k=q:=zP h;rcases f with e|e
    ·rw[a,b,e];exact .inr zQ
    ·rw[a,b,e];exact .inl zQ
   |false =>
    rw[hx]at h;exact(g h f).imp (zM _) (zM _)
theorem En{d:Type}{x:Str}{k b:d}:∀{l:List (Str×d)},(l.map (·.1)).Nodup->(x,k)∈l->(x,b)∈l->k=b
 |(n,q):: r,g,h,h'=>by
  obtain⟨c,f⟩:=sG.mp g;rcases yQ.mp h with e|e <;> rcases yQ.mp h' with a|a
  ·cases e;cases a;rfl
  ·cases e;exact absurd (pI.mpr ⟨_,a,rfl⟩) c
  ·cases a;exact absurd (pI.mpr ⟨_,e,rfl⟩) c
  ·exact En f e a
theorem Nn{M:Model}{A:Around}{E:VP}{s:Shared}{a:Scope}{e:Addr}{f:List (Str×Addr)}{d:Str}{b:Option Addr}{c:Value}{env:Env}{bl:Addr}{Q:Env->Shared->Prop}
  (h:Q (newEnv a s.heap.objs.size e (cellsFrom (s.heap.objs.size+1) a.names f) d b c (some env) bl) {s with heap:=pushCells (s.heap.push {cls:=.type "dict",data:=.dict #[]}) a.names}):
  wpAny M A (newFunctionEnv a e f [] d b c (some env) bl) Q E s:=by
 simp only[newFunctionEnv,Option.isSome_some,if_true];refine zA (wpAny_alloc ?_);refine zA (wpAny_layCells _ (λname g cells=>by cases hkc:g == NameKind.cell <;> simp[hkc]) _ _ _ _ ?_);rw[show({s with heap:=s.heap.push {cls:=.type "dict",data:=.dict #[]}}:Shared).heap.objs.size=s.heap.objs.size+1 from xH ..];exact zB h
def nJ(X:Cx)(scope:Scope)(N:List Str)(s:Shared)(H:Hp)(fp:LA):Cx:=
 {X with N:=N,s₀:=s,H₀:=H,env:=compEnvC scope (cellsFrom (s.heap.objs.size+1) scope.names (clOf X.env scope.names [])) s.heap.objs.size X.env,outer:=X.stack,ex:=fp,fn:=λy=>scope.names.lookup y == some .cell,pn:=[],xe:=λ_ _=>False}
structure kM(X:Cx)(sc scope:Scope)(xs:List Str)(fr:List (Str×Nat)):Prop where
 hsc:X.env.scope=sc
 kind:scope.kind=.function
 nn:(scope.names.map (·.1)).Nodup
 free:∀y∈scope.names,y.2=.free->sc.names.lookup y.1=some .cell\/sc.names.lookup y.1=some .free
 loc:∀y∈scope.names,y.2=.local->scope.names.lookup y.1=some .local
 fr:∀p∈fr,X.N[p.2]?=some p.1/\scope.names.lookup p.1=some .free
section
variable {X:Cx} {sc scope:Scope} {xs:List Str} {fr:List (Str×Nat)}
theorem kM.free'(c:kM X sc scope xs fr):∀y∈scope.names,y.2=.free->X.env.kindOf y.1=some .cell\/X.env.kindOf y.1=some .free:=λy a b=>by
 unfold Env.kindOf;rw[c.hsc];exact c.free y a b
theorem kM.cells{e:PN}{a:St}{H:Hp}{s:Shared}(c:kM X sc scope xs fr)(I:Inv X e a H s):∀y∈scope.names,y.2=.free->∃c,X.env.cells.lookup y.1=some c:=
 λy d b=>I.ok.has y.1 (c.free' y d b)
theorem kM.was{d:PN}{a:St}{H:Hp}{s:Shared}(c:kM X sc scope xs fr)(I:Inv X d a H s){y:Str}{b:Addr}(h:(clOf X.env scope.names []).lookup y=some b):X.env.cells.lookup y=some b:=by
 rcases De (c.cells I) h with q|q
 ·simp at q
 ·exact q
theorem gN{a:List (Str×NameKind)}{n:Nat}{d:List (Str×Addr)}{y:Str}{b:Addr}(h:(cellsFrom n a d).lookup y=some b):(cellsFrom n a []).lookup y=some b\/((cellsFrom n a []).lookup y=none/\d.lookup y=some b):=by
 rw[fS,List.lookup_append]at h;cases q:(cellsFrom n a []).lookup y with
 |none=>rw[q]at h;exact .inr ⟨rfl,h⟩
 |some c=>rw[q]at h;exact .inl h
theorem Nm{x:PN}{g:St}{H:Hp}{s:Shared}{G:LA}(c:kM X sc scope xs fr)(I:Inv X x g H s)
  (C:∀b∈G,FpOk X x H b/\∃o,s.heap.get? b=some o):
  Inv (nJ X scope (xs++fr.map (·.1)) s H G) [] (xs.map (λ_=>none)++mE fr g) H {s with heap:=pushCells (s.heap.push {cls:=.type "dict",data:=.dict #[]}) scope.names}:=by
 have k:∀b o,s.heap.get? b=some o->(pushCells (s.heap.push {cls:=.type "dict",data:=.dict #[]}) scope.names).get? b=some o:=λb o e=>qD _ _ b o (zC _ e);have F:(pushCells (s.heap.push {cls:=.type "dict",data:=.dict #[]}) scope.names).Ns s.heap.objs.size (λ_=>none):=(Heap.Ns.new s.heap (.type "dict")).keeps (qD _ _);have ok:=cellsFrom_ok scope.names (s.heap.push {cls:=.type "dict",data:=.dict #[]}) (s.heap.objs.size+1) [] ⟨λ_ _ d=>(nomatch d),List.Pairwise.nil⟩ (by rw[xH];exact zF _);rw[xH]at ok;have r:Inv X x g H {s with heap:=pushCells (s.heap.push {cls:=.type "dict",data:=.dict #[]}) scope.names}:=I.kept (t':=s.toks) k;generalize hh:pushCells (s.heap.push {cls:=.type "dict",data:=.dict #[]}) scope.names=W at k F ok r;have J:∀{y:Str}{b:Nat},(clOf X.env scope.names []).lookup y=some b->b<s.heap.objs.size:=λ{y b}e=>by
  obtain⟨v,z⟩:=I.cell y b (c.was I e);exact z.lt
 have own:∀{y:Str}{b:Nat},(cellsFrom (s.heap.objs.size+1) scope.names []).lookup y=some b->W.IsCell b none/\s.heap.objs.size+1<=b:=λ{y b}e=>ok.empty y b (mem_of_lookup e);refine⟨⟨I.ok.mod,c.kind,I.ok.glob,I.ok.blt,zF _,λy z b t a=>?_,λy m=>?_,λy b P t=>?_,I.ok.hd,I.ok.frames,.inl rfl,λb l=>?_,λb o e=>?_,?_,λb o e l=>?_,λb l a0=>?_,?_,λb l=>?_⟩,
  rfl,I.bare,Un.kept k,⟨_,F,λi y v t a a3=>?_⟩,λy b h=>?_,?_,λy b h=>?_,λp a2=>absurd (show p∈([]:PN) from a2) (by simp),r.hok,?_⟩
 ·rcases gN t with e1|⟨_,e1⟩ <;> rcases gN a with f|⟨_,f⟩
  ·exact name_of_addr ok.apart (mem_of_lookup e1) (mem_of_lookup f)
  ·exact absurd (zI (J f) (rH (own e1).2)) (yP _)
  ·exact absurd (zI (J e1) (rH (own f).2)) (yP _)
  ·exact I.ok.inj y z b (c.was I e1) (c.was I f)
 ·show∃b,(cellsFrom (s.heap.objs.size+1) scope.names (clOf X.env scope.names [])).lookup y=some b;have d:(y,NameKind.free)∈scope.names\/(y,NameKind.cell)∈scope.names:=by
   rcases m with m|m
   ·exact aN m (.inl rfl)
   ·exact aN m (.inr rfl)
  rcases d with d|d
  ·exact fU (.inr (aK (.inl d)))
  ·exact fU (.inl d)
 ·have m:scope.names.lookup y=some .cell:=by
   have T:(scope.names.lookup y == some NameKind.cell)=true:=P;simpa using T
  rcases gN t with e1|⟨e1,_⟩
  ·have:=(own e1).2;show s.heap.objs.size<=b;omega
  ·obtain⟨D,e⟩:=fU (n:=s.heap.objs.size+1) (acc:=[]) (.inl (mem_of_lookup m));rw[e1]at e;cases e
 ·obtain⟨⟨_,_,_,_,R,_⟩,o,e⟩:=C b l;refine⟨zU (zL e),λy D h=>?_⟩;rcases gN h with e1|⟨_,e1⟩
  ·exactλz=>absurd (zI (zL e) (rH (z ▸ (own e1).2))) (yP _)
  ·exact R y D (c.was I e1)
 ·exact I.bs b o e
 ·exact zR I.ok.bsz I.sz
 ·obtain⟨⟨_,_,_,U,_,_⟩,_⟩:=C b l;rcases U with z|z
  ·exact I.ok.noex b o e z
  ·exact absurd (zI (zL e) (zR I.ok.bsz z)) (yP _)
 ·obtain⟨⟨_,Y,S,_,_,_⟩,_⟩:=C b l;rcases yQ.mp (I.stkSub b a0) with z|z
  ·exact Y z
  ·exact S z
 ·exact I.stack
 ·exact I.stkFree b l
 ·have n:(xs++fr.map (·.1))[i]?=some y:=t
  by_cases hi:i<xs.length
  ·rw[yV (by simpa using hi),zD]at a;cases q:xs[i]? with
   |none=>rw[q]at a;cases a
   |some z=>rw[q]at a;cases zP a
  ·rw [xG ⋯]at n;rw[xG (by simpa using hi),yN]at a;generalize i-xs.length=j at n a;rw[zD]at n;unfold mE at a;rw[zD]at a;cases e:fr[j]? with
   |none=>rw[e]at n;cases n
   | some p =>
    rw[e]at n a;have e1:p.1=y:=zP n;have f:g.getD p.2 none=some v:=zP a;obtain⟨V,L⟩:=c.fr p (vB e);have a1:g[p.2]?=some (some v):=by
     rw[uL]at f;cases q:g[p.2]? with
     |none=>rw[q]at f;cases f
     |some o=>rw[q]at f;have Z:o=some v:=f;rw[Z]
    subst e1;have d:(p.1,NameKind.free)∈scope.names:=wM L;have kd:=c.free' _ d rfl;obtain⟨a4,_,hl⟩:=r.loc;obtain⟨u,O,N⟩:=hl p.2 p.1 v V a1 (.inr kd);refine⟨u,O,.inr ⟨Da L,?_⟩⟩;rcases N with⟨k1,_⟩|⟨_,b,q,z⟩
    ·rcases kd with kd|kd <;> (rw[kd]at k1;cases k1)
    ·obtain⟨D,K⟩:=aK (env:=X.env) (l:=scope.names) (cs:=[]) (.inl d);have M:=c.was I K;rw[q]at M;cases M;refine⟨b,?_,z⟩;show(cellsFrom (s.heap.objs.size+1) scope.names (clOf X.env scope.names [])).lookup p.1=some b;rw[fS,List.lookup_append];cases w:(cellsFrom (s.heap.objs.size+1) scope.names []).lookup p.1 with
     |none=>exact K
     |some b2 =>
      rcases aM (mem_of_lookup w) with w|w
      ·simp at w
      ·cases En c.nn d w
 ·rcases gN h with e1|⟨_,e1⟩
  ·exact⟨none,(own e1).1⟩
  ·exact r.cell y b (c.was I e1)
 ·exact I.hok.fresh (zF _)
 ·rcases gN h with e1|⟨_,e1⟩
  ·exact I.hok.fresh (by have:=(own e1).2;omega)
  ·exact r.freeC y b (c.was I e1)
 ·show(xs.map (λ_=>none)++mE fr g).length=(xs++fr.map (·.1)).length;simp[mE]
end
abbrev TOx:=St->Hp->(Option V->Hp->Prop)->Prop
def tEl(te:TE):TOx:=λσ H Q=>te σ H λy H'=>Q (some y) H'
def gO(tc:TT)(te:TE):TOx:=λσ H Q=>tc σ H λb H1=>if b=true then te σ H1 (λy H'=>Q (some y) H') else Q none H1
def fV(elt:Expr)(ifs:List Expr)(env:Env)(M:Model)(A:Around)(Q:Option Value->Shared->Prop)(E:VP)(s:Shared):Prop:=
 match ifs with
 |[]=>wpAny M A (eval elt env) (λx s1=>Q (some x) s1) E s
 |[c]=>wpAny M A (isTrue c env (eval c env)) (λb s1=>if b=true then wpAny M A (eval elt env) (λx s2=>Q (some x) s2) E s1 else Q none s1) E s
 |_=>False
def POx(X:Cx)(elt:Expr)(ifs:List Expr)(t:TOx):Prop:=∀(pins:PN)(s:Shared)(σ:St)(H:Hp)(Q:Option V->Hp->Prop),Inv X pins σ H s->t σ H Q ->
 fV elt ifs X.env (model X.prog X.w) X.A (λo s'=>∃v H',Inv X pins σ H' s'/\(match o,v with|some u,some y=>RelV y u|none,none=>True|_,_=>False)/\Q v H') X.xe s
theorem lE{X:Cx}{a:Expr}{te:TE}(h:PE X a te):POx X a [] (tEl te):=λc s d H Q I f =>
 thn (h c s d H _ I f) λu j⟨y,e,i,g,b⟩=>⟨some y,e,i,g,b⟩
theorem Nl{X:Cx}{i c:Expr}{g:TT}{te:TE}(l:PT X c g)(h:PE X i te):POx X i [c] (gO g te):=λd s e H Q I q=>by
 refine thn (l d s e H _ I q) ?_;rintro b o ⟨j,f,a⟩;cases b with
 |true =>
  rw[zG rfl]at a ⊢;exact thn (h d o e j _ f a) λu r⟨y,m,p,k,n⟩=>⟨some y,m,p,k,n⟩
 |false =>
  rw[zE zZ]at a ⊢;exact⟨none,j,f,trivial,a⟩
theorem Nk{prog:Program}{w:World}{A:Around}{R:Result->Shared->Prop}{s:Shared}{e d f:Expr}{j:List Expr}{k:Scope}{i:Pos}{a acc:Value}{env:Env}(I:Nat->Shared->Prop)
  (K:∀n s,I n s->wpAny (model prog w) A (pyNext a) (λr q=>match r with
   |none=>R (.ok .next) q
   | some v=>wpAny (model prog w) A (letOwnedTupleGo d a v) (λ_ u=>wpAny (model prog w) A (assign d env v) (λ_ t=>fV e j env (model prog w) A (λo p=>match o with
     |some x=>wpAny (model prog w) A (call (.builtin "list.append") [acc,x]) (λ_ C=>∃m,m<n/\I m C) (λ_ _=>False) p
     |none=>∃m,m<n/\I m p)
     (λ_ _=>False) t) (λ_ _=>False) u) (λ_ _=>False) q) (λ_ _=>False) s)
  (n:Nat)(h:I n s)(z:j.length<=1):
  codeAny (model prog w) A (.compLoop (.ListComp e [⟨d,f,j,0⟩] k i) 0 a acc env) R s:=by
 refine codeAny_loop rfl I (λn s J=>?_) n h;show wpAny _ _ ((compTurn (.ListComp e [⟨d,f,j,0⟩] k i) 0 a acc env).onRaise (λx=>do noteFrame x env;theTreesLotGoes x)) _ _ s;refine wpAny_noted ?_;have T:=K n s J
 match j,z,T with
 | [],_,T =>
  rw[compTurn_list1];refine zA (xZ (zA (yF T (λr q l=>?_) λ_ _ h'=>h'.elim)));cases r with
  |none=>exact zB l
  | some v =>
   refine zA (yF l (λ_ u y=>?_) λ_ _ h'=>h'.elim);exact zA (yF y (λ_ t F=>zA (zA (yF (show wpAny _ _ _ _ _ _ from F) (λx p g=>zA (yF g
    (λ_ C D=>zB (zB ⟨rfl,D⟩)) λ_ _ h'=>h'.elim)) λ_ _ h'=>h'.elim))) λ_ _ h'=>h'.elim)
 | [c],_,T =>
  have e1:compTurn (.ListComp e [⟨d,f,[c],0⟩] k i) 0 a acc env=(standAt f.pos >>= λ_=>pyNext a >>= λr=>match r with
   |none=>pure (.done .next)
   | some v=>letOwnedTupleGo d a v >>= λ_=>assign d env v >>= λ_=>isTrue c env (eval c env) >>= λok =>
    (if ok=true then(eval e env >>= λx=>call (.builtin "list.append") [acc,x] >>= λ_=>pure ()) >>= λ_=>again (.compLoop (.ListComp e [⟨d,f,[c],0⟩] k i) 0 a acc env)
     else again (.compLoop (.ListComp e [⟨d,f,[c],0⟩] k i) 0 a acc env))):=by
   unfold compTurn;simp only[List.forIn_cons,List.forIn_nil,if_true,bind_assoc,pure_bind,List.getElem?_cons_zero];rfl
  rw[e1];refine zA (xZ (zA (yF T (λr q l=>?_) λ_ _ h'=>h'.elim)));cases r with
  |none=>exact zB l
  | some v =>
   refine zA (yF l (λ_ u y=>?_) λ_ _ h'=>h'.elim);refine zA (yF y (λ_ t F=>zA (yF (show wpAny _ _ _ _ _ _ from F) (λb p g=>?_) λ_ _ h'=>h'.elim)) λ_ _ h'=>h'.elim);cases b with
   |true =>
    rw[zG rfl]at g ⊢;exact zA (zA (yF g (λx C D=>zA (yF D (λ_ L G=>zB (zB ⟨rfl,G⟩)) λ_ _ h'=>h'.elim)) λ_ _ h'=>h'.elim))
   |false =>
    rw[zE zZ]at g ⊢;exact zB ⟨rfl,g⟩
 |_:: _:: _,z,T =>
  exact absurd z (by simp)
def Nj(a:Addr)(N:Hp->Prop):Option V->Hp->Prop
 |some y,H=>∃zs,H a=some (.lst zs)/\zs.length<sizeLine/\N (upd H a (.lst (zs++[y])))
 |none,H=>N H
abbrev lO(J:It)(g:TG)(tt:TOx)(n:Nat)(fr:List (Str×Nat))(σ:St)(a:Addr)(H:Hp)(Q:VK):Prop:=
 ∃ W:Nat->Nat->Hp->Prop,(∃m,W 0 m (upd H a (.lst [])))/\∀i m H2,W i m H2->(J.stop i H2/\Q (.ref a) H2) \/
  (J.go i H2/\∃N:Hp->Prop,(∀H',N H'->∃m',m'<m/\W (i+1) m' H')/\∀(ys:St) x H3,ys.length=n->J.yld i H2 x H3 ->
   g x (ys++mE fr σ) H3 λσ4 H4=>(∃ys':St,ys'.length=n/\σ4=ys'++mE fr σ)/\tt σ4 H4 (Nj a N))
def nF(wi:TI)(g:TG)(tt:TOx)(n:Nat)(fr:List (Str×Nat)):TE:=λσ H Q=>wi σ H λJ H1=>∀a,H1 a=none->lO J g tt n fr σ a H1 Q
section
variable {X:Cx} {sc scope:Scope} {xs:List Str} {fr:List (Str×Nat)} {elt tg iter:Expr} {ifs:List Expr} {g:TG} {tt:TOx}
theorem Em{F:PN}{w:St}{H:Hp}{s:Shared}{b5:Pos}{a8:It}{k:LA}{a2:Addr}{L:Nat->Heap->Prop}{Q:VK}{RR:Value->Addr->Result->Shared->Prop}{E:VP}
  (c:kM X sc scope xs fr)(b4:X.calm=true)(S:ifs.length<=1)(I:Inv X F w H s)(T:Turn X.prog X.w X.K tg a8 k a2 L)(c1:L 0 s.heap)(a1:∀b∈k,FpOk X F H b)
  (f9:∀(t:Shared)(D:Hp)(k:LA),(nJ X scope (xs++fr.map (·.1)) t D k).env.scope=kE sc scope->PG (nJ X scope (xs++fr.map (·.1)) t D k) tg g)
  (e3:∀(t:Shared)(D:Hp)(k:LA),(nJ X scope (xs++fr.map (·.1)) t D k).env.scope=kE sc scope->POx (nJ X scope (xs++fr.map (·.1)) t D k) elt ifs tt)
  (d2:∀a,H a=none->lO a8 g tt xs.length fr w a H Q)
  (e4:∀a C H' s' m,s'.heap.Ns C m->Inv X F w H' s'->FpOk X F H' C->Q (.ref a) H'->RR (.ref a) C (.ok .next) s'):
  wpAny (model X.prog X.w) X.A (newList []) (λacc t=>wpAny (model X.prog X.w) X.A (newFunctionEnv scope X.env.globals (clOf X.env scope.names []) [] X.env.qual none .none (some X.env)) (λc0 e9 =>
   codeAny (model X.prog X.w) X.A (.compStart (.ListComp elt [⟨tg,iter,ifs,0⟩] scope b5) 0 (.ref a2) acc {c0 with scope:=relabel scope X.env}) (RR acc c0.locals) e9) E t) E s:=by
 obtain⟨b1,⟨e7,d8⟩,d7⟩:=d2 s.heap.objs.size I.fresh;refine xA (Nn ?_);have b2:Inv X F w (upd H s.heap.objs.size (.lst [])) {s with heap:=s.heap.push {cls:=.type "list",dict:=none,data:=.seq ([]:LW).toArray}}:=I.lnew (ys:=[]) (its:=[]) (t':=s.toks) .nil (yD _);have R:∀b o,s.heap.get? b=some o->(s.heap.push {cls:=.type "list",dict:=none,data:=.seq ([]:LW).toArray}).get? b=some o:=λb o e=>zC _ e;have c2:Un (frs X.stack) k H (upd H s.heap.objs.size (.lst [])) s.heap (s.heap.push {cls:=.type "list",dict:=none,data:=.seq ([]:LW).toArray}):=Un.laid R (zF _) I.fresh;dsimp only;generalize hH2:s.heap.push {cls:=.type "list",dict:=none,data:=.seq ([]:LW).toArray}=l at b2 R c2 ⊢;have hsz:s.heap.objs.size<=l.objs.size:=by rw[←hH2,xH];exact tQ _
 have a7:∀b∈k,∃o,s.heap.get? b=some o:=λb j=>let ⟨o,e,_⟩:=T.obj _ _ c1 b j;⟨o,e⟩
 have g8:∀b∈k,b≠s.heap.objs.size:=λb j=>let ⟨_,e⟩:=a7 b j;zU (zL e)
 have a9:∀b∈k,FpOk X F (upd H s.heap.objs.size (.lst [])) b/\∃o,l.get? b=some o:=λb j=>by
  obtain⟨o,e⟩:=a7 b j;exact⟨⟨by rw[pR (g8 b j)];exact(a1 b j).1,(a1 b j).2⟩,o,R b o e⟩
 have W:=Nm c b2 a9;have f1:∀b o,l.get? b=some o->(pushCells (l.push {cls:=.type "dict",data:=.dict #[]}) scope.names).get? b=some o:=λb o e=>qD _ _ b o (zC _ e);have d0:L 0 (pushCells (l.push {cls:=.type "dict",data:=.dict #[]}) scope.names):=T.keep 0 _ _ c1 λb j o e=>f1 b o (R b o e);have c8:∀(t:Shared)(D:Hp)(k:LA),(nJ X scope (xs++fr.map (·.1)) t D k).env.scope=kE sc scope:=λ_ _ _=>No c.hsc;have a5:∀{H':Hp},(∀b∈k,H' b=none)->∀b∈k,FpOk (nJ X scope (xs++fr.map (·.1)) {s with heap:=l} (upd H s.heap.objs.size (.lst [])) k) [] H' b:=λf2 b j=>by
  obtain⟨e1,e5⟩:=W.ok.exf b j;exact⟨f2 b j,e1,W.ok.exfs b j,.inl j,e5,λp g1=>absurd (show p∈([]:PN) from g1) (by simp)⟩
 have d1:codeAny (model X.prog X.w) X.A (.compLoop (.ListComp elt [⟨tg,iter,ifs,0⟩] scope b5) 0 (.ref a2) (.ref s.heap.objs.size) (compEnvC scope (cellsFrom (l.objs.size+1) scope.names (clOf X.env scope.names [])) l.objs.size X.env))
   (RR (.ref s.heap.objs.size) l.objs.size) {s with heap:=pushCells (l.push {cls:=.type "dict",data:=.dict #[]}) scope.names}:=by
  refine Nk (λn s'=>∃i,∃ys:St,∃H',ys.length=xs.length/\Inv (nJ X scope (xs++fr.map (·.1)) {s with heap:=l} (upd H s.heap.objs.size (.lst [])) k) [] (ys++mE fr w) H' s'/\L i s'.heap/\(∀b∈k,H' b=none)/\b1 i n H')
   ?_ e7 ⟨0,xs.map λ_=>none,_,by simp,W,d0,λb j=>(a9 b j).1.1,d8⟩ S
  rintro n b0 ⟨i,ys,O,f0,b8,b3,c5,g6⟩;rcases d7 i n O g6 with⟨stop,f5⟩|⟨go,N,e2,step⟩
  ·refine thn (T.done (nJ X scope (xs++fr.map (·.1)) {s with heap:=l} (upd H s.heap.objs.size (.lst [])) k) rfl rfl rfl b4 i [] b0 _ O (λ_ _=>False) b8 (a5 c5) b3 stop) ?_;rintro r a4 ⟨hr,J⟩;subst hr;obtain⟨g5,d6,_⟩:=J.loc;have a3:Inv X F w O a4:=I.call' J.os (c2.trans J.base) J.hok J.bare λb j=>let f:=a1 b j;⟨f.2.2.2.1,f.2.1,f.2.2.2.2.1,f.2.2.2.2.2⟩
   exact e4 _ _ O a4 g5 d6 a3 (I.fpOk hsz J.free) f5
  ·refine thn (T.item (nJ X scope (xs++fr.map (·.1)) {s with heap:=l} (upd H s.heap.objs.size (.lst [])) k) rfl rfl rfl b4 i [] b0 _ O (λ_ _=>False) b8 (a5 c5) b3 go) ?_;rintro r a4 ⟨u,hr,g2⟩;subst hr;refine thn g2 ?_;rintro _ c6 ⟨y,c9,a3,d5,d9,Z,f7⟩;have f6:=a3.pinned (a5 f7) (T.obj _ _ Z);refine thn (f9 _ _ _ (c8 _ _ _) _ c6 _ c9 y u _ f6 d5 (step ys y c9 f0 d9)) ?_;rintro _ f4 ⟨h0,e8,d4,⟨c3,g4,e6⟩,g0⟩;subst e6;have c4:∀(G:Shared)(v:Hp),Inv (nJ X scope (xs++fr.map (·.1)) {s with heap:=l} (upd H s.heap.objs.size (.lst [])) k) ([]++fO k c6.heap) (c3++mE fr w) v G->N v ->
     ∃m,m<n/\∃i,∃ys:St,∃H',ys.length=xs.length/\Inv (nJ X scope (xs++fr.map (·.1)) {s with heap:=l} (upd H s.heap.objs.size (.lst [])) k) [] (ys++mE fr w) H' G/\L i G.heap/\(∀b∈k,H' b=none)/\b1 i m H':=by
    intro G v P Y;obtain⟨e0,d3,g3⟩:=e2 v Y;refine⟨e0,d3,i+1,c3,v,g4,P.unpinned,T.keep _ _ _ Z λb j o e=>(P.pin (b,o) (yO _ (yO _ (dA j e)))).1,λb j=>?_,g3⟩;obtain⟨o,e,d⟩:=T.obj _ _ Z b j;exact(P.pin (b,o) (yO _ (yO _ (dA j e)))).2.1
   have f3:=e3 _ _ _ (c8 _ _ _) _ f4 _ e8 _ d4 g0;have mono:∀{Q a6:Option Value->Shared->Prop}{E:VP}{s':Shared}{env:Env},(∀o U,Q o U->a6 o U)->fV elt ifs env (model X.prog X.w) X.A Q E s'->fV elt ifs env (model X.prog X.w) X.A a6 E s':=by
    intro Q a6 E s' env V K;unfold fV at K ⊢
    match ifs,S,K with
    |[],_,K=>exact yF K (λx U q=>V _ _ q) λ_ _ e=>e
    |[c],_,K =>
     refine yF K (λb U q=>?_) λ_ _ e=>e;split at q
     ·rename_i j;rw[zG j];exact yF q (λx h1 q=>V _ _ q) λ_ _ e=>e
     ·rename_i j;rw[zE j];exact V _ _ q
    |_:: _:: _,S,_=>exact absurd S (by simp)
   refine mono (?_) f3;rintro o b9 ⟨M,b6,b7,a0,c7⟩;cases o with
   |none =>
    cases M with
    |none=>exact c4 b9 b6 b7 c7
    |some z=>exact a0.elim
   | some f8 =>
    cases M with
    |none=>exact a0.elim
    |some M =>
     obtain⟨zs,g7,hl,g9⟩:=c7;exact thn (aI _ b9 _ b6 (.ref s.heap.objs.size) [M] (.ref s.heap.objs.size) [f8] (λ_ v=>N v) b7 rfl (.cons a0 .nil) ⟨_,zs,M,rfl,rfl,g7,hl,g9⟩) λ_ G⟨_,v,P,_,Y⟩=>c4 G v P Y
 exact codeAny_compStart_list d1 (T.self _ 0 _ _ _ d0 d1)
variable {wi:TI}
theorem kN{n:Pos}(c:kM X sc scope xs fr)(F:X.calm=true)(hi:PI X tg iter wi)
  (M:∀(j:Shared)(i:Hp)(d:LA),(nJ X scope (xs++fr.map (·.1)) j i d).env.scope=kE sc scope->PG (nJ X scope (xs++fr.map (·.1)) j i d) tg g)
  (y:∀(j:Shared)(i:Hp)(d:LA),(nJ X scope (xs++fr.map (·.1)) j i d).env.scope=kE sc scope->POx (nJ X scope (xs++fr.map (·.1)) j i d) elt ifs tt)
  (D:ifs.length<=1:=by exact Nat.le_of_ble_eq_true rfl)(N:∀x,foldedSetIterable iter X.env x=pure x:=by intro _;rfl):PE X (.ListComp elt [⟨tg,iter,ifs,0⟩] scope n) (nF wi g tt xs.length fr):=by
 intro k s l H Q I h;rw[eval_ListComp];refine wpAny_comprehension_free (use:=none) rfl N (Db (c.cells I)) c.kind c.loc (thn (hi k s l H _ I h) λv S L=>thn L λR W w=>?_);obtain⟨U,d,V,P,O,e,t,T,J,z,u⟩:=w;subst e;refine Em (RR:=λacc C=>compPost (model X.prog X.w) X.A X.xe none (EP X k l Q) acc C) c F D t T J z M y u ?_;intro a C H' s' m p K f q;exact⟨m,p,λh' G=>⟨.ref a,H',K.turned (t':=s'.toks) (λb o r e=>(G.2 b r).trans e) f.1 f.2.1 f.2.2.2.1 f.2.2.2.2.1 f.2.2.2.2.2,rfl,q⟩⟩
theorem fW{n u j:Pos}{y:Str}{i:Nat}(c:kM X sc scope xs fr)(W:X.calm=true)(J:X.N.Nodup)(G:X.N[i]?=some y)(hl:X.env.scope.names.lookup y=some .local)(hi:PI X tg iter wi)
  (a2:∀(l:Shared)(k:Hp)(d:LA),(nJ X scope (xs++fr.map (·.1)) l k d).env.scope=kE sc scope->PG (nJ X scope (xs++fr.map (·.1)) l k d) tg g)
  (N:∀(l:Shared)(k:Hp)(d:LA),(nJ X scope (xs++fr.map (·.1)) l k d).env.scope=kE sc scope->POx (nJ X scope (xs++fr.map (·.1)) l k d) elt ifs tt)
  (M:swapsWith (.ListComp elt [⟨tg,iter,ifs,0⟩] scope n) (some (.Name y j)) u.line X.env=pure true:=by rfl)
  (R:ifs.length<=1:=by exact Nat.le_of_ble_eq_true rfl)(a3:∀x,foldedSetIterable iter X.env x=pure x:=by intro _;rfl):PS X (.Assign [.Name y j] (.ListComp elt [⟨tg,iter,ifs,0⟩] scope n) u) (Ez i (nF wi g tt xs.length fr)):=by
 intro p s t H D I h;rw[exec_Assign_Name_used _ _ _ _ M];refine zA (xZ (zA ?_));show wpAny _ _ (do let _ ←comprehension (.ListComp elt [⟨tg,iter,ifs,0⟩] scope n) scope X.env _ (newList []) false (eval iter X.env) (some (assign (.Name y j) X.env))) _ _ s;refine zA (yF (wpAny_comprehension_free (use:=some (assign (.Name y j) X.env)) (Q:=λ_ s'=>SP X p D .next s') rfl a3 (Db (c.cells I)) c.kind c.loc
  (thn (hi p s t H _ I h) λv a8 a1=>thn a1 λa7 b1 L=>?_)) (λ_ s' a0=>zB (zB a0)) λ_ _ e=>e)
 obtain⟨a9,d,b0,a6,a5,e,z,T,Z,P,F⟩:=L;subst e;refine Em (RR:=λacc C=>compPost (model X.prog X.w) X.A X.xe (some (assign (.Name y j) X.env)) (λ_ s'=>SP X p D .next s') acc C) (Q:=λv O=>D.nx (t.set i (some v)) O) c W R z T Z P a2 N F ?_;intro a C H' s' m w K f q;show wpAny _ _ (assign (.Name y j) X.env (.ref a)) _ _ _;refine wpAny_assign_Name (Cs K J G (.inl hl) (show RelV (.ref a) (.ref a) from rfl) (λS V⟨b,a4,r⟩=>?_) (.inr hl));have U:C≠b:=by
  rcases r with e|e
  ·rw[e];exact f.2.1
  ·exact zS (f.2.2.2.2.1 y b e)
 refine⟨m,w.sameBut a4 U,λh' Y=>?_⟩;exact⟨_,H',V.turned (t':=S.toks) (λb o r e=>(Y.2 b r).trans e) f.1 f.2.1 f.2.2.2.1 f.2.2.2.2.1 f.2.2.2.2.2,q⟩
end
def dO(sc:Scope)(N:List Str)(scope:Scope)(fr:List (Str×Nat)):Bool:=
 decide (scope.kind=.function) && decide ((scope.names.map (·.1)).Nodup) && decide (∀y∈scope.names,y.2=.free->sc.names.lookup y.1=some .cell\/sc.names.lookup y.1=some .free) &&
 decide (∀y∈scope.names,y.2=.local->scope.names.lookup y.1=some .local) && decide (∀p∈fr,N[p.2]?=some p.1/\scope.names.lookup p.1=some .free)
theorem mQ{X:Cx}{sc a:Scope}{N xs:List Str}{fr:List (Str×Nat)}(c:X.env.scope=sc)(e:X.N=N)(h:dO sc N a fr=true):kM X sc a xs fr:=by
 unfold dO at h;simp only[Bool.and_eq_true,decide_eq_true_eq]at h;obtain⟨⟨⟨⟨e1,b⟩,f⟩,d⟩,g⟩:=h;subst e;exact⟨c,e1,b,f,d,g⟩
def dP(sc:Scope)(N:List Str)(i:Nat)(x:Str):Bool:=decide (N.Nodup) && decide (N[i]?=some x) && (decide (sc.names.lookup x=some .local))
theorem mS{X:Cx}{sc:Scope}{N:List Str}{i:Nat}{x:Str}{a:Pos}(b:X.env.scope=sc)(c:X.N=N)(h:dP sc N i x=true):PG X (.Name x a) (pY i):=by
 unfold dP at h;simp only[Bool.and_eq_true,decide_eq_true_eq]at h;subst b c;exact nP h.1.1 h.1.2 (.inl h.2) (.inr h.2)
theorem iV{X:Cx}{sc:Scope}{N:List Str}{i:Nat}{x:Str}{a:Pos}(b:X.env.scope=sc)(c:X.N=N)(h:(decide (N.Nodup) && decide (N[i]?=some x) && (decide (sc.names.lookup x=some .cell)))=true)(d:X.fn x=true):PG X (.Name x a) (pY i):=by
 simp only[Bool.and_eq_true,decide_eq_true_eq]at h;subst b c;exact nP h.1.1 h.1.2 (.inr h.2) (.inl d)
def SqB(b:Bool)(K:Frag)(H:Hp)(a:Addr)(xs:List V):Prop:=match b with|false=>SqL K H a xs|true=>SqT K H a xs
def ItB(b:Bool)(h:Heap)(it a:Addr)(i:Nat):Prop:=match b with|false=>h.IsListIter it a i|true=>h.IsTupleIter it a i
def seqB(b:Bool)(h:Heap)(a:Addr)(its:Array Value):Prop:=match b with|false=>h.IsList a its|true=>h.IsTuple a its
def nmB(b:Bool):String:=match b with|false => "list_iterator" |true => "tuple_iterator"
theorem ItB.at{b:Bool}{h h':Heap}{c a:Addr}{i:Nat}(x:ItB b h c a i)(e:∀o,h.get? c=some o->h'.get? c=some o):ItB b h' c a i:=by
 cases b
 ·exact Heap.IsListIter.at x e
 ·exact Heap.IsTupleIter.at x e
theorem seqB.at{b:Bool}{h h':Heap}{a:Addr}{its:Array Value}(x:seqB b h a its)(e:∀o,h.get? a=some o->h'.get? a=some o):seqB b h' a its:=by
 cases b
 ·exact Heap.IsList.at x e
 ·obtain⟨o,c,r⟩:=x;exact⟨o,e o c,r⟩
theorem ItB.lt{b:Bool}{h:Heap}{f a:Addr}{i:Nat}(x:ItB b h f a i):∃o,h.get? f=some o/\∀v,o.data≠.cell v:=by
 cases b
 ·obtain⟨o,e,c,d⟩:=x;exact⟨o,e,λv z=>by rw[d]at z;cases z⟩
 ·obtain⟨o,e,c,d⟩:=x;exact⟨o,e,λv z=>by rw[d]at z;cases z⟩
section
variable {prog:Program} {w:World} {A:Around} {E:VP} {s:Shared}
theorem Ni{b a:Addr}{i:Nat}{items}{x:Value}{Q:VP}(e:s.heap.IsTupleIter b a i)(g:s.heap.IsTuple a items)(m:items[i]?=some x)
  (l:∀h',h'.IsTupleIter b a (i+1)->Heap.SameBut b s.heap h'->Q x {s with heap:=h'}):wpAny (model prog w) A (Builtin.SmallTypes.nextOf (.ref b)) Q E s:=by
 obtain⟨o,d,k,c⟩:=id e;obtain⟨p,f,_,n,j⟩:=g;unfold Builtin.SmallTypes.nextOf;refine zA (xO (name:=Str.ofString "__next__") e.typeIs wW
  (xL wW e.typeIs F.entry_tuple_iterator_next ?_ (F.args_tuple_iterator_next_1 _)))
 show wpAny _ _ (field (.ref b) 0 >>= _) _ _ s;refine zA (yS d c (x:=.ref a) rfl ?_);show wpAny _ _ (if(Value.ref a == Value.none)=true then _ else _) _ _ s;rw[zE (show¬ ((Value.ref a == Value.none)=true) from zZ)];show wpAny _ _ (field (.ref b) 1 >>= _) _ _ s;refine zA (yS d c (x:=.int i 0) rfl ?_);show wpAny _ _ (seqItems? (.ref a) >>= _) _ _ s;refine zA (xW f j ?_);simp only[Int.toNat_natCast,m];refine zA (wQ d c (by simp) (zB ⟨x,rfl,zB (l _ ?_ (wN ..))⟩));exact⟨_,yT _ d (uD (wC c _)),(rK ..).trans k,by
  rw[wC c];simp[rawInt]⟩
theorem Nh{b a:Addr}{i:Nat}{items}{Q:VP}(hh:A.handled=none)(c:s.heap.IsTupleIter b a i)(j:s.heap.IsTuple a items)(l:items[i]?=none)
  (m:∀h' e,Heap.ExtBut b s.heap h'->(∃o,h'.get? e=some o/\o.cls=.type "StopIteration")->E (.ref e) {s with heap:=h'}):wpAny (model prog w) A (Builtin.SmallTypes.nextOf (.ref b)) Q E s:=by
 obtain⟨o,d,n,f⟩:=id c;obtain⟨q,g,_,p,k⟩:=j;unfold Builtin.SmallTypes.nextOf;refine zA (xO (name:=Str.ofString "__next__") c.typeIs wW
  (xL wW c.typeIs F.entry_tuple_iterator_next ?_ (F.args_tuple_iterator_next_1 _)))
 show wpAny _ _ (field (.ref b) 0 >>= _) _ _ s;refine zA (yS d f (x:=.ref a) rfl ?_);show wpAny _ _ (if(Value.ref a == Value.none)=true then _ else _) _ _ s;rw[zE (show¬ ((Value.ref a == Value.none)=true) from zZ)];show wpAny _ _ (field (.ref b) 1 >>= _) _ _ s;refine zA (yS d f (x:=.int i 0) rfl ?_);show wpAny _ _ (seqItems? (.ref a) >>= _) _ _ s;refine zA (xW g k ?_);simp only[Int.toNat_natCast,l];refine zA (uH (zA (wQ d f (by simp) ?_)));show wpAny _ _ (newExc (.type "StopIteration") [] >>= _) _ _ _;refine zA ?_;simp only[newExc,newTuple];refine zA (xA ?_ (by size_fits));refine zA (m:=firstArgMember _ _) (wpAny_of_eq (a:=Value.none) (by first|rfl|(simp only[firstArgMember];rfl)) ?_);refine xA ?_ (by size_fits);simp only[raiseNew];refine zA (wpAny_handled ?_)
 first|rw[show A.in1.handled=none from hh]|rw[hh]
 refine zA (zB (wpAny_throw ?_));exact m _ _ (((wN ..).extBut.push _).push _) ⟨_,zN _ rfl,rfl⟩
theorem dQ{b:Bool}{a l:Addr}{i:Nat}{items:Array Value}{x:Value}{Q:VP}(d:ItB b s.heap a l i)(hl:seqB b s.heap l items)(e:items[i]?=some x)
  (c:∀h',ItB b h' a l (i+1)->Heap.SameBut a s.heap h'->Q x {s with heap:=h'}):wpAny (model prog w) A (Builtin.SmallTypes.nextOf (.ref a)) Q E s:=by
 cases b
 ·exact wpAny_nextOf_list_item d hl e c
 ·exact Ni d hl e c
theorem aO{b:Bool}{a l:Addr}{i:Nat}{items:Array Value}{Q:VP}(hh:A.handled=none)(c:ItB b s.heap a l i)(hl:seqB b s.heap l items)(f:items[i]?=none)
  (d:∀h' e,Heap.ExtBut a s.heap h'->(∃o,h'.get? e=some o/\o.cls=.type "StopIteration")->E (.ref e) {s with heap:=h'}):wpAny (model prog w) A (Builtin.SmallTypes.nextOf (.ref a)) Q E s:=by
 cases b
 ·exact wpAny_nextOf_list_end hh c hl f d
 ·exact Nh hh c hl f d
theorem El{b:Bool}{l:Addr}{items:Array Value}{Q:VP}(hl:seqB b s.heap l items)
  (a:Q (.ref s.heap.objs.size) {s with heap:=s.heap.push {cls:=.type (nmB b),data:=.fields #[.ref l,.int 0 0]}}):wpAny (model prog w) A (pyIter (.ref l)) Q E s:=by
 cases b
 ·exact tK hl a
 ·exact vW hl a
theorem Ek{b:Bool}{h:Heap}{l:Addr}:ItB b (h.push {cls:=.type (nmB b),data:=.fields #[.ref l,.int 0 0]}) h.objs.size l 0:=by
 cases b
 ·exact⟨_,zN _ rfl,rfl,rfl⟩
 ·exact⟨_,zN _ rfl,rfl,rfl⟩
theorem Ej(b:Bool)(hh:A.handled=none)(a l:Addr)(f:l≠a)(items:Array Value):
  Draws prog w A a [a,l] items.size (λi v=>items[i]?=some v) (λi h=>ItB b h a l i/\seqB b h l items) where
 live:=λ_ _ st=>let ⟨o,k,_⟩:=st.1.lt;⟨o,k⟩
 frame:=λ_ _ _ st d=>⟨st.1.at λo e=>d a (by simp) o e,st.2.at λo e=>d l (by simp) o e⟩
 item:=λi s Q E hi st g=>by
  refine dQ st.1 st.2 (x:=items[i]) (by simp[hi]) λh' j c=>?_;exact g _ h' s.toks (by simp[hi]) ⟨j,st.2.at λo e=>(c.2 l f).trans e⟩ c
 done:=λs Q E st m=>aO hh st.1 st.2 (by simp) m
theorem Ng{b1 b2:Bool}{z TI TO g f l1 l2:Addr}{k1 k2:Nat}{xs ys:Array Value}{x y a b:Value}{Q:Option Value->Shared->Prop}(D:ZipApart z TI TO g f l1 l2)
  (k:IsZip s.heap z TI TO .none)(a8:IsPair s.heap TI (.ref g) (.ref f))(a3:IsPair s.heap TO a b)
  (a9:ItB b1 s.heap g l1 k1)(Z:ItB b2 s.heap f l2 k2)(a0:seqB b1 s.heap l1 xs)(Y:seqB b2 s.heap l2 ys)(W:xs[k1]?=some x)(X:ys[k2]?=some y)
  (b3:∀h',IsZip h' z TI TO (rawInt s.heap.objs.size)->IsPair h' TO x y->ItB b1 h' g l1 (k1+1)->ItB b2 h' f l2 (k2+1)->IsPair h' s.heap.objs.size x y->h'.objs.size=s.heap.objs.size+1 ->
   (∀c o,c≠z->c≠TO->c≠g->c≠f->s.heap.get? c=some o->h'.get? c=some o)->Q (some (.ref s.heap.objs.size)) {s with heap:=h'}):
  wpAny (model prog w) A (pyNext (.ref z)) Q E s:=by
 have S:s.TypeIs (.ref z) "zip" := ⟨_,k,rfl⟩;unfold pyNext;refine zA (wJ (xO (name:=Str.ofString "__next__") S sE (xL sE S F.entry_zip_next ?_ (F.args_zip_next_1 _))));show wpAny _ _ (field (.ref z) 2 >>= _) _ _ _;refine zA (yS k rfl (x:=.bool false) rfl ?_);show wpAny _ _ (field (.ref z) 3 >>= _) _ _ _;refine zA (yS k rfl (x:=.ref TI) rfl ?_);refine zA (xW a8 rfl ?_);show wpAny _ _ (Builtin.SmallTypes.ownedTupleIsFree (.ref z) >>= _) _ _ _;refine zA ?_;unfold Builtin.SmallTypes.ownedTupleIsFree;refine zA (yS k rfl (x:=.none) rfl (zB ?_));simp only[if_true];refine zA (uH ?_);refine zA (yS k rfl (x:=.ref TO) rfl ?_);refine zA (wU k (by simp) λa2 C i=>?_);replace C:IsZip a2 z TI TO .ellipsis:=C;refine zA ?_;simp only[List.zipIdx_cons,List.zipIdx_nil,List.forIn_cons,List.forIn_nil];refine zA (zA (tR ?_));show wpAny _ _ (Builtin.SmallTypes.nextOf (.ref g) >>= _) _ _ _;refine zA (dQ (a9.at λo e=>i.extBut _ _ D.i1z e) (a0.at λo e=>i.extBut _ _ D.l1z e) W λb5 a5 l=>zB ?_);have M:IsPair b5 TO a b:=l.extBut _ _ D.TOi1 (i.extBut _ _ D.TOz a3);refine zA (xW M rfl ?_);refine zA (sJ M λa4 J m=>?_);replace J:IsPair a4 TO x b:=J;refine zA (qE (zB ?_));refine zA (zA (tR ?_));show wpAny _ _ (Builtin.SmallTypes.nextOf (.ref f) >>= _) _ _ _;refine zA (dQ (Z.at λo e=>m.extBut _ _ D.TOi2.symm (l.extBut _ _ D.i12.symm (i.extBut _ _ D.i2z e)))
  (Y.at λo e=>m.extBut _ _ D.l2TO (l.extBut _ _ D.l2i1 (i.extBut _ _ D.l2z e))) X λb0 a1 p=>zB ?_)
 have T:IsPair b0 TO x b:=p.extBut _ _ D.TOi2 J;refine zA (xW T rfl ?_);refine zA (sJ T λd u q=>?_);replace u:IsPair d TO x y:=u;refine zA (qE (zB (zB ?_)));refine zA (xW u rfl ?_);refine zA (qI ?_);have hsz:d.objs.size=s.heap.objs.size:=by rw[q.1,p.1,m.1,l.1,i.1]
 have R:IsZip d z TI TO .ellipsis:=q.extBut _ _ D.TOz.symm (p.extBut _ _ D.i2z.symm (m.extBut _ _ D.TOz.symm (l.extBut _ _ D.i1z.symm C)));have U:∀c o,c≠z->c≠TO->c≠g->c≠f->s.heap.get? c=some o->d.get? c=some o:=λc o j r L v e =>
  q.extBut _ _ r (p.extBut _ _ v (m.extBut _ _ r (l.extBut _ _ L (i.extBut _ _ j e))))
 have V:ItB b1 d g l1 (k1+1):=a5.at λo e=>q.extBut _ _ D.TOi1.symm (p.extBut _ _ D.i12 (m.extBut _ _ D.TOi1.symm e));have b4:ItB b2 d f l2 (k2+1):=a1.at λo e=>q.extBut _ _ D.TOi2.symm e;have P:z<d.objs.size:=zL R;show wpAny _ _ (Builtin.SmallTypes.ownedTupleHandOut (.ref z) (.ref d.objs.size) >>= _) _ _ _;refine zA ?_;unfold Builtin.SmallTypes.ownedTupleHandOut;have a6:IsZip (d.push {cls:=.type "tuple",data:=.seq #[x,y]}) z TI TO .ellipsis:=zC _ R;refine zA (wU a6 (by simp) λa7 K G=>?_);replace K:IsZip a7 z TI TO (rawInt d.objs.size):=K;refine wU K (by simp) λn t I=>?_;replace t:IsZip n z TI TO (rawInt d.objs.size):=t;have up:∀c o,c≠z->d.get? c=some o->n.get? c=some o:=λc o j e=>I.extBut _ _ j (G.extBut _ _ j (zC _ e));have O:IsPair n d.objs.size x y:=I.extBut _ _ (tD P) (G.extBut _ _ (tD P) (zN _ rfl));have N:n.objs.size=d.objs.size+1:=by rw[I.1,G.1,xH]
 rw[hsz]at t O N;refine zB ⟨_,rfl,zB ?_⟩;show Q (some (.ref d.objs.size)) _;rw[hsz];exact b3 n t (up _ _ D.TOz u) (V.at λo e=>up _ o D.i1z e) (b4.at λo e=>up _ o D.i2z e) O N λc o j r L v e=>up c o j (U c o j r L v e)
theorem Nf{b1 b2:Bool}{z TI TO m k l1 l2:Addr}{k1 k2:Nat}{xs ys:Array Value}{a b:Value}{Q:Option Value->Shared->Prop}(hh:A.handled=none)(D:ZipApart z TI TO m k l1 l2)
  (j:IsZip s.heap z TI TO .none)(Z:IsPair s.heap TI (.ref m) (.ref k))(Y:IsPair s.heap TO a b)
  (L:ItB b1 s.heap m l1 k1)(V:ItB b2 s.heap k l2 k2)(C:seqB b1 s.heap l1 xs)(U:seqB b2 s.heap l2 ys)(R:xs[k1]?=none\/ys[k2]?=none)
  (N:∀h',(∀c o,c≠z->c≠TO->c≠m->c≠k->s.heap.get? c=some o->h'.get? c=some o)->Q none {s with heap:=h'}):wpAny (model prog w) A (pyNext (.ref z)) Q E s:=by
 have M:s.TypeIs (.ref z) "zip" := ⟨_,j,rfl⟩;unfold pyNext;refine zA (wJ (xO (name:=Str.ofString "__next__") M sE (xL sE M F.entry_zip_next (Q:=_) ?_ (F.args_zip_next_1 _))));show wpAny _ _ (field (.ref z) 2 >>= _) _ _ _;refine zA (yS j rfl (x:=.bool false) rfl ?_);show wpAny _ _ (field (.ref z) 3 >>= _) _ _ _;refine zA (yS j rfl (x:=.ref TI) rfl ?_);refine zA (xW Z rfl ?_);show wpAny _ _ (Builtin.SmallTypes.ownedTupleIsFree (.ref z) >>= _) _ _ _;refine zA ?_;unfold Builtin.SmallTypes.ownedTupleIsFree;refine zA (yS j rfl (x:=.none) rfl (zB ?_));simp only[if_true];refine zA (uH ?_);refine zA (yS j rfl (x:=.ref TO) rfl ?_);refine zA (wU j (by simp) λW p d=>?_);replace p:IsZip W z TI TO .ellipsis:=p;refine zA ?_;simp only[List.zipIdx_cons,List.zipIdx_nil,List.forIn_cons,List.forIn_nil];refine zA (zA (tR ?_));show wpAny _ _ (Builtin.SmallTypes.nextOf (.ref m) >>= _) _ _ _;cases hx:xs[k1]? with
 |none =>
  refine zA (aO hh (L.at λo e=>d.extBut _ _ D.i1z e) (C.at λo e=>d.extBut _ _ D.l1z e) hx λt e f r=>?_);obtain⟨u,g,n⟩:=r;have O:IsZip t z TI TO .ellipsis:=f _ _ D.i1z.symm p;have q:e≠z:=λx=>by subst x;rw[O]at g;cases g;simp at n
  refine wU O (by simp) λK _ i=>?_;refine zA (vG (T:= "StopIteration") (b:=true) ⟨u,i.extBut _ _ q g,n⟩ qG ?_);exact zB (N K λc o l _ v _ x=>i.extBut _ _ l (f _ _ v (d.extBut _ _ l x)))
 | some x =>
  have T:ys[k2]?=none:=by rcases R with h|h;rw[hx]at h;cases h;exact h
  refine zA (dQ (L.at λo e=>d.extBut _ _ D.i1z e) (C.at λo e=>d.extBut _ _ D.l1z e) hx λt a1 f=>zB ?_);have y:IsPair t TO a b:=f.extBut _ _ D.TOi1 (d.extBut _ _ D.TOz Y);refine zA (xW y rfl ?_);refine zA (sJ y λK a2 i=>?_);refine zA (qE (zB ?_));refine zA (zA (tR ?_));show wpAny _ _ (Builtin.SmallTypes.nextOf (.ref k) >>= _) _ _ _;refine zA (aO hh (V.at λo e=>i.extBut _ _ D.TOi2.symm (f.extBut _ _ D.i12.symm (d.extBut _ _ D.i2z e)))
   (U.at λo e=>i.extBut _ _ D.l2TO (f.extBut _ _ D.l2i1 (d.extBut _ _ D.l2z e))) T λa0 e I r=>?_)
  obtain⟨u,g,n⟩:=r;have G:IsZip a0 z TI TO .ellipsis:=I _ _ D.i2z.symm (i.extBut _ _ D.TOz.symm (f.extBut _ _ D.i1z.symm p));have q:e≠z:=λx=>by subst x;rw[G]at g;cases g;simp at n
  refine wU G (by simp) λX _ J=>?_;refine zA (vG (T:= "StopIteration") (b:=true) ⟨u,J.extBut _ _ q g,n⟩ qG ?_);exact zB (N X λc o l S v P x=>J.extBut _ _ l (I _ _ P (i.extBut _ _ S (f.extBut _ _ v (d.extBut _ _ l x)))))
end
abbrev zB1(b1:Bool)(h:Heap)(l1:Addr):Heap:=h.push {cls:=.type (nmB b1),data:=.fields #[.ref l1,.int 0 0]}
abbrev zB2(b1 b2:Bool)(h:Heap)(l1 l2:Addr):Heap:=(zB1 b1 h l1).push {cls:=.type (nmB b2),data:=.fields #[.ref l2,.int 0 0]}
abbrev zB3(b1 b2:Bool)(h:Heap)(l1 l2:Addr):Heap:=(zB2 b1 b2 h l1 l2).push {cls:=.type "tuple",data:=.seq #[.ref h.objs.size,.ref (zB1 b1 h l1).objs.size]}
abbrev zB4(b1 b2:Bool)(h:Heap)(l1 l2:Addr):Heap:=(zB3 b1 b2 h l1 l2).push {cls:=.type "tuple",data:=.seq #[.none,.none]}
abbrev zB5(b1 b2:Bool)(h:Heap)(l1 l2:Addr):Heap:=(zB4 b1 b2 h l1 l2).push {cls:=.type "zip",data:=.fields #[.none,.bool false,.bool false,.ref (zB2 b1 b2 h l1 l2).objs.size,.ref (zB3 b1 b2 h l1 l2).objs.size]}
theorem Nd(b1 b2:Bool)(l1 l2:Addr)(xs ys:Array Value):
  Meets (Builtin.«zip.__new__» ⟨[.type "zip",.ref l1,.ref l2],[]⟩) (λ_ R s=>seqB b1 s.heap l1 xs/\seqB b2 s.heap l2 ys /\
   R (.ok (.ret (.ref (zB4 b1 b2 s.heap l1 l2).objs.size))) {s with heap:=zB5 b1 b2 s.heap l1 l2}):=
 .of_wp λprog w A R s h=>by
  obtain⟨a,g,d,tk,b⟩:=s;obtain⟨j,f,h⟩:=h;have k:=sub_zip;have i:seqB b1 (Shared.heap ⟨a,g,d,tk,b⟩) l1 xs:=j;have c:seqB b2 (Shared.heap ⟨a.push {cls:=.type (nmB b1),data:=.fields #[.ref l1,.int 0 0]},g,d,tk,b⟩) l2 ys:=f.at λo e=>zC _ e
  wp_walk using El i,El c
  exact⟨_,rfl,h⟩
theorem Nc{prog:Program}{w:World}{A:Around}{E:VP}{s:Shared}{b1 b2:Bool}{l1 l2:Addr}{xs ys:Array Value}{Q:VP}(p:seqB b1 s.heap l1 xs)(n:seqB b2 s.heap l2 ys)
  (h:∀h',IsZip h' (s.heap.objs.size+4) (s.heap.objs.size+2) (s.heap.objs.size+3) .none->IsPair h' (s.heap.objs.size+2) (.ref s.heap.objs.size) (.ref (s.heap.objs.size+1)) ->
   IsPair h' (s.heap.objs.size+3) .none .none->ItB b1 h' s.heap.objs.size l1 0->ItB b2 h' (s.heap.objs.size+1) l2 0 ->
   (∀c o,s.heap.get? c=some o->h'.get? c=some o)->Q (.ref (s.heap.objs.size+4)) {s with heap:=h'}):
  wpAny (model prog w) A (call (.type "zip") [.ref l1,.ref l2]) Q E s:=by
 refine callType_new F.called_zip ∅ (F.typeCall_zip_2 _ _) (F.newCall_zip_2 _ _) (λq=>F.args_object_init_3 q _ _) F.entry_zip_new
  (Nd b1 b2 l1 l2 xs ys) ⟨p,n,?_⟩
 have a:(zB1 b1 s.heap l1).objs.size=s.heap.objs.size+1:=xH ..;have d:(zB2 b1 b2 s.heap l1 l2).objs.size=s.heap.objs.size+2:=by rw[xH,a]
 have g:(zB3 b1 b2 s.heap l1 l2).objs.size=s.heap.objs.size+3:=by rw[xH,d]
 have j:(zB4 b1 b2 s.heap l1 l2).objs.size=s.heap.objs.size+4:=by rw[xH,g]
 have f:(zB5 b1 b2 s.heap l1 l2).get? (zB4 b1 b2 s.heap l1 l2).objs.size=some _:=zN _ rfl;have k:(zB5 b1 b2 s.heap l1 l2).get? (zB3 b1 b2 s.heap l1 l2).objs.size=some _:=zC _ (zN _ rfl);have i:(zB5 b1 b2 s.heap l1 l2).get? (zB2 b1 b2 s.heap l1 l2).objs.size=some _:=zC _ (zC _ (zN _ rfl));have b:∀c o,(zB2 b1 b2 s.heap l1 l2).get? c=some o->(zB5 b1 b2 s.heap l1 l2).get? c=some o:=λc o e=>zC _ (zC _ (zC _ e));have l:ItB b2 (zB5 b1 b2 s.heap l1 l2) (zB1 b1 s.heap l1).objs.size l2 0:=Ek.at λo e=>b _ o e;have m:ItB b1 (zB5 b1 b2 s.heap l1 l2) s.heap.objs.size l1 0:=Ek.at λo e=>b _ o (zC _ e);show _/\_;rw[d,g,j]at f;rw[a,d]at i;rw[g]at k;rw[a]at l;rw[j];exact⟨⟨_,f,rfl⟩,h _ f i k m l λc o x=>b c o (zC _ (zC _ x))⟩
section
variable {X:Cx} {pins:PN} {σ:St} {H:Hp} {s:Shared} {h':Heap}
theorem Inv.seqB{b:Bool}{a:Addr}{xs:List V}(I:Inv X pins σ H s)(h:SqB b X.K H a xs):∃its:LW,Vals xs its/\L2.seqB b s.heap a its.toArray:=by
 cases b
 ·obtain⟨its,c,p,_⟩:=I.list h;exact⟨its,c,p.isList⟩
 ·obtain⟨its,c,p,_⟩:=I.tuple h;exact⟨its,c,p⟩
theorem Inv.seqB_inj{b:Bool}{a:Addr}{xs ys:List V}(I:Inv X pins σ H s)(h:SqB b X.K H a xs)(c:SqB b X.K H a ys):xs=ys:=by
 cases b
 ·exact I.list_inj h c
 ·exact I.tuple_inj h c
theorem Inv.seq_ne{b:Bool}{a f:Addr}{xs:List V}(I:Inv X pins σ H s)(h:SqB b X.K H a xs)(i:FpOk X pins H f):a≠f:=by
 have g:∀u,Rd H a u->a≠f:=λu r z=>by
  subst z;rcases r with r|⟨o,r⟩ <;> (rw[i.1]at r;cases r)
 have d:∀o,X.K.lookup a=some o->a≠f:=λo e z=>by
  subst z;have q:=I.mod.kin a o e;rcases i.2.2.2.1 with w|w
  ·exact I.ok.noex _ _ q w
  ·exact absurd (zI (zL q) (zR I.ok.bsz w)) (yP _)
 cases b
 ·rcases h with h|⟨o,its,n,c,_⟩
  ·exact g _ h
  ·exact d _ c
 ·rcases h with h|⟨o,its,n,c,_⟩
  ·exact g _ h
  ·exact d _ c
theorem Inv.turnedNew{d:LA}{n:Addr}{u:HO}{t':Nat}(I:Inv X pins σ H s)(i:∀b∈d,FpOk X pins H b)(k:∀b o,b∉d->s.heap.get? b=some o->h'.get? b=some o)(l:s.heap.objs.size<=n)
  (new:oK X.prog X.w (upd H n u) h' n u):Inv X pins σ (upd H n u) {s with heap:=h',toks:=t'}:=by
 have f:=I.hok.fresh l;have j:∀b v,H b=some v->b∉d:=λb v e z=>by rw[(i b z).1]at e;cases e
 have D:X.env.locals∉d:=λz=>(i _ z).2.1 rfl;refine I.step (g':=s.gens) (d':=s.drawn) (ch:=d) (λb g=>?_) (λb o _ _ a e _=>k b o a e) (λb o _ _ a e _=>⟨o.slots,k b o a e⟩) (λb o _ e z=>?_)
  (λb o a e=>⟨o,k b o a e⟩) (λb xs e=>?_) (λb o v e=>?_) (λb ps e=>⟨#[],?_⟩) (λm t=>?_) (λb v e=>?_) I.bare
 ·obtain⟨J,w,G,F,p,y⟩:=i b g;exact⟨F,w,p,y⟩
 ·rw[pR (zU (zI (zL e) l))];exact z
 ·rw[pR (oY e f)];exact e
 ·rw[pR (oY e f)];exact e
 ·rw[pR (oY e f),e];simp
 ·obtain⟨o,es,ep,C,r⟩:=t;exact⟨o,es,ep,k _ o D C,r⟩
 ·by_cases g:b=n
  ·subst g;rw[pN]at e;cases e;exact new
  ·rw[pR g]at e;refine(I.hok b v e).stay (λc x a q=>k c x ?_ q) (λc q=>by rw[pR (oY q f)];exact q) λc xs q=>by rw[pR (oY q f)];exact q
   rcases a with z|z
   ·rw[z];exact j b v e
   ·exact j c _ z
theorem Inv.turnedL{d:LA}{t':Nat}(I:Inv X pins σ H s)(f:∀b∈d,FpOk X pins H b)(k:∀b o,b∉d->s.heap.get? b=some o->h'.get? b=some o):Inv X pins σ H {s with heap:=h',toks:=t'}:=by
 have g:∀b v,H b=some v->b∉d:=λb v e z=>by rw[(f b z).1]at e;cases e
 have u:X.env.locals∉d:=λz=>(f _ z).2.1 rfl;refine I.step (g':=s.gens) (d':=s.drawn) (ch:=d) (λb t=>?_) (λb o _ _ a e _=>k b o a e) (λb o _ _ a e _=>⟨o.slots,k b o a e⟩) (λb o _ e z=>z)
  (λb o a e=>⟨o,k b o a e⟩) (λb xs e=>e) (λb o v e=>e) (λb ps e=>⟨#[],by rw[e];simp⟩) (λm j=>?_) (λb v e=>?_) I.bare
 ·obtain⟨C,l,y,w,i,n⟩:=f b t;exact⟨w,l,i,n⟩
 ·obtain⟨o,es,ep,p,r⟩:=j;exact⟨o,es,ep,k _ o u p,r⟩
 ·refine(I.hok b v e).stay (λc x a q=>k c x ?_ q) (λc q=>q) λc xs q=>q;rcases a with z|z
  ·rw[z];exact g b v e
  ·exact g c _ z
end
def Itz(K:Frag)(b1:Bool)(l1:Addr)(b2:Bool)(l2:Addr):It:=
  ⟨λi H=>∃xs ys x y,SqB b1 K H l1 xs/\SqB b2 K H l2 ys/\xs[i]?=some x/\ys[i]?=some y,
   λi H v H'=>∃p x y,v=.ref p/\H p=none/\H'=upd H p (.tup [x,y])/\(∀xs,SqB b1 K H l1 xs->xs[i]?=some x)/\∀ys,SqB b2 K H l2 ys->ys[i]?=some y,
   λi H=>∃xs ys,SqB b1 K H l1 xs/\SqB b2 K H l2 ys/\(xs[i]?=none\/ys[i]?=none)⟩
theorem Ei{xs:List V}{its:LW}{i:Nat}(r:Vals xs its):xs[i]?=none->its.toArray[i]?=none:=λh=>by
 have:=r.none_of h;simpa using this
theorem Nb{P:Program}{w:World}{K:Frag}{es:List Expr}{k:Nat}{c5:Pos}{b1 b2:Bool}{z TI TO g d l1 l2:Addr}(T:[z,TI,TO,g,d].Nodup):
  Turn P w K (.Tuple es k c5) (Itz K b1 l1 b2 l2) [z,TI,TO,g,d] z (λi h=>IsZip h z TI TO .none/\IsPair h TI (.ref g) (.ref d)/\(∃a b,IsPair h TO a b)/\ItB b1 h g l1 i/\ItB b2 h d l2 i) where
 mem:=by simp
 obj:=λi h⟨u,m,⟨a,b,t⟩,C,p⟩c N=>by
  simp only[List.mem_cons,List.not_mem_nil,or_false]at N;rcases N with e|e|e|e|e <;> subst e
  ·exact⟨_,u,λv q=>by have O:Data.fields _=Data.cell v:=q;cases O⟩
  ·exact⟨_,m,λv q=>by have O:Data.seq _ _=Data.cell v:=q;cases O⟩
  ·exact⟨_,t,λv q=>by have O:Data.seq _ _=Data.cell v:=q;cases O⟩
  ·exact C.lt
  ·exact p.lt
 keep:=λi h h'⟨u,m,⟨a,b,t⟩,C,p⟩M=>⟨M z (by simp) _ u,M TI (by simp) _ m,⟨a,b,M TO (by simp) _ t⟩,C.at λo e=>M g (by simp) o e,p.at λo e=>M d (by simp) o e⟩
 item:=by
  intro X W a2 a5 N i c0 s c1 H E I r st b5;subst W a2 a5;obtain⟨u,m,⟨a,b,t⟩,C,p⟩:=st;obtain⟨xs,ys,x,y,G,J,e1,c3⟩:=b5;obtain⟨d3,a3,Y⟩:=I.seqB G;obtain⟨d9,b3,b4⟩:=I.seqB J;obtain⟨c2,d6,d2⟩:=a3.get e1;obtain⟨b9,c7,d8⟩:=b3.get c3;have j:∀f∈[z,TI,TO,g,d],l1≠f:=λf F=>I.seq_ne G (r f F);have l:∀f∈[z,TI,TO,g,d],l2≠f:=λf F=>I.seq_ne J (r f F);simp only[List.nodup_cons,List.mem_cons,List.not_mem_nil,or_false,not_or,List.nodup_nil,and_true,not_false_eq_true]at T;obtain⟨⟨a6,b7,a9,a1⟩,⟨a4,V,a8⟩,⟨b8,a7⟩,a0⟩:=T;have D:ZipApart z TI TO g d l1 l2:=⟨zS a6,zS b7,zS a9,zS a1,a4,V,a8,b8,a7,a0,j z (by simp),j TO (by simp),j g (by simp),j d (by simp),l z (by simp),l TO (by simp),l g (by simp),l d (by simp)⟩;refine Ng D u m t C p Y b4 (x:=c2) (y:=b9) (by simpa using d6) (by simpa using c7) λh' e0 d7 d1 d5 c9 e4 R=>⟨_,rfl,?_⟩;refine wpAny_letOwnedTupleGo_zip e0 λZ d4 L=>?_;have up:∀c o,c∉[z,TI,TO,g,d]->s.heap.get? c=some o->Z.get? c=some o:=λc o n e=>by
   simp only[List.mem_cons,List.not_mem_nil,or_false,not_or]at n;obtain⟨S,c6,b6,U,b0⟩:=n;exact L.extBut _ _ S (R c o S b6 U b0 e)
  have c4:s.heap.objs.size≠z:=tD (zL u);have new:oK X.prog X.w (upd H s.heap.objs.size (.tup [x,y])) Z s.heap.objs.size (.tup [x,y]):=
   ⟨by show 2<=sizeLine;decide,[c2,b9],.cons d2 (.cons d8 .nil),⟨_,L.extBut _ _ c4 c9,rfl,_,rfl⟩⟩
  have c8:Inv X c0 c1 (upd H s.heap.objs.size (.tup [x,y])) {s with heap:=Z}:=I.turnedNew (t':=s.toks) r up (zF _) new;refine⟨.ref s.heap.objs.size,_,c8,rfl,⟨_,x,y,rfl,I.fresh,rfl,λe2 q=>by rw[I.seqB_inj q G];exact e1,λe3 q=>by rw[I.seqB_inj q J];exact c3⟩,⟨d4,L.extBut _ _ D.TIz (R _ _ D.TIz D.TITO D.TIi1 D.TIi2 m),⟨_,_,L.extBut _ _ D.TOz d7⟩,d1.at λo e=>L.extBut _ _ D.i1z e,d5.at λo e=>L.extBut _ _ D.i2z e⟩,λc n=>?_⟩;have d0:=(r c n).1;rw[pR]
  ·exact d0
  ·intro e;subst e;simp only[List.mem_cons,List.not_mem_nil,or_false]at n;rcases n with e|e|e|e|e
   ·exact c4 e
   ·exact absurd (zL m) (by rw[←e];exact yP _)
   ·exact absurd (zL t) (by rw[←e];exact yP _)
   ·obtain⟨o,q,_⟩:=C.lt;exact absurd (zL q) (by rw[←e];exact yP _)
   ·obtain⟨o,q,_⟩:=p.lt;exact absurd (zL q) (by rw[←e];exact yP _)
 done:=by
  intro X W a2 a5 N i c0 s c1 H E I r st b5;subst W a2 a5;obtain⟨u,m,⟨a,b,t⟩,C,p⟩:=st;obtain⟨xs,ys,G,J,e1⟩:=b5;obtain⟨d3,a3,Y⟩:=I.seqB G;obtain⟨d9,b3,b4⟩:=I.seqB J;have j:∀f∈[z,TI,TO,g,d],l1≠f:=λf F=>I.seq_ne G (r f F);have l:∀f∈[z,TI,TO,g,d],l2≠f:=λf F=>I.seq_ne J (r f F);simp only[List.nodup_cons,List.mem_cons,List.not_mem_nil,or_false,not_or,List.nodup_nil,and_true,not_false_eq_true]at T;obtain⟨⟨a6,b7,a9,a1⟩,⟨a4,V,a8⟩,⟨b8,a7⟩,a0⟩:=T;have D:ZipApart z TI TO g d l1 l2:=⟨zS a6,zS b7,zS a9,zS a1,a4,V,a8,b8,a7,a0,j z (by simp),j TO (by simp),j g (by simp),j d (by simp),l z (by simp),l TO (by simp),l g (by simp),l d (by simp)⟩;refine Nf (I.ok.hd N) D u m t C p Y b4 (e1.imp (Ei a3) (Ei b3)) λh' R=>⟨rfl,I.turnedL (t':=s.toks) r λc o n e=>?_⟩;simp only[List.mem_cons,List.not_mem_nil,or_false,not_or]at n;obtain⟨S,c6,b6,U,b0⟩:=n;exact R c o S b6 U b0 e
 self:=λ_ _ _ _ _ st h=>wpAny_pyIter_zip st.1 h
section
variable {X:Cx}
def iZip(K:Frag)(ta:TA):TI:=λσ H R=>ta σ H λvs H1=>∃b1 b2 l1 l2,vs=[.ref l1,.ref l2]/\(∃xs,SqB b1 K H1 l1 xs)/\(∃ys,SqB b2 K H1 l2 ys)/\R (Itz K b1 l1 b2 l2) H1
theorem fX{a b:Expr}{u:TA}{es:List Expr}{k:Nat}{D p l:Pos}(S:Gl X "zip")(L:X.mg "zip"=none)(C:PA X [a,b] u)(G:bootBuiltins "zip"=some (.type "zip"):=by decide +kernel)
  (T:starEach [a,b] X.env=[(false,eval a X.env),(false,eval b X.env)]:=by rfl)(m:starEach [b] X.env=[(false,eval b X.env)]:=by rfl):
  PI X (.Tuple es k D) (.Call (.Name "zip" p) [a,b] [] l) (iZip X.K u):=by
 intro v s w H R I h;refine Call_ (iN I S L G (xY (thn (C l v s w H _ I h) ?_) (by rw[T,m]) (by rw[m];rfl)));rintro us d ⟨vs,J,f,U,g⟩;obtain⟨b1,b2,l1,l2,e,⟨xs,g⟩,⟨ys,F⟩,q⟩:=g;subst e;cases U with
 | cons r i =>
  cases i with
  | cons O i =>
   cases i;cases r;cases O;obtain⟨W,V,x⟩:=f.seqB g;obtain⟨Y,v2,P⟩:=f.seqB F;refine Nc x P λh' t N z M y K=>?_;refine wpAny_pyIter_zip t ?_;have lt:∀j,j<=4->d.heap.objs.size<=d.heap.objs.size+j:=λj _=>rQ _ _;refine⟨d.heap.objs.size+4,[d.heap.objs.size+4,d.heap.objs.size+2,d.heap.objs.size+3,d.heap.objs.size,d.heap.objs.size+1],_,_,J,rfl,f.kept (t':=d.toks) K,Nb (b1:=b1) (b2:=b2) (l1:=l1) (l2:=l2) ?_,⟨t,N,⟨_,_,z⟩,M,y⟩,λc o=>?_,q⟩
   ·simp
   ·have n:d.heap.objs.size<=c:=by
     simp only[List.mem_cons,List.not_mem_nil,or_false]at o;rcases o with e|e|e|e|e <;> subst e <;> first|exact zF _|exact rQ _ _
    exact f.fpOk n (f.hok.fresh n)
end
open AutoSeq1 (wpAny_loadPart')
set_option maxRecDepth 100000 in
theorem Na(l:Addr)(items:Array Value)(n:Nat)(b:Option Addr)(i:Array (Option Value)):
  Meets (Builtin.«enumerate.__new__» ⟨[.type "enumerate",.ref l],[]⟩) (λ_ R s=>s.heap.get? l=some {cls:=.type "tuple",dict:=b,data:=.seq items n,slots:=i} /\
   R (.ok (.ret (.ref (s.heap.push {cls:=.type "tuple_iterator",data:=.fields #[.ref l,.int 0 0]}).objs.size)))
    {s with heap:=(s.heap.push {cls:=.type "tuple_iterator",data:=.fields #[.ref l,.int 0 0]}).push {cls:=.type "enumerate",data:=.fields #[.none,.bool false,.ref s.heap.objs.size,rawInt 0,.none,.none]}}):=
 .of_wp λprog w A R s h=>by
  obtain⟨e,g,d,tk,f⟩:=s;obtain⟨hl,h⟩:=h;have j:=sub_enumerate;have a:Heap.IsTuple (Shared.heap ⟨e,g,d,tk,f⟩) l items:=⟨_,hl,rfl,n,rfl⟩
  wp_walk using vU hl
  refine wpAny_stack_any λst=>zB ?_;split
  ·rename_i c _ _ _ _ _;cases(c == Value.type "enumerate")
   ·wp_walk using vU hl,vW a
    exact⟨_,rfl,h⟩
   ·wp_walk using vU hl,vW a
    exact⟨_,rfl,h⟩
  ·wp_walk using vU hl,vW a
   exact⟨_,rfl,h⟩
theorem Oz{prog:Program}{w:World}{A:Around}{E:VP}{s:Shared}{b:Bool}{l:Addr}{items:Array Value}{Q:VP}(f:seqB b s.heap l items)
  (h:∀h',IsEnum h' (s.heap.objs.size+1) s.heap.objs.size 0 .none->ItB b h' s.heap.objs.size l 0 ->
   (∀b o,s.heap.get? b=some o->h'.get? b=some o)->Q (.ref (s.heap.objs.size+1)) {s with heap:=h'}):
  wpAny (model prog w) A (call (.type "enumerate") [.ref l]) Q E s:=by
 cases b
 ·exact call_enumerate_list f λh' p j r i=>h h' p j i
 ·obtain⟨⟨c,k,dt,q⟩,hl,a,n,d⟩:=f;replace a:c=.type "tuple" := a;replace d:dt=.seq items n:=d;subst a d;refine callType_new F.called_enumerate ∅ (F.typeCall_enumerate_1 _) (F.newCall_enumerate_1 _) (λm=>F.args_object_init_2 m _) F.entry_enumerate_new
   (Na l items n k q) ⟨hl,?_⟩
  have e:(s.heap.push {cls:=.type "tuple_iterator",data:=.fields #[.ref l,.int 0 0]}).objs.size=s.heap.objs.size+1:=xH ..;show _/\_;rw[e];have g:IsEnum ((s.heap.push {cls:=.type "tuple_iterator",data:=.fields #[.ref l,.int 0 0]}).push
    {cls:=.type "enumerate",data:=.fields #[.none,.bool false,.ref s.heap.objs.size,rawInt 0,.none,.none]}) (s.heap.objs.size+1) s.heap.objs.size 0 .none:=by
   have:=zN (s.heap.push {cls:=.type "tuple_iterator",data:=.fields #[.ref l,.int 0 0]})
    (o:={cls:=.type "enumerate",data:=.fields #[.none,.bool false,.ref s.heap.objs.size,rawInt 0,.none,.none]}) rfl
   rw[e]at this;exact this
  refine⟨⟨_,g,rfl⟩,h _ g ⟨_,zC _ (zN _ rfl),rfl,rfl⟩ λb o x=>zC _ (zC _ x)⟩
def Ite(K:Frag)(b:Bool)(l:Addr):It:=
  ⟨λi H=>∃xs x,SqB b K H l xs/\xs[i]?=some x,
   λi H v H'=>∃p x,v=.ref p/\H p=none/\H'=upd H p (.tup [.int i,x])/\∀xs,SqB b K H l xs->xs[i]?=some x,
   λi H=>∃xs,SqB b K H l xs/\xs.length=i⟩
theorem Oy{P:Program}{w:World}{K:Frag}{es:List Expr}{k:Nat}{Z:Pos}{b:Bool}{e a l:Addr}(N:e≠a):
  Turn P w K (.Tuple es k Z) (Ite K b l) [e,a] e (λi h=>(∃r,IsEnum h e a i r)/\ItB b h a l i) where
 mem:=by simp
 obj:=λi h⟨⟨r,g⟩,j⟩c t=>by
  simp only[List.mem_cons,List.not_mem_nil,or_false]at t;rcases t with e|e <;> subst e
  ·exact⟨_,g,λv q=>by have a8:Data.fields _=Data.cell v:=q;cases a8⟩
  ·exact j.lt
 keep:=λi h h'⟨⟨r,g⟩,j⟩U=>⟨⟨r,U e (by simp) _ g⟩,j.at λo q=>U a (by simp) o q⟩
 item:=by
  intro X y G J t i S s T H E I p st O;subst y G J;obtain⟨⟨r,g⟩,j⟩:=st;obtain⟨xs,x,m,e1⟩:=O;obtain⟨n,R,D⟩:=I.seqB m;obtain⟨V,W,a5⟩:=R.get e1;have C:∀f∈[e,a],l≠f:=λf M=>I.seq_ne m (p f M);have a9:i<n.toArray.size:=by
   have:=(pB.mp W).1;simpa using this
  refine wpAny_pyNext_enum_itemD (Ej b (show X.A.in1.handled=none from I.ok.hd t) a l (C a (by simp)) n.toArray) g ⟨j,D⟩ a9 N (λq=>?_) λu h' tk y b2 b1 a3 b4 a2=>⟨_,rfl,?_⟩
  ·simp only[List.mem_cons,List.not_mem_nil,or_false]at q;rcases q with q|q
   ·exact N q
   ·exact C e (by simp) q.symm
  have a7:u=V:=by
   have:n.toArray[i]?=some V:=by simpa using W
   rw[this]at y;exact(zP y).symm
  subst a7;refine wpAny_letOwnedTupleGo_enum b2 λF a6 L=>?_;have Y:s.heap.objs.size≠e:=tD (zL g);have up:∀c o,c∉[e,a]->s.heap.get? c=some o->F.get? c=some o:=λc o d q=>by
   simp only[List.mem_cons,List.not_mem_nil,or_false,not_or]at d;exact L.extBut _ _ d.1 (a2 c o d.1 d.2 q)
  have new:oK X.prog X.w (upd H s.heap.objs.size (.tup [.int i,x])) F s.heap.objs.size (.tup [.int i,x]):=
   ⟨by show 2<=sizeLine;decide,[.int i tk,u],.cons ⟨tk,rfl⟩ (.cons a5 .nil),⟨_,L.extBut _ _ Y a3,rfl,_,rfl⟩⟩
  have a1:Inv X S T (upd H s.heap.objs.size (.tup [.int i,x])) {s with heap:=F,toks:=tk+1}:=I.turnedNew (t':=tk+1) p up (zF _) new;refine⟨.ref s.heap.objs.size,_,a1,rfl,⟨_,x,rfl,I.fresh,rfl,λb3 q=>by rw[I.seqB_inj q m];exact e1⟩,⟨⟨u,by simpa using a6⟩,b1.1.at λo q=>L.extBut _ _ (zS N) q⟩,λc d=>?_⟩;have a4:=(p c d).1;rw[pR]
  ·exact a4
  ·intro z;subst z;simp only[List.mem_cons,List.not_mem_nil,or_false]at d;rcases d with z|z
   ·exact Y z
   ·obtain⟨o,q,_⟩:=j.lt;exact absurd (zL q) (by rw[←z];exact yP _)
 done:=by
  intro X y G J t i S s T H E I p st O;subst y G J;obtain⟨⟨r,g⟩,j⟩:=st;obtain⟨xs,m,e1⟩:=O;obtain⟨n,R,D⟩:=I.seqB m;have C:∀f∈[e,a],l≠f:=λf M=>I.seq_ne m (p f M);have b0:n.toArray.size=i:=by rw[zT,←R.length,e1]
  refine wpAny_pyNext_enum_endD (Ej b (show X.A.in1.handled=none from I.ok.hd t) a l (C a (by simp)) n.toArray) g ⟨by rw[b0];exact j,D⟩ λh' a0=>⟨rfl,I.turnedL (t':=s.toks) p λc o d q=>?_⟩;simp only[List.mem_cons,List.not_mem_nil,or_false,not_or]at d;exact a0 c o d.2 q
 self:=λ_ _ _ _ _ st h=>let ⟨⟨_,q⟩,_⟩:=st;wpAny_pyIter_enum q h
section
variable {X:Cx}
def fY(K:Frag)(ta:TA):TI:=λσ H R=>ta σ H λvs H1=>∃b l,vs=[.ref l]/\(∃xs,SqB b K H1 l xs)/\R (Ite K b l) H1
theorem dR{a:Expr}{o:TA}{es:List Expr}{k:Nat}{x p i:Pos}(J:Gl X "enumerate")(F:X.mg "enumerate"=none)(w:PA X [a] o)(y:bootBuiltins "enumerate"=some (.type "enumerate"):=by decide +kernel)
  (K:starEach [a] X.env=[(false,eval a X.env)]:=by rfl):
  PI X (.Tuple es k x) (.Call (.Name "enumerate" p) [a] [] i) (fY X.K o):=by
 intro t s u H R I h;refine Call_ (iN I J F y (xY (thn (w i t s u H _ I h) ?_) K rfl));rintro us d ⟨vs,C,f,L,g⟩;obtain⟨b,l,e,⟨xs,g⟩,q⟩:=g;subst e;cases L with
 | cons r z =>
  cases z;cases r;obtain⟨N,M,v⟩:=f.seqB g;refine Oz v λh' n G D=>?_;refine wpAny_pyIter_enum n ?_;refine⟨d.heap.objs.size+1,[d.heap.objs.size+1,d.heap.objs.size],_,_,C,rfl,f.kept (t':=d.toks) D,Oy (b:=b) (l:=l) (by simp),⟨⟨_,n⟩,G⟩,λc m=>?_,q⟩;have j:d.heap.objs.size<=c:=by
   simp only[List.mem_cons,List.not_mem_nil,or_false]at m;rcases m with e|e <;> subst e <;> first|exact zF _|exact rQ _ _
  exact f.fpOk j (f.hok.fresh j)
theorem Eh:∀{ns:LI'}{its:LW},Vals (ns.map V.int) its->∃xs:List (Int×Tok),its=xs.map (λp=>Value.int p.1 p.2)/\xs.map (·.1)=ns
 |[],_,.nil=>⟨[],rfl,rfl⟩
 |n:: r,_,.cons ⟨b,h⟩ q=>by
  obtain⟨xs,e1,a⟩:=Eh (ns:=r) q;exact⟨(n,b):: xs,by rw[h,e1];rfl,by rw[zH,a]⟩
theorem Eg(c:X.calm=true):mI X (.builtin "sum") (λxs H Q=>∃(p:Addr)(ns:LI'),xs=[.ref p]/\SqL X.K H p (ns.map V.int)/\Q (.int ns.sum) H):=by
 intro g s i H xs us Q I r h;obtain⟨p,ns,rfl,f,q⟩:=h;obtain⟨u,rfl,d⟩:=kZ r;cases d;obtain⟨its,b,pl,j⟩:=I.list f;obtain⟨ps,e1,a⟩:=Eh b;have hl:s.heap.IsList p (intItems ps.toArray):=by
  have:=pl.isList;rw[e1]at this;simpa [intItems]using this
 refine sum_intListG (I.ok.hd c) hl λh' tk t' e=>⟨.int ns.sum,H,I.kept (t':=tk) e,⟨t',?_⟩,q⟩;rw[preSum_eq,wR (by simp)];simp[a]
end
theorem SqB.or{b:Bool}{K:Frag}{H:Hp}{a:Addr}{xs:List V}(h:SqB b K H a xs):SqL K H a xs\/SqT K H a xs:=by
 cases b
 ·exact .inl h
 ·exact .inr h
theorem SqB.up{b:Bool}{K:Frag}{H H':Hp}{a:Addr}{xs:List V}(h:SqB b K H a xs)(s:Same H H'):SqB b K H' a xs:=by
 cases b
 ·exact s.seq h
 ·exact s.tup h
theorem SqB.lst{K:Frag}{H:Hp}{a:Addr}{xs:List V}(h:H a=some (.lst xs)):SqB false K H a xs:=SqL.of h
theorem SqB.tup{K:Frag}{H:Hp}{a:Addr}{xs:List V}(h:H a=some (.tup xs)):SqB true K H a xs:=SqT.of h
def Its(K:Frag)(b:Bool)(a:Addr):It:=match b with|false=>Itl K a|true=>Itt K a
theorem Its.go{K:Frag}{b:Bool}{a:Addr}{xs:List V}{x:V}{i:Nat}{H:Hp}(h:SqB b K H a xs)(e:xs[i]?=some x):(Its K b a).go i H:=by
 cases b
 ·exact⟨xs,x,h,e⟩
 ·exact⟨xs,x,h,e⟩
theorem Its.stop{K:Frag}{b:Bool}{a:Addr}{xs:List V}{i:Nat}{H:Hp}(h:SqB b K H a xs)(e:xs.length<=i):(Its K b a).stop i H:=by
 cases b
 ·exact⟨xs,h,e⟩
 ·exact⟨xs,h,e⟩
theorem Its.yld{K:Frag}{b:Bool}{a:Addr}{xs:List V}{i:Nat}{H H':Hp}{x:V}(h:SqB b K H a xs)(y:(Its K b a).yld i H x H'):H'=H/\xs[i]?=some x:=by
 cases b
 ·exact⟨y.1,y.2 xs h⟩
 ·exact⟨y.1,y.2 xs h⟩
section
variable {X:Cx}
def iSeq(K:Frag)(tl:TE):TI:=λσ H R=>tl σ H λx H1=>∃b a,x=.ref a/\(∃xs,SqB b K H1 a xs)/\R (Its K b a) H1
theorem oF{u l:Expr}{g:TE}(hl:PE X l g):PI X u l (iSeq X.K g):=by
 intro m s n H R I h;refine thn (hl m s n H _ I h) ?_;rintro v c ⟨x,i,d,w,k⟩;obtain⟨b,a,e,⟨xs,j⟩,q⟩:=k;subst e;cases w;cases b
 ·obtain⟨its,r,p,t⟩:=d.list j;refine tK p.isList ?_;refine⟨c.heap.objs.size,[c.heap.objs.size],_,_,i,rfl,d.kept (t':=c.toks) λb o e=>zC _ e,Ka a _,⟨_,zN _ rfl,rfl,rfl⟩,λb f=>?_,q⟩;have e:b=c.heap.objs.size:=by simpa using f
  subst e;exact d.fpOk (zF _) (d.hok.fresh (zF _))
 ·obtain⟨its,r,p,t⟩:=d.tuple j;refine vW (show c.heap.IsTuple a its.toArray from p) ?_;refine⟨c.heap.objs.size,[c.heap.objs.size],_,_,i,rfl,d.kept (t':=c.toks) λb o e=>zC _ e,Lz a _,⟨_,zN _ rfl,rfl,rfl⟩,λb f=>?_,q⟩;have e:b=c.heap.objs.size:=by simpa using f
  subst e;exact d.fpOk (zF _) (d.hok.fresh (zF _))
def rIxB(K:Frag):R2:=λx y H Q=>E5 λ(b:Bool)(p:Addr)(xs:List V)(i:Int)(v:V)=>A5 (x=.ref p) (y=.int i) (SqB b K H p xs) (atI xs i=some v) (Q v H)
theorem ix_B:IxR X (rIxB X.K):=by
 intro g j c s d H x y v u Q I k m h;obtain⟨b,p,xs,i,e,e1,a,l,f,q⟩:=h;cases b
 ·exact Mw g j c s d H x y v u Q I k m ⟨p,xs,i,e,e1,a,l,f,q⟩
 ·exact Mv g j c s d H x y v u Q I k m ⟨p,xs,i,e,e1,a,l,f,q⟩
def iW(K:Frag):List V->Hp->VK->Prop:=λxs H Q=>E3 λ(b:Bool)(p:Addr)(ys:List V)=>A3 (xs=[.ref p]) (SqB b K H p ys) (Q (.int ys.length) H)
theorem Ox:mI X (.builtin "len") (iW X.K):=by
 intro d s a H xs us Q I r h;obtain⟨b,p,ys,e,c,q⟩:=h;exact Mo d s a H xs us Q I r ⟨p,ys,e,c.or,q⟩
def fZ(K:Frag):List V->Hp->VK->Prop:=λxs H Q=>∃b p ys,xs=[.ref p]/\SqB b K H p ys/\∀l,H l=none->Q (.ref l) (upd H l (.lst ys))
theorem iX:mI X (.type "list") (fZ X.K):=by
 intro d s a H xs us Q I r h;obtain⟨b,p,ys,e,c,q⟩:=h;exact Mn d s a H xs us Q I r ⟨p,ys,e,c.or,q⟩
def jY(K:Frag):List V->Hp->VK->Prop:=λxs H Q=>∃p ys,xs=[.ref p]/\((SqL K H p ys/\∀l,H l=none->Q (.ref l) (upd H l (.tup ys)))\/(SqT K H p ys/\Q (.ref p) H))
theorem mK:mI X (.type "tuple") (jY X.K):=Mm
end
theorem Ow{K:Frag}{b:Bool}{a:Addr}{xs:List V}{g:TG}{tb:TS}{D:Ends}{c:St}{H:Hp}(d:Nat->St->Hp->Prop)(k:d 0 c H)(hl:∀i c H,i<=xs.length->d i c H->SqB b K H a xs)
  (l:∀i x c H,xs[i]?=some x->d i c H->g x c H λf e=>tb {D with nx:=d (i+1),ct:=d (i+1),bk:=D.nx} f e)(p:∀c H,d xs.length c H->D.nx c H):
  ∃j:Nat->Nat->St->Hp->Prop,(∃m,j 0 m c H)/\∀i m c H,j i m c H ->
   ((Its K b a).stop i H/\D.nx c H)\/((Its K b a).go i H/\∃N:St->Hp->Prop,(∀o H',N o H'->∃n,n<m/\j (i+1) n o H')/\∀x H',(Its K b a).yld i H x H'->g x c H' λf e=>tb {D with nx:=N,ct:=N,bk:=D.nx} f e):=by
 cases b
 ·exact Lv d k hl l p
 ·exact Lu d k hl l p
theorem Ov{K:Frag}{b:Bool}{a:Addr}{xs:List V}{g:TG}{tb:TS}{D:Ends}{c:St}{H:Hp}(d:Nat->St->Hp->Prop)(v:d 0 c H)(hl:∀i c H,i<=xs.length->d i c H->SqB b K H a xs)
  (w:∀i x p c H,xs[i]?=some x->d i c H->H p=none->g (.ref p) c (upd H p (.tup [.int i,x])) λj f=>tb {D with nx:=d (i+1),ct:=d (i+1),bk:=D.nx} j f)(u:∀c H,d xs.length c H->D.nx c H):
  ∃l:Nat->Nat->St->Hp->Prop,(∃m,l 0 m c H)/\∀i m c H,l i m c H ->
   ((Ite K b a).stop i H/\D.nx c H)\/((Ite K b a).go i H/\∃N:St->Hp->Prop,(∀k H',N k H'->∃o,o<m/\l (i+1) o k H')/\∀x H',(Ite K b a).yld i H x H'->g x c H' λj f=>tb {D with nx:=N,ct:=N,bk:=D.nx} j f):=by
 refine⟨λi m c H=>m=xs.length-i/\i<=xs.length/\d i c H,⟨xs.length,by simp,yD _,v⟩,?_⟩;rintro i m c H ⟨rfl,hi,p⟩;have q:=hl i c H hi p
 by_cases n:i<xs.length
 ·refine .inr ⟨⟨xs,xs[i],q,by simp[n]⟩,d (i+1),λk H' t=>⟨xs.length-(i+1),⋯,rfl,n,t⟩,λx H' y=>?_⟩;obtain⟨r,x,rfl,hr,rfl,z⟩:=y;exact w i x r c H (z xs q) p hr
 ·have e:i=xs.length:=⋯
  subst e;exact .inl ⟨⟨xs,q,rfl⟩,u c H p⟩
def lY(a:Addr)(H H':Hp):Prop:=∀b o,b≠a->H b=some o->H' b=some o
theorem Same.x{a:Addr}{H H':Hp}(s:Same H H'):lY a H H':=λb o _ e=>s b o e
section
variable {J:It} {g:TG} {tt:TOx} {te:TE} {n:Nat} {fr:List (Str×Nat)} {σ:St} {a:Addr} {H:Hp} {Q:VK} {K:Frag}
theorem aP(len:Nat)(P:Nat->List V->Hp->Prop)(u:H a=none)(R:len<=1000)(z:P 0 [] (upd H a (.lst [])))
  (hl:∀i zs c,P i zs c->zs.length<=i)(mono:∀i zs c d,P i zs c->lY a c d->P i zs d)
  (D:∀i c,i<len->Same H c->J.go i c)(I:∀c,Same H c->J.stop len c)
  (L:∀i c zs,i<len->Same H c->c a=some (.lst zs)->P i zs c->∀(ys:St) x k,ys.length=n->J.yld i c x k->∀C:Option V->Hp->Prop,
   (∀y d,Same c d->P (i+1) (zs++[y]) d->C (some y) d)->(∀d,Same c d->P (i+1) zs d->C none d) ->
   g x (ys++mE fr σ) k λw M=>(∃v:St,v.length=n/\w=v++mE fr σ)/\tt w M C)
  (O:∀c ys,Same H c->c a=some (.lst ys)->P len ys c->Q (.ref a) c):lO J g tt n fr σ a H Q:=by
 refine⟨λi m c=>m=len-i/\i<=len/\Same H c/\∃zs,c a=some (.lst zs)/\P i zs c,⟨len,by simp,Nat.zero_le _,Same.new u,[],pN,z⟩,?_⟩;rintro i m c ⟨rfl,hi,f,zs,r,p⟩
 by_cases l:i<len
 ·refine .inr ⟨D i c l f,λH'=>i+1<=len/\Same H H'/\∃zs,H' a=some (.lst zs)/\P (i+1) zs H',λH' q=>⟨len-(i+1),⋯,rfl,q⟩,λys x k N G=>?_⟩;refine L i c zs l f r p ys x k N G _ (λy d j t=>?_) λd j t=>?_
  ·refine⟨zs,j _ _ r,aJ (by have:=hl i zs c p;omega),l,Same.over u (f.trans j),_,pN,mono _ _ _ _ t λb o F e=>?_⟩;rw[pR F];exact e
  ·exact⟨l,f.trans j,zs,j _ _ r,t⟩
 ·have e:i=len:=⋯
  subst e;exact .inl ⟨I c f,O c zs f r p⟩
theorem dS(len:Nat)(R:Nat->V->Hp->Prop)(w:H a=none)(L:len<=1000)(mono:∀i y b c,R i y b->lY a b c->R i y c)
  (t:∀i b,i<len->Same H b->J.go i b)(D:∀b,Same H b->J.stop len b)
  (F:∀i b zs,i<len->Same H b->b a=some (.lst zs)->∀(ys:St) x d,ys.length=n->J.yld i b x d->∀l:VK,(∀y c,Same b c->R i y c->l y c) ->
   g x (ys++mE fr σ) d λk I=>(∃f:St,f.length=n/\k=f++mE fr σ)/\te k I l)
  (P:∀b ys,Same H b->b a=some (.lst ys)->ys.length=len->(∀j y,ys[j]?=some y->R j y b)->Q (.ref a) b):lO J g (tEl te) n fr σ a H Q:=by
 refine aP len (λi zs b=>zs.length=i/\∀j y,zs[j]?=some y->R j y b) w L ⟨rfl,λj y e=>by simp at e⟩ (λi zs b p=>tY p.1) (λi zs b c p s=>⟨p.1,λj y e=>mono _ _ _ _ (p.2 j y e) s⟩) t D ?_ λb ys s e p=>P b ys s e p.1 p.2;intro i b zs hi M O p ys x d N v C o _;refine F i b zs hi M O ys x d N v _ λy c m r=>o y c m ⟨by simp[p.1],λj z e=>?_⟩
 by_cases G:j<zs.length
 ·rw[yV G]at e;exact mono _ _ _ _ (p.2 j z e) m.x
 ·rw[xG ⋯]at e;have u:j-zs.length=0:=by
   by_cases q:j-zs.length=0
   ·exact q
   ·rw[wB (by simp;omega)]at e;cases e
  rw[u]at e;cases zP e;have:j=i:=by have:=p.1;omega
  rw[this];exact r
theorem oM{b:Bool}{l:Addr}{xs:List V}(R:Nat->V->Hp->Prop)(u:H a=none)(f:SqB b K H l xs)(v:xs.length<=1000)(mono:∀i y c d,R i y c->lY a c d->R i y d)
  (w:∀i x c zs,xs[i]?=some x->Same H c->c a=some (.lst zs)->∀e:VK,(∀y d,Same c d->R i y d->e y d)->te (some x:: mE fr σ) c e)
  (z:∀c ys,Same H c->c a=some (.lst ys)->ys.length=xs.length->(∀j y,ys[j]?=some y->R j y c)->Q (.ref a) c):lO (Its K b l) (pY 0) (tEl te) 1 fr σ a H Q:=by
 refine dS xs.length R u v mono (λi c hi s=>Its.go (f.up s) (x:=xs[i]) (by simp[hi])) (λc s=>Its.stop (f.up s) (zF _)) ?_ z;intro i c zs hi k C ys x r t m e p;obtain⟨e1,q⟩:=Its.yld (f.up k) m;subst e1
 match ys,t with
 |[o],_=>exact⟨⟨[some x],rfl,rfl⟩,w i x r zs q k C e p⟩
theorem kO{e:Int}{len:Nat}(R:Nat->V->Hp->Prop)(q:H a=none)(r:len<=1000)(mono:∀i y b c,R i y b->lY a b c->R i y c)
  (t:∀(i:Nat) b zs,i<len->Same H b->b a=some (.lst zs)->∀d:VK,(∀y c,Same b c->R i y c->d y c)->te (some (.int (e+i)):: mE fr σ) b d)
  (v:∀b ys,Same H b->b a=some (.lst ys)->ys.length=len->(∀j y,ys[j]?=some y->R j y b)->Q (.ref a) b):lO (Itr e len) (pY 0) (tEl te) 1 fr σ a H Q:=by
 refine dS len R q r mono (λi b hi s=>hi) (λb s=>zF _) ?_ v;intro i b zs hi u w ys x m p f d k;obtain⟨e1,l⟩:=f;subst e1 l
 match ys,p with
 |[o],_=>exact⟨⟨[_],rfl,rfl⟩,t i m zs hi u w d k⟩
theorem eA{b1 b2:Bool}{l1 l2:Addr}{xs ys:List V}(R:Nat->V->Hp->Prop)(u:H a=none)(k:SqB b1 K H l1 xs)(e:SqB b2 K H l2 ys)(I:xs.length=ys.length)(z:xs.length<=1000)(mono:∀i y b c,R i y b->lY a b c->R i y c)
  (v:∀i x y b zs,xs[i]?=some x->ys[i]?=some y->Same H b->b a=some (.lst zs)->∀d:VK,(∀y c,Same b c->R i y c->d y c)->te (some x:: some y:: mE fr σ) b d)
  (G:∀b zs,Same H b->b a=some (.lst zs)->zs.length=xs.length->(∀j y,zs[j]?=some y->R j y b)->Q (.ref a) b):
  lO (Itz K b1 l1 b2 l2) (gTup K 2 (nB (pY 0) (nB (pY 1) gNil))) (tEl te) 2 fr σ a H Q:=by
 refine dS xs.length R u z mono (λi b hi s=>⟨xs,ys,xs[i],ys[i],k.up s,e.up s,by simp[hi],by simp⟩) (λb s=>⟨xs,ys,k.up s,e.up s,.inl (by simp)⟩) ?_ G;intro i b zs hi l F C x M q f d w;obtain⟨p,x,y,rfl,m,rfl,t,f⟩:=f;refine⟨p,[x,y],rfl,SqT.of pN,rfl,x,[y],rfl,y,[],rfl,rfl,?_⟩
 match C,q with
 |[o,L],_ =>
  refine⟨⟨[some x,some y],rfl,rfl⟩,v i x y _ zs (t xs (k.up l)) (f ys (e.up l)) (l.trans (Same.new m)) (Same.new m _ _ F) d λy c D r=>w y c ((Same.new m).trans D) r⟩
theorem Ou{b:Bool}{l:Addr}{xs:List V}(R:Nat->V->Hp->Prop)(v:H a=none)(f:SqB b K H l xs)(C:xs.length<=1000)(mono:∀i y c d,R i y c->lY a c d->R i y d)
  (w:∀i x c zs,xs[i]?=some x->Same H c->c a=some (.lst zs)->∀e:VK,(∀y d,Same c d->R i y d->e y d)->te (some (.int i):: some x:: mE fr σ) c e)
  (I:∀c zs,Same H c->c a=some (.lst zs)->zs.length=xs.length->(∀j y,zs[j]?=some y->R j y c)->Q (.ref a) c):
  lO (Ite K b l) (gTup K 2 (nB (pY 0) (nB (pY 1) gNil))) (tEl te) 2 fr σ a H Q:=by
 refine dS xs.length R v C mono (λi c hi s=>⟨xs,xs[i],f.up s,by simp[hi]⟩) (λc s=>⟨xs,f.up s,rfl⟩) ?_ I;intro i c zs hi m G D x M q u e z;obtain⟨p,x,rfl,k,rfl,t⟩:=u;refine⟨p,[.int i,x],rfl,SqT.of pN,rfl,_,[x],rfl,x,[],rfl,rfl,?_⟩
 match D,q with
 |[o,L],_ =>
  refine⟨⟨[some (.int i),some x],rfl,rfl⟩,w i x _ zs (t xs (f.up m)) (m.trans (Same.new k)) (Same.new k _ _ G) e λy d F r=>z y d ((Same.new k).trans F) r⟩
end
def MatB(b1 b2:Bool)(K:Frag)(H:Hp)(a:Addr)(rows:List (LI')):Prop:=∃ps:LA,SqB b1 K H a (ps.map V.ref)/\ps.length=rows.length/\∀(i:Nat)(p:Addr)(r:LI'),ps[i]?=some p->rows[i]?=some r->SqB b2 K H p (r.map V.int)
theorem MatB.up{b1 b2:Bool}{K:Frag}{H H':Hp}{a:Addr}{b:List (LI')}(h:MatB b1 b2 K H a b)(s:Same H H'):MatB b1 b2 K H' a b:=let ⟨ps,d,f,e⟩:=h;⟨ps,d.up s,f,λi p r e1 c=>(e i p r e1 c).up s⟩
def RowR(a:Addr)(f:Nat->LI')(j:Nat)(y:V)(H:Hp):Prop:=∃p,y=.ref p/\p≠a/\H p=some (.lst ((f j).map V.int))
theorem RowR.mono{a:Addr}{f:Nat->LI'}(i:Nat)(y:V)(c b:Hp)(h:RowR a f i y c)(s:lY a c b):RowR a f i y b:=let ⟨p,e,n,q⟩:=h;⟨p,e,n,s _ _ n q⟩
def iT:Nat->PyData->Bool
 |_,.int _=>true
 |n+1,.list xs=>xs.all (iT n)
 |n+1,.tuple xs=>xs.all (iT n)
 |_,_=>false
theorem jB:∀(n:Nat)(d:PyData),iT n d=true->d.canLay0=true/\d.depth<=n
 |0,.int _,_=>by simp[PyData.canLay0,PyData.depth]
 |n+1,.int _,_=>by simp[PyData.canLay0,PyData.depth]
 | n+1,.list xs,h=>by
  have all:∀ys:List PyData,ys.all (iT n)=true->PyData.canLayAll0 ys=true/\PyData.depthAll ys<=n:=by
   intro ys
   induction ys with
   |nil=>intro _;simp[PyData.canLayAll0,PyData.depthAll]
   |cons y r b =>
    intro a;rw[yZ,zO]at a;have c:=jB n y a.1;have e:=b a.2;simp only[PyData.canLayAll0,PyData.depthAll,Bool.and_eq_true];exact⟨⟨c.1,e.1⟩,⋯⟩
  have:=all xs (by simpa [iT]using h);simp only[PyData.canLay0,PyData.depth];exact⟨this.1,⋯⟩
 | n+1,.tuple xs,h=>by
  have all:∀ys:List PyData,ys.all (iT n)=true->PyData.canLayAll0 ys=true/\PyData.depthAll ys<=n:=by
   intro ys
   induction ys with
   |nil=>intro _;simp[PyData.canLayAll0,PyData.depthAll]
   |cons y r b =>
    intro a;rw[yZ,zO]at a;have c:=jB n y a.1;have e:=b a.2;simp only[PyData.canLayAll0,PyData.depthAll,Bool.and_eq_true];exact⟨⟨c.1,e.1⟩,⋯⟩
  have:=all xs (by simpa [iT]using h);simp only[PyData.canLay0,PyData.depth];exact⟨this.1,⋯⟩
theorem aQ:∀(n:Nat)(d d':PyData),iT n d=true->iT n d'=true->SeqAt.noMix d d'=true:=by
 intro n
 induction n with
 |zero=>intro d d' h h';cases d <;> simp[iT]at h <;> cases d' <;> simp[iT]at h' <;> simp[SeqAt.noMix]
 | succ n c =>
  have all:∀ys zs:List PyData,ys.all (iT n)=true->zs.all (iT n)=true->SeqAt.noMixAll ys zs=true:=by
   intro ys
   induction ys with
   |nil=>intro zs _ _;cases zs <;> simp[SeqAt.noMixAll]
   | cons y r e =>
    intro zs a b;cases zs with
    |nil=>simp[SeqAt.noMixAll]
    |cons z f =>
     rw[yZ,zO]at a b;simp only[SeqAt.noMixAll,Bool.and_eq_true];exact⟨c y z a.1 b.1,e f a.2 b.2⟩
  intro d d' h h';cases d <;> simp only[iT,Bool.false_eq_true]at h <;> cases d' <;> simp only[iT,Bool.false_eq_true]at h' <;> simp only[SeqAt.noMix]
  ·exact all _ _ h h'
  ·exact all _ _ h h'
theorem aR:∀(n:Nat)(d d':PyData),iT n d=true->iT n d'=true->(same d d'=true↔d=d'):=by
 intro n
 induction n with
 |zero=>intro d d' h h';cases d <;> simp[iT]at h <;> cases d' <;> simp[iT]at h' <;> simp[same]
 | succ n c =>
  have all:∀ys zs:List PyData,ys.all (iT n)=true->zs.all (iT n)=true->(sameAll ys zs=true↔ys=zs):=by
   intro ys
   induction ys with
   |nil=>intro zs _ _;cases zs <;> simp[sameAll]
   | cons y r e =>
    intro zs a b;cases zs with
    |nil=>simp[sameAll]
    |cons z f =>
     rw[yZ,zO]at a b;simp only[sameAll,Bool.and_eq_true,List.cons.injEq];rw[c y z a.1 b.1,e f a.2 b.2]
  intro d d' h h';cases d <;> simp only[iT,Bool.false_eq_true]at h <;> cases d' <;> simp only[iT,Bool.false_eq_true]at h' <;> simp only[same,beq_iff_eq,PyData.int.injEq,PyData.list.injEq,PyData.tuple.injEq,reduceCtorEq,Bool.false_eq_true]
  ·exact all _ _ h h'
  ·exact all _ _ h h'
theorem Ef{n:Nat}{d:PyData}(a:n<=64)(h:iT n d=true):SeqAt.shaped d=true:=by
 have:=jB n d h;unfold SeqAt.shaped;rw[zO];exact⟨this.1,zJ ⋯⟩
section
variable {K:Frag} {H:Hp} {x y:V} {d d':PyData} {Q:VK}
theorem Ee(n:Nat)(f:n<=64)(g:Dt K H x d)(i:Dt K H y d')(a:iT n d=true)(c:iT n d'=true){b:Bool}(j:b=true↔d=d')(q:Q (.bl b) H):rEqD K x y H Q:=by
 refine⟨d,d',g,i,Ef f a,Ef f c,aQ n d d' a c,?_⟩;have:=aR n d d' a c;have e:same d d'=b:=by
  cases hs:same d d' <;> cases b <;> simp_all
 rw[e];exact q
end
def seqD(b:Bool)(ds:List PyData):PyData:=match b with|false=>.list ds|true=>.tuple ds
def iY(b:Bool)(ns:LI'):PyData:=seqD b (ns.map PyData.int)
def matD(b1 b2:Bool)(rows:List (LI')):PyData:=seqD b1 (rows.map (iY b2))
theorem Ed{b:Bool}{xs ys:List PyData}:seqD b xs=seqD b ys↔xs=ys:=by cases b <;> simp[seqD]
theorem aS{b c:Type}{f:b->c}(a:∀x y,f x=f y->x=y):∀{xs ys:List b},xs.map f=ys.map f↔xs=ys
 |[],[]=>by simp
 |[],_:: _=>by simp
 |_:: _,[]=>by simp
 |x:: r,y:: d=>by
  rw[zH,zH,zY,zY,aS a];exact⟨λh=>⟨a _ _ h.1,h.2⟩,λh=>⟨by rw[h.1],h.2⟩⟩
theorem Eb{b:Bool}{ns ms:LI'}:iY b ns=iY b ms↔ns=ms:=by
 unfold iY;rw[Ed,aS λx y h=>by injection h]
theorem Ot{b1 b2:Bool}{A B:List (LI')}:matD b1 b2 A=matD b1 b2 B↔A=B:=by
 unfold matD;rw[Ed,aS λx y h=>Eb.mp h]
theorem Dt.seqB{b:Bool}{K:Frag}{H:Hp}{a:Addr}{xs:List V}{ds:List PyData}(h:SqB b K H a xs)(c:Dts K H xs ds):Dt K H (.ref a) (seqD b ds):=by
 cases b
 ·exact .lst h c
 ·exact .tup h c
theorem Dt.intsB{b:Bool}{K:Frag}{H:Hp}{a:Addr}{ns:LI'}(h:SqB b K H a (ns.map V.int)):Dt K H (.ref a) (iY b ns):=Dt.seqB h (Dts.ints ns)
theorem Dt.matB{b1 b2:Bool}{K:Frag}{H:Hp}{a:Addr}{b:List (LI')}(h:MatB b1 b2 K H a b):Dt K H (.ref a) (matD b1 b2 b):=by
 obtain⟨ps,d,c,e⟩:=h;refine Dt.seqB d ?_;clear d
 induction ps generalizing b with
 |nil =>
  cases b with
  |nil=>exact .nil
  |cons r j=>simp at c
 | cons p ps g =>
  cases b with
  |nil=>simp at c
  |cons r j =>
   refine .cons (Dt.intsB (e 0 p r rfl rfl)) (g (by simpa using c) λi q z e1 f=>e (i+1) q z (by simpa using e1) (by simpa using f))
section
variable {wi:TI} {g:TG} {tt:TOx} {te:TE} {tc:TT} {n:Nat} {fr:List (Str×Nat)} {σ:St} {H:Hp} {Q:VK}
theorem oC(h:∀B:TE,B=te->wi σ H λc b=>∀a,b a=none->lO c g (tEl B) n fr σ a b Q):nF wi g (tEl te) n fr σ H Q:=h _ rfl
theorem Os(h:∀(C:TT)(B:TE),C=tc->B=te->wi σ H λc b=>∀a,b a=none->lO c g (gO C B) n fr σ a b Q):nF wi g (gO tc te) n fr σ H Q:=h _ _ rfl rfl
end
def seqO(b:Bool)(xs:List V):HO:=match b with|false=>.lst xs|true=>.tup xs
def rSlB(K:Frag):V->Option Int->Option Int->Hp->VK->Prop:=λx lo hi H Q=>∃b a xs,x=.ref a/\SqB b K H a xs /\
 (b=true->¬ (HT.sIx xs.length 0 lo=0/\HT.sIx xs.length xs.length hi=xs.length))/\∀p,H p=none->Q (.ref p) (upd H p (seqO b (cutV xs lo hi)))
theorem sl_B{X:Cx}:SlR X (rSlB X.K):=by
 intro c s d H x v g j k hi n Q I l i pl f h;obtain⟨b,a,xs,e,m,o,q⟩:=h;cases b
 ·exact Mq c s d H x v g j k hi n Q I l i pl f ⟨a,xs,e,m,q⟩
 ·exact Mz c s d H x v g j k hi n Q I l i pl f ⟨a,xs,e,m,o rfl,q⟩
def MatL(H:Hp)(a:Addr)(rows:List (LI')):Prop:=∃ps:LA,H a=some (.lst (ps.map V.ref))/\ps.length=rows.length/\∀(i:Nat)(p:Addr)(r:LI'),ps[i]?=some p->rows[i]?=some r->p≠a/\H p=some (.lst (r.map V.int))
theorem MatL.b{K:Frag}{H:Hp}{a:Addr}{b:List (LI')}(h:MatL H a b):MatB false false K H a b:=let ⟨ps,d,f,e⟩:=h;⟨ps,SqB.lst d,f,λi p r e1 c=>SqB.lst (e i p r e1 c).2⟩
theorem MatL.up{H H':Hp}{a:Addr}{d:List (LI')}(h:MatL H a d)(s:Same H H'):MatL H' a d:=let ⟨ps,e,f,c⟩:=h;⟨ps,s _ _ e,f,λi p r e1 b=>⟨(c i p r e1 b).1,s _ _ (c i p r e1 b).2⟩⟩
theorem MatL.of{H:Hp}{a:Addr}{f:Nat->LI'}{ys:List V}(h:H a=some (.lst ys))(hr:∀(j:Nat) y,ys[j]?=some y->RowR a f j y H):MatL H a ((List.range ys.length).map f):=by
 have g:∃ps:LA,ys=ps.map V.ref:=by
  clear h;have:∀(zs:List V)(k:Nat),(∀(j:Nat) y,zs[j]?=some y->RowR a f (j+k) y H)->∃ps:LA,zs=ps.map V.ref:=by
   intro zs
   induction zs with
   |nil=>intro k _;exact⟨[],rfl⟩
   | cons z r d =>
    intro k c;obtain⟨p,e,_⟩:=c 0 z rfl;obtain⟨ps,b⟩:=d (k+1) λj y q=>by
     have:=c (j+1) y (by simpa using q)
     rwa[Nat.add_assoc,Nat.add_comm 1 k]at this
    exact⟨p:: ps,by rw[e,b];rfl⟩
  exact this ys 0 hr
 obtain⟨ps,rfl⟩:=g;refine⟨ps,h,by simp,λi p r e1 b=>?_⟩;obtain⟨l,e,n,q⟩:=hr i (.ref p) (by simp[e1]);cases e;have hi:i<ps.length:=(pB.mp e1).1;have:r=f i:=by
  rw[zD,yN,yB hi]at b;exact(zP b).symm
 rw[this];exact⟨n,q⟩
theorem MatB.row{b1 b2:Bool}{K:Frag}{H:Hp}{a:Addr}{b:List (LI')}(h:MatB b1 b2 K H a b){i:Nat}{r:LI'}(e:b[i]?=some r):∃ps:LA,∃p,SqB b1 K H a (ps.map V.ref)/\(ps.map V.ref)[i]?=some (.ref p)/\(ps.map V.ref).length=b.length/\SqB b2 K H p (r.map V.int):=by
 obtain⟨ps,c,f,d⟩:=h;have hi:i<ps.length:=by have:=(pB.mp e).1;omega
 exact⟨ps,ps[i],c,by simp[hi],by simp[f],d i _ r (by simp[hi]) e⟩
theorem MatB.walk{b1 b2:Bool}{K:Frag}{H:Hp}{a:Addr}{b:List (LI')}(h:MatB b1 b2 K H a b):∃xs:List V,SqB b1 K H a xs/\xs.length=b.length/\∀(i:Nat) x,xs[i]?=some x->∃p r,x=.ref p/\b[i]?=some r/\SqB b2 K H p (r.map V.int):=by
 obtain⟨ps,c,f,d⟩:=h;refine⟨_,c,by simp[f],λi x e=>?_⟩;rw[zD]at e;cases q:ps[i]? with
 |none=>rw[q]at e;cases e
 |some p =>
  rw[q]at e;have hi:i<b.length:=by have:=(pB.mp q).1;omega
  exact⟨p,b[i],(zP e).symm,by simp[hi],d i p _ q (by simp[hi])⟩
theorem mL{a:Type}{xs:List a}{k:Nat}{x:a}{i:Int}(h:xs[k]?=some x)(hi:i=k):atI xs i=some x:=by
 subst hi;exact My h
theorem nS{ns:LI'}{i:Nat}{x:V}(h:(ns.map V.int)[i]?=some x):∃n,ns[i]?=some n/\x=.int n:=by
 rw[zD]at h;cases e:ns[i]? with
 |none=>rw[e]at h;cases h
 |some n=>rw[e]at h;exact⟨n,rfl,(zP h).symm⟩
theorem iZ{ns:LI'}{i:Nat}{n:Int}(h:ns[i]?=some n):(ns.map V.int)[i]?=some (.int n):=by rw[zD,h];rfl
theorem Oq{ns:LI'}{k:Nat}{n:Int}(h:ns[k]?=some n):ns.getD k 0=n:=by rw[uL,h];rfl
theorem getD_at{ns:LI'}{k:Nat}(h:k<ns.length):ns[k]?=some (ns.getD k 0):=by simp[h]
theorem getD_mem{ns:LI'}{k:Nat}(h:k<ns.length):ns.getD k 0∈ns:=by
 rw[show ns.getD k 0=ns[k] by simp[h]];exact wA h
def colI(k:Nat)(rows:List (LI')):LI':=rows.map λr=>r.getD k 0
def dotI(ms ns:LI'):Int:=(List.zipWith (·*·) ms ns).sum
def jZ(w:Nat)(rows:List (LI')):List (LI'):=(List.range w).map λk=>colI k rows
def mulM(w:Nat)(A B:List (LI')):List (LI'):=A.map λr=>(List.range w).map λk=>dotI r (colI k B)
section
variable {K:Frag} {g:TG} {tb:TS} {σ:St} {H:Hp} {nx:St->Hp->Prop} {rt:VK}
abbrev dU(J:It)(g:TG)(tb:TS)(nx:St->Hp->Prop)(rt:VK)(σ:St)(H:Hp):Prop:=∃W:Nat->Nat->St->Hp->Prop,(∃m,W 0 m σ H)/\∀i m σ H,W i m σ H ->
 (J.stop i H/\nx σ H)\/(J.go i H/\∃N:St->Hp->Prop,(∀σ' H',N σ' H'->∃m',m'<m/\W (i+1) m' σ' H')/\∀x H',J.yld i H x H'->g x σ H' λσ2 H2=>tb {nx:=N,rt:=rt,bk:=nx,ct:=N} σ2 H2)
theorem dW{b:Int}{n:Nat}(a:Nat->St->Hp->Prop)(c:a 0 σ H)
  (d:∀i σ H,i<n->a i σ H->g (.int (b+i)) σ H λf e=>tb {nx:=a (i+1),rt:=rt,bk:=nx,ct:=a (i+1)} f e)(j:∀σ H,a n σ H->nx σ H):dU (Itr b n) g tb nx rt σ H:=
 Ls (D:={nx:=nx,rt:=rt,bk:=nx,ct:=nx}) a c d j
theorem iA{b:Bool}{a:Addr}{xs:List V}(c:Nat->St->Hp->Prop)(d:c 0 σ H)(hl:∀i σ H,i<=xs.length->c i σ H->SqB b K H a xs)
  (e:∀i x σ H,xs[i]?=some x->c i σ H->g x σ H λj f=>tb {nx:=c (i+1),rt:=rt,bk:=nx,ct:=c (i+1)} j f)(k:∀σ H,c xs.length σ H->nx σ H):dU (Its K b a) g tb nx rt σ H:=
 Ow (D:={nx:=nx,rt:=rt,bk:=nx,ct:=nx}) c d hl e k
theorem Ea{b:Bool}{a:Addr}{xs:List V}(c:Nat->St->Hp->Prop)(d:c 0 σ H)(hl:∀i σ H,i<=xs.length->c i σ H->SqB b K H a xs)
  (e:∀i x p σ H,xs[i]?=some x->c i σ H->H p=none->g (.ref p) σ (upd H p (.tup [.int i,x])) λj f=>tb {nx:=c (i+1),rt:=rt,bk:=nx,ct:=c (i+1)} j f)(k:∀σ H,c xs.length σ H->nx σ H):dU (Ite K b a) g tb nx rt σ H:=
 Ov (D:={nx:=nx,rt:=rt,bk:=nx,ct:=nx}) c d hl e k
end
theorem aT{b1 b2:Bool}{K:Frag}{H:Hp}{a:Addr}{b:List (LI')}{i k:Nat}{r:LI'}{x:Int}{I c:Int}{Q:VK}(h:MatB b1 b2 K H a b)(e:b[i]?=some r)(d:r[k]?=some x)(hi:I=i)(g:c=k)(q:Q (.int x) H):
  rIxB K (.ref a) (.int I) H λv j=>rIxB K v (.int c) j Q:=by
 obtain⟨ps,p,k1,k2,k3,f⟩:=h.row e;exact⟨b1,a,_,_,_,rfl,rfl,k1,mL k2 hi,b2,p,_,_,_,rfl,rfl,f,mL (iZ d) g,q⟩
theorem dX{b1 b2:Bool}{K:Frag}{H:Hp}{a:Addr}{b:List (LI')}{i:Nat}{r:LI'}{I:Int}{Q:VK}(h:MatB b1 b2 K H a b)(e:b[i]?=some r)(hi:I=i)(q:∀p,SqB b2 K H p (r.map V.int)->Q (.ref p) H):
  rIxB K (.ref a) (.int I) H Q:=by
 obtain⟨ps,p,k1,k2,k3,c⟩:=h.row e;exact⟨b1,a,_,_,_,rfl,rfl,k1,mL k2 hi,q p c⟩
theorem gP{b1 b2:Bool}{K:Frag}{H:Hp}{a:Addr}{b:List (LI')}{Q:VK}(h:MatB b1 b2 K H a b)(q:Q (.int b.length) H):iW K [.ref a] H Q:=by
 obtain⟨ps,c,d,e⟩:=h;refine⟨b1,a,_,rfl,c,?_⟩;rw[yN,d];exact q
theorem jC{b:Bool}{K:Frag}{H:Hp}{a:Addr}{ns:LI'}{Q:VK}(h:SqB b K H a (ns.map V.int))(q:Q (.int ns.length) H):iW K [.ref a] H Q:=by
 refine⟨b,a,_,rfl,h,?_⟩;rw[yN];exact q
def Itq(lo st:Int)(n:Nat):It:=⟨λi _=>i<n,λi H x H'=>H'=H/\x=.int (lo+i*st),λi _=>n<=i⟩
section
variable {g:TG} {tb:TS} {σ:St} {H:Hp} {nx:St->Hp->Prop} {rt:VK}
theorem fr_step{c st:Int}{n:Nat}(a:Nat->St->Hp->Prop)(f:a 0 σ H)
  (j:∀i σ H,i<n->a i σ H->g (.int (c+i*st)) σ H λl k=>tb {nx:=a (i+1),rt:=rt,bk:=nx,ct:=a (i+1)} l k)(o:∀σ H,a n σ H->nx σ H):dU (Itq c st n) g tb nx rt σ H:=by
 refine⟨λi m σ H=>m=n-i/\i<=n/\a i σ H,⟨n,by simp,yD _,f⟩,?_⟩;rintro i m σ H ⟨rfl,hi,p⟩
 by_cases b:i<n
 ·refine .inr ⟨b,a (i+1),λq H' d=>⟨n-(i+1),⋯,rfl,b,d⟩,λx H' y=>?_⟩;obtain⟨e,y⟩:=y;subst e y;exact j i σ _ b p
 ·have e:i=n:=⋯
  subst e;exact .inl ⟨zF _,o σ H p⟩
end
def lF(a:Addr)(H:Hp)(zs:List V)(M:List (LI')):Prop:=∃ps:LA,zs=ps.map V.ref/\ps.length=M.length/\∀(j:Nat)(p:Addr)(r:LI'),ps[j]?=some p->M[j]?=some r->p≠a/\H p=some (.lst (r.map V.int))
theorem lF.nil{a:Addr}{H:Hp}:lF a H [] []:=⟨[],rfl,rfl,λj p r e=>by simp at e⟩
theorem lF.len{a:Addr}{H:Hp}{zs:List V}{M:List (LI')}(h:lF a H zs M):zs.length=M.length:=let ⟨ps,e,l,_⟩:=h;by rw[e,yN,l]
theorem lF.mono{a:Addr}{H H':Hp}{zs:List V}{M:List (LI')}(h:lF a H zs M)(s:lY a H H'):lF a H' zs M:=let ⟨ps,e,l,q⟩:=h;⟨ps,e,l,λj p r e1 b=>⟨(q j p r e1 b).1,s _ _ (q j p r e1 b).1 (q j p r e1 b).2⟩⟩
theorem lF.snoc{a p:Addr}{H:Hp}{zs:List V}{M:List (LI')}{r:LI'}(h:lF a H zs M)(f:p≠a)(e:H p=some (.lst (r.map V.int))):lF a H (zs++[.ref p]) (M++[r]):=by
 obtain⟨ps,rfl,c,d⟩:=h;refine⟨ps++[p],by simp,by simp[c],λi q z e1 b=>?_⟩
 by_cases hi:i<ps.length
 ·rw[yV hi]at e1;rw[yV ⋯]at b;exact d i q z e1 b
 ·have g:i=ps.length:=by
   have:=(pB.mp e1).1;simp at this;omega
  subst g;rw[xG (zF _)]at e1;rw[c,xG (zF _)]at b;simp at e1 b;subst e1 b;exact⟨f,e⟩
theorem lF.mat{a:Addr}{H:Hp}{zs:List V}{M:List (LI')}(h:H a=some (.lst zs))(r:lF a H zs M):MatL H a M:=by
 obtain⟨ps,rfl,b,c⟩:=r;exact⟨ps,h,b,c⟩
theorem Fz(ns:LI')(a hi:Option Int):cutV (ns.map V.int) a hi=((ns.drop (HT.sIx ns.length 0 a)).take (HT.sIx ns.length ns.length hi-HT.sIx ns.length 0 a)).map V.int:=by
 unfold cutV;rw[yN,List.map_take,List.map_drop]
theorem Op{ns:LI'}{k:Nat}(h:k<=ns.length):cutV (ns.map V.int) none (some (k:Int))=(ns.take k).map V.int:=by
 rw[Fz,HT.sIx_none,HT.sIx_nat,Nat.min_eq_left h];simp
theorem Oo{ns:LI'}{k:Nat}(h:k<=ns.length):cutV (ns.map V.int) (some (k:Int)) none=(ns.drop k).map V.int:=by
 rw[Fz,HT.sIx_none,HT.sIx_nat,Nat.min_eq_left h,wR (by simp)]
section
variable {K:Frag} {H:Hp} {a a1:Addr} {M:List (LI')} {σ:St} {Q:VK} {b1 b2:Bool}
def MatT(H:Hp)(a:Addr)(rows:List (LI')):Prop:=∃ps:LA,H a=some (.lst (ps.map V.ref))/\ps.length=rows.length/\∀(i:Nat)(p:Addr)(r:LI'),ps[i]?=some p->rows[i]?=some r->H p=some (.tup (r.map V.int))
theorem On(G:MatB b1 false K H a M)(hl:M.length<=1000)(C:H a1=none)(L:∀b,Same H b->MatT b a1 M->Q (.ref a1) b):lO (Its K b1 a) (pY 0) (tEl (tCB (jY K) (pZ (tVar 0) tNil))) 1 [] σ a1 H Q:=by
 obtain⟨xs,v,T,J⟩:=G.walk;refine oM (λj y b=>∃p r,y=.ref p/\M[j]?=some r/\p≠a1/\b p=some (.tup (r.map V.int))) C v ⋯ (λi y b S⟨p,r,e1,c,d,g⟩s=>⟨p,r,e1,c,d,s _ _ d g⟩) ?_ ?_
 ·intro i x b zs u f O W F;obtain⟨p,r,rfl,w,P⟩:=J i x u;exact⟨_,rfl,p,_,rfl,.inl ⟨P.up f,λl k=>F _ _ (Same.new k) ⟨l,r,rfl,w,zS (oY O k),pN⟩⟩⟩
 ·intro b ys f e1 o m;have N:∃ps:LA,ys=ps.map V.ref:=by
   clear e1 o;have:∀(zs:List V),(∀(j:Nat) y,zs[j]?=some y->∃p:Addr,y=.ref p)->∃ps:LA,zs=ps.map V.ref:=by
    intro zs
    induction zs with
    |nil=>intro _;exact⟨[],rfl⟩
    |cons z r D =>
     intro n;obtain⟨p,e⟩:=n 0 z rfl;obtain⟨ps,c⟩:=D λj y q=>n (j+1) y (by simpa using q);exact⟨p:: ps,by rw[e,c];rfl⟩
   exact this ys λj y e=>let ⟨p,r,e1,_⟩:=m j y e;⟨p,e1⟩
  obtain⟨ps,rfl⟩:=N;refine L b f ⟨ps,e1,by simp at o;omega,λi p r c d=>?_⟩;obtain⟨R,U,g,t,_,I⟩:=m i (.ref p) (by simp[c]);cases g;rw[d]at t;cases t;exact I
theorem MatT.tuple{l:Addr}(h:MatT H a M)(hl:H l=none):∃zs,H a=some (.lst zs)/\MatB true true K (upd H l (.tup zs)) l M:=by
 obtain⟨ps,c,e,d⟩:=h;exact⟨_,c,ps,SqB.tup pN,e,λi p r e1 b=>SqB.tup (Same.new hl _ _ (d i p r e1 b))⟩
end
theorem Om{X:Cx}{x:Str}{v:V}{a:Pos}(c:Gl X x)(h:∃u,X.mg x=some u/\RelV v u)(b:(x == ("__debug__" :Str))=false:=by decide):PE X (.Name x a) (tC v):=by
 obtain⟨u,e,r⟩:=h;exact mH c e r b
def MkI(te:TE)(n:Int):Prop:=∀σ H Q,Q (.int n) H->te σ H Q
def MkIs(ta:TA)(ns:LI'):Prop:=∀σ H Q,Q (ns.map V.int) H->ta σ H Q
def MkR(te:TE)(ns:LI'):Prop:=∀σ H Q,(∀p H',Same H H'->H p=none->H' p=some (.lst (ns.map V.int))->Q (.ref p) H')->te σ H Q
def MkRs(ta:TA)(M:List (LI')):Prop:=∀σ H Q,(∀ps H',Same H H'->RefRowsN H H' ps M->Q (ps.map V.ref) H')->ta σ H Q
where RefRowsN (H H':Hp) (ps:LA) (M:List (LI')):Prop:=ps.length=M.length/\∀(j:Nat)(p:Addr)(r:LI'),ps[j]?=some p->M[j]?=some r->H' p=some (.lst (r.map V.int))
def MkM(te:TE)(M:List (LI')):Prop:=∀σ H Q,(∀p H',Same H H'->H p=none->MatL H' p M->Q (.ref p) H')->te σ H Q
def Mats(H:Hp)(p:Addr)(Ms:List (List (LI'))):Prop:=∃ps:LA,H p=some (.lst (ps.map V.ref))/\ps.length=Ms.length/\∀(i:Nat)(q:Addr)(M:List (LI')),ps[i]?=some q->Ms[i]?=some M->MatL H q M
def MkMs(ta:TA)(Ms:List (List (LI'))):Prop:=∀σ H Q,(∀(ps:LA) H',Same H H'->ps.length=Ms.length->(∀(i:Nat)(q:Addr)(M:List (LI')),ps[i]?=some q->Ms[i]?=some M->MatL H' q M)->Q (ps.map V.ref) H')->ta σ H Q
def MatD(H0 H:Hp)(a:Addr)(rows:List (LI')):Prop:=∃ps:LA,H a=some (.lst (ps.map V.ref))/\ps.length=rows.length/\ps.Nodup/\∀(i:Nat)(p:Addr)(r:LI'),ps[i]?=some p->rows[i]?=some r->p≠a/\H0 p=none/\H p=some (.lst (r.map V.int))
theorem MatD.l{f H:Hp}{a:Addr}{d:List (LI')}(h:MatD f H a d):MatL H a d:=let ⟨ps,e,g,_,c⟩:=h;⟨ps,e,g,λi p r e1 b=>⟨(c i p r e1 b).1,(c i p r e1 b).2.2⟩⟩
theorem MatD.row{f H:Hp}{a:Addr}{d:List (LI')}{i:Nat}{r:LI'}(h:MatD f H a d)(e:d[i]?=some r):∃zs p,H a=some (.lst zs)/\zs[i]?=some (.ref p)/\zs.length=d.length/\p≠a/\f p=none/\H p=some (.lst (r.map V.int))/\∀k,MatD f (upd H p (.lst (k.map V.int))) a (d.set i k):=by
 obtain⟨ps,l,o,n,m⟩:=h;have hi:i<ps.length:=by have:=(pB.mp e).1;omega
 have b:=m i ps[i] r (by simp[hi]) e;refine⟨_,ps[i],l,by simp[hi],by simp[o],b.1,b.2.1,b.2.2,λk=>⟨ps,by rw[pR (zS b.1)];exact l,by simp[o],n,λj q z e1 c=>?_⟩⟩
 by_cases g:j=i
 ·subst g;have u:q=ps[j]:=by simp[hi]at e1;exact e1.symm
  subst u;rw[xS ⋯]at c;cases c;exact⟨b.1,b.2.1,pN⟩
 ·rw[wH (zS g)]at c;obtain⟨C,y,v⟩:=m j q z e1 c;have:q≠ps[i]:=λw=>by
   have t:=(pB.mp e1);obtain⟨t,x⟩:=t;exact g ((List.getElem_inj n).mp (x.trans w))
  exact⟨C,y,by rw[pR this];exact v⟩
section
variable {K:Frag} {H:Hp} {a a1:Addr} {M:List (LI')} {σ:St} {Q:VK} {b1 b2:Bool}
theorem Ol(U:MatB b1 b2 K H a M)(hl:M.length<=1000)(J:H a1=none)(a2:∀b,Same H b->MatD H b a1 M->Q (.ref a1) b):lO (Its K b1 a) (pY 0) (tEl (tCB (fZ K) (pZ (tVar 0) tNil))) 1 [] σ a1 H Q:=by
 obtain⟨xs,m,a6,W⟩:=U.walk;refine aP xs.length (λT zs b=>∃ps:LA,zs=ps.map V.ref/\ps.length=T/\ps.Nodup/\∀(j:Nat)(p:Addr)(r:LI'),ps[j]?=some p->M[j]?=some r->p≠a1/\H p=none/\b p=some (.lst (r.map V.int))) J ⋯ ⟨[],rfl,rfl,List.nodup_nil,λj p r e=>by simp at e⟩
  (λi zs b⟨ps,e,l,_⟩=>by rw[e,yN,l];exact zF _) (λi zs b a5⟨ps,e,l,n,q⟩s=>⟨ps,e,l,n,λj p r e1 d=>⟨(q j p r e1 d).1,(q j p r e1 d).2.1,s _ _ (q j p r e1 d).1 (q j p r e1 d).2.2⟩⟩)
  (λi b hi s=>Its.go (m.up s) (x:=xs[i]) (by simp[hi])) (λb s=>Its.stop (m.up s) (zF _)) ?_ ?_
 ·rintro i b zs hi g a3 ⟨ps,rfl,t,u,k⟩ ys x a7 a0 R C F _;obtain⟨e1,d⟩:=Its.yld (m.up g) R;subst e1;obtain⟨p,r,rfl,I,a4⟩:=W i x d
  match ys,a0 with
  | [o],_ =>
   refine⟨⟨[some (.ref p)],rfl,rfl⟩,_,rfl,b2,p,_,rfl,a4.up g,λl c=>F _ _ (Same.new c) ⟨ps++[l],by simp,by simp[t],?_,λj G Y f D=>?_⟩⟩
   ·rw[List.nodup_append];refine⟨u,by simp,λz X w P=>?_⟩;rw[qX.mp P];obtain⟨j,v,y⟩:=List.getElem_of_mem X;have O:j<M.length:=⋯
    exact oY (k j z M[j] (by simp[v,y]) (by simp[O])).2.2 c
   ·by_cases v:j<ps.length
    ·rw[yV v]at f;obtain⟨S,L,Z⟩:=k j G Y f D;exact⟨S,L,Same.new c _ _ Z⟩
    ·have y:j=ps.length:=by have:=(pB.mp f).1;simp at this;omega
     subst y;rw[xG (zF _)]at f;simp at f;subst f;rw[t,I]at D;cases D;have N:H l=none:=by cases w:H l with|none=>rfl|some o=>rw[g _ _ w]at c;cases c
     exact⟨zS (oY a3 c),N,pN⟩
 ·rintro b ys g e1 ⟨ps,rfl,t,u,k⟩;exact a2 b g ⟨ps,e1,⋯,u,k⟩
end
def litI:Expr->Option Int
 |.Constant (.int i) _ _=>some i
 |.UnaryOp .USub (.Constant (.int i) _ _) _=>some (-i)
 |_=>none
section
variable {X:Cx}
theorem PE.weak{e:Expr}{b u:TE}(h:PE X e b)(w:∀a H Q,u a H Q->b a H Q):PE X e u:=λc s a H Q I q=>h c s a H Q I (w a H Q q)
theorem PA.weak{es:List Expr}{b u:TA}(h:PA X es b)(w:∀a H Q,u a H Q->b a H Q):PA X es u:=λc d s a H Q I q=>h c d s a H Q I (w a H Q q)
theorem Fy{e:Expr}{n:Int}(h:litI e=some n):PE X e (tC (.int n))/\∀es,starEach (e:: es) X.env=(false,eval e X.env):: starEach es X.env:=by
 unfold litI at h;split at h
 ·cases h;exact⟨pP,λ_=>rfl⟩
 ·cases h;exact⟨(kJ kK pP).weak λa H Q q=>⟨_,rfl,q⟩,λ_=>rfl⟩
 ·cases h
end
theorem Oj{es:List Expr}{b:Pos}{a:Option Expr}{l:Nat}{env:Env}:swapsWith (.List es b) a l env=pure false:=by cases a <;> rfl
theorem Oi{a b:Expr}{op:Operator}{d:Pos}{c:Option Expr}{l:Nat}{env:Env}:swapsWith (.BinOp a op b d) c l env=pure false:=by cases c <;> rfl
def isList:Expr->Bool
 |.List _ _=>true
 |_=>false
section
variable {X:Cx}
theorem dY:∀{bs:List Bool}{its:LW},Vals (bs.map V.bl) its->∀(i:Nat)(v:Value),its[i]?=some v->∃b,bs[i]?=some b/\v=.bool b
 |[],_,.nil,i,v,e=>by simp at e
 |b:: r,_,.cons h q,i,v,e=>by
  cases i with
  |zero=>simp at e;subst e;exact⟨b,rfl,h⟩
  |succ i=>simpa using dY (bs:=r) q i v (by simpa using e)
theorem Fx:∀bs:List Bool,((List.range bs.length).any λi=>(bs[i]?).getD false)=bs.any id
 |[]=>rfl
 |b:: bs=>by
  have a:=Fx bs;rw[zX,List.range_succ_eq_map,uM,uM,List.any_map];show(b || _)=(b || _);congr 1
theorem dZ(d:X.calm=true):mI X (.builtin "any") (λxs H Q=>∃(p:Addr)(bs:List Bool),xs=[.ref p]/\SqL X.K H p (bs.map V.bl)/\Q (.bl (bs.any id)) H):=by
 intro o s t H xs us Q I r h;obtain⟨p,bs,rfl,m,q⟩:=h;obtain⟨u,rfl,k⟩:=kZ r;cases k;obtain⟨its,a,pl,z⟩:=I.list m;have hl:s.heap.IsList p its.toArray:=pl.isList;have g:p<s.heap.objs.size:=by obtain⟨_,e,_⟩:=hl;exact zL e
 have f:its.toArray.size=bs.length:=by
  have:=a.length;simpa using this.symm
 refine call_any_walk (tK hl ?_);refine⟨s.heap.objs.size,[s.heap.objs.size,p],[s.heap.objs.size],its.toArray.size,_,_,λi=>(bs[i]?).getD false,rfl,Walks.list (A:=X.A.in1) (I.ok.hd d) _ p (zU g) its.toArray,
  ⟨⟨_,zN _ rfl,rfl,rfl⟩,hl.push _⟩,λi v s' y w j c=>?_,λh' tk l=>?_⟩
 ·obtain⟨b,e,rfl⟩:=dY a i v (by simpa using j);simp only[e,Option.getD_some]at c;exact tI c
 ·rw[f,Fx bs];refine⟨.bl (bs.any id),H,I.kept (t':=tk) λb x e=>l b x (λn=>by rw[qX.mp n]at e;exact yP _ (zL e)) (zC _ e),rfl,q⟩
end
section
variable {prog:Program} {w:World} {A:Around} {E:VP} {s:Shared}
theorem Oh{env:Env}{a:List Expr}{d}{c:Pos}{b:Addr}{items:Array Value}{Q:Unit->Shared->Prop}(hh:A.handled=none)(e:s.heap.IsList b items)
  (g:(assignEach a env).length=items.size)(f:(assignEach a env).findIdx? (·.1)=none)
  (h:∀h',Heap.ExtBut s.heap.objs.size s.heap h'->wpAny (model prog w) A (assignInOrder ((assignEach a env).map (·.2)) items.toList) Q E {s with heap:=h'}):
  wpAny (model prog w) A (assign (.Tuple a d c) env (.ref b)) Q E s:=by
 rw[assign_Tuple];refine zA (xZ ?_);unfold unpack;rw[g,f];exact zA (yL (PySem.W.kun_itemsOf hh e h))
end
section
variable {X:Cx} {pos:Pos}
def Og(K:Frag)(n:Nat)(t:TGs):TG:=λv σ H Q=>∃b a xs,v=.ref a/\SqB b K H a xs/\xs.length=n/\t xs σ H Q
theorem Fw{es:List Expr}{k:Nat}{m:TGs}{n:Nat}(i:X.calm=true)(h:PGs X es m)
  (l:(assignEach es X.env).length=n:=by rfl)(p:(assignEach es X.env).findIdx? (·.1)=none:=by rfl):PG X (.Tuple es k pos) (Og X.K n m):=by
 intro d s f H v u Q I r c;obtain⟨b,a,xs,e1,j,hl,c⟩:=c;cases b with
 |true=>exact kY i h l p d s f H v u Q I r ⟨a,xs,e1,j,hl,c⟩
 |false =>
  subst e1;cases r;obtain⟨its,g,pl,w⟩:=I.list j;refine Oh (I.ok.hd i) pl.isList (by simp[l,←hl,g.length]) p λh' t=>?_;have q:Inv X d f H {s with heap:=h'}:=I.kept (t':=s.toks) λb o e=>t b o (zU (zL e)) e;exact h d _ f H xs _ Q q (by simpa using g) c
end
section
variable {prog:Program} {w:World} {A:Around} {E:VP} {s:Shared}
set_option maxRecDepth 100000 in
end
open Builtin Builtin.Str
def qVar(i:Nat):TE:=λσ H Q=>match σ[i]? with
 |some (some v)=>Q v H
 |_=>False
theorem Of{i:Nat}{a:St}{H:Hp}{Q:VK}(h:qVar i a H Q):tVar i a H Q:=by
 unfold qVar at h;split at h
 ·next v e=>exact⟨v,e,h⟩
 ·exact h.elim
theorem pq{X:Cx}(i:Nat){x:Str}{a:Pos}(b:X.N[i]?=some x:=by rfl)(f:Vis X.env.scope x:=by first|exact Or.inl rfl|exact Or.inr (Or.inl rfl)|exact Or.inr (Or.inr rfl))(g:(x == ("__debug__" :Str))=false:=by decide)
  (e:(x == ("__classdict__" :Str))=false:=by decide):PE X (.Name x a) (qVar i):=λc s d H Q I q=>pv i b f g e c s d H Q I (Of q)
section
variable {X:Cx} {e:Expr} {ta:TE} {pos p p':Pos} {i:Int} {j:Nat}
theorem pS(a:PE X e ta):PE X (e.Subscript (.Constant (.int i) j p') pos) (tOp (rIxB X.K) ta (tC (.int i))):=nN ix_B a pP (λ_ _=>rfl)
theorem nH(m:X.mg "len"=none)(a:PE X e ta)(g:Gl X "len" := by rfl)(b:starEach [e] X.env=(false,eval e X.env):: starEach [] X.env:=by rfl):PE X (.Call (.Name "len" p) [e] [] pos) (tCB (iW X.K) (pZ ta tNil)):=oP Ox g m (nofun) (pJ a pK b) ∅ ∅ b rfl
end
section
variable {X:Cx} {sc scope:Scope} {fr:List (Str×Nat)} {x:Str} {px:Pos} {iter elt:Expr} {wi:TI} {te:TE} {N:List Str}
theorem oQ{g:Pos}(i:X.env.scope=sc)(l:X.N=N)(o:dO sc N scope fr=true)(j:X.calm=true)(m:dP (kE sc scope) ([x]++fr.map (·.1)) 0 x=true)(hi:PI X (.Name x px) iter wi)
  (n:∀(c:Shared)(f:Hp)(e:LA),(nJ X scope ([x]++fr.map (·.1)) c f e).env.scope=kE sc scope->PE (nJ X scope ([x]++fr.map (·.1)) c f e) elt te)(k:∀x,foldedSetIterable iter X.env x=pure x:=by intro _;rfl):PE X (.ListComp elt [⟨.Name x px,iter,[],0⟩] scope g) (nF wi (pY 0) (tEl te) 1 fr):=
 kN (xs:=[x]) (mQ i l o) j hi (λ_ _ _ h=>mS (i:=0) h rfl m) (λa b d h=>lE (n a b d h)) (yD _) k
theorem iB{c j g:Pos}{y:Str}{i:Nat}(m:X.env.scope=sc)(q:X.N=N)(u:dO sc N scope fr=true)(o:X.calm=true)(n:X.N.Nodup)(l:X.N[i]?=some y)(hl:X.env.scope.names.lookup y=some .local)(r:dP (kE sc scope) ([x]++fr.map (·.1)) 0 x=true)(hi:PI X (.Name x px) iter wi)
  (t:∀(e:Shared)(k:Hp)(f:LA),(nJ X scope ([x]++fr.map (·.1)) e k f).env.scope=kE sc scope->PE (nJ X scope ([x]++fr.map (·.1)) e k f) elt te)
  (v:swapsWith (.ListComp elt [⟨.Name x px,iter,[],0⟩] scope c) (some (.Name y g)) j.line X.env=pure true:=by rfl)(p:∀x,foldedSetIterable iter X.env x=pure x:=by intro _;rfl):PS X (.Assign [.Name y g] (.ListComp elt [⟨.Name x px,iter,[],0⟩] scope c) j) (Ez i (nF wi (pY 0) (tEl te) 1 fr)):=
 fW (xs:=[x]) (mQ m q u) o n l hl hi (λ_ _ _ h=>mS (i:=0) h rfl r) (λa b d h=>lE (t a b d h)) v (yD _) p
end
structure FunT(K:Frag)(mg:MT)(x:Str)(st:Stmt)(f:Addr)(fd:FuncData)(ps:List Str):Prop extends Fun K x x st f fd where
 m:mg x=some (.ref f)
 b:nD K fd ps []
section
variable {X:Cx} {k:Nat} {f:Addr} {fd:FuncData} {ps:List Str} {sp:Sp} {x:Str} {st:Stmt} {p pos:Pos} {e:Expr} {es:List Expr} {t:TA}
theorem pU(F:FnOk X.prog X.w X.K X.mg X.base CX0 k f fd ps sp)(hr:Room k X.A)(c:FunT X.K X.mg x st f fd ps)(a:PA X (e:: es) t)(b:Gl X x:=by rfl)(d:(x == ("__debug__" :Str))=false:=by decide)
  (i:starEach (e:: es) X.env=(false,eval e X.env):: starEach es X.env:=by rfl)(g:(backTo pos (starEach es X.env)).any (·.1)=false:=by rfl):PE X (.Call (.Name x p) (e:: es) [] pos) (oV sp [] E0 t):=mX F hr b c.m c.kp c.b .nil mZ a d i g
end
instance decPD:DecidableEq PyData:=λ_ _=>Classical.propDecidable _
def tT:Nat->PyData->Bool
 |_,.int _=>true
 |n+1,.tuple xs=>xs.all (tT n)
 |_,_=>false
theorem iC:∀(n:Nat)(d:PyData),tT n d=true->iT n d=true:=by
 intro n
 induction n with
 |zero=>intro d h;cases d <;> simp[tT]at h <;> simp[iT]
 |succ n a =>
  intro d h;cases d <;> simp[tT]at h
  ·simp[iT]
  ·simp only[iT,List.all_eq_true];exactλx b=>a x (h x b)
mutual
def jD:PyData->Int
 |.int i=>hashInt i
 |.tuple xs=>reduceHash (Builtin.Tuple.tupleHashOf (eE xs))
 |_=>0
def eE:List PyData->LI'
 |[]=>[]
 |d:: ds=>jD d:: eE ds
end
mutual
def jE:PyData->Nat
 |.tuple xs=>hJ xs+1
 |_=>1
def hJ:List PyData->Nat
 |[]=>0
 |d:: ds=>jE d+hJ ds
end
section
variable {prog:Program} {w:World} {E:VP}
theorem Oe(n:Nat)(g:∀{A:Around}{s:Shared}{v:Value}{d:PyData}{as:LA}{Q:Int->Shared->Prop},tT n d=true->Reads s.heap v d as->A.units+n<cLine->Q (jD d) {s with toks:=s.toks+jE d}->wpAny (model prog w) A (pyHash v) Q E s):
  ∀(xs:List PyData)(vs:LW)(as:LA)(A:Around)(s:Shared)(b:Array Int)(Q:Array Int->Shared->Prop),xs.all (tT n)=true->ReadsAll s.heap vs xs as->A.units+n<cLine ->
  (∀a:Array Int,a.toList=b.toList++eE xs->Q a {s with toks:=s.toks+hJ xs}) ->
  wpAny (model prog w) A (forIn vs b λx r=>do let h ←pyHash x;pure PUnit.unit;pure (ForInStep.yield (r.push h))) Q E s:=by
 intro xs
 induction xs with
 |nil =>
  intro vs as A s b Q _ r _ h;cases r;exact zB (h b (by simp[eE]))
 | cons d ds i =>
  intro vs as A s b Q c r e h;cases r with
  |cons k f =>
   rw[yZ,zO]at c;rw[vP];refine zA (zA (g c.1 k e ?_));refine zA (zB (zB ?_));refine i _ _ A {s with toks:=s.toks+jE d} (b.push (jD d)) Q c.2 f e λa j=>?_;have:=h a (by rw[j];simp[eE]);rw[show s.toks+hJ (d:: ds)=s.toks+jE d+hJ ds by simp[hJ,Nat.add_assoc]]at this;exact this
theorem Od:∀(n:Nat){A:Around}{s:Shared}{v:Value}{d:PyData}{as:LA}{Q:Int->Shared->Prop},tT n d=true->Reads s.heap v d as->A.units+n<cLine->Q (jD d) {s with toks:=s.toks+jE d}->wpAny (model prog w) A (pyHash v) Q E s:=by
 intro n
 induction n with
 |zero =>
  intro A s v d as Q c r i h;cases r <;> simp[tT]at c;exact rP (by simpa [jD,jE]using h)
 | succ n f =>
  intro A s v d as Q c r i h;cases r <;> simp only[tT,Bool.false_eq_true]at c
  case int=>exact rP (by simpa [jD,jE]using h)
  case tuple a o vs m xs hg hc hd hr =>
   unfold pyHash;refine PySem.W.pyHash_slot (T:= "tuple") ⟨_,hg,hc⟩ PySem.F.slot_tuple_hash PySem.F.entry_tuple_hash (PySem.F.args_tuple_hash_1 _) (beq_builtin_none _) (.inr ⋯) ?_;show wpAny _ _ (Builtin.Tuple.tupleItemsOf (.ref a) >>= _) _ _ s;refine zA (rA hg hd ?_);refine zA ?_;rw[←Array.forIn_toList];refine Oe n f xs vs.toList _ A.in1 s #[] _ c hr (by show A.units+1+n<cLine;omega) λb g=>?_;show wpAny _ _ (retInt (Builtin.Tuple.tupleHashOf b.toList)) _ _ _;rw[g];refine zA (wpAny_mkInt (zB ⟨_,_,rfl,?_⟩));have e:s.toks+hJ xs+1=s.toks+jE (.tuple xs):=by simp[jE,Nat.add_assoc]
   simp only[jD]at h;rw[←e]at h;exact h
theorem Oc:∀(n m:Nat),n<m->∀{A:Around}{s:Shared}{v:Value}{d:PyData}{as:LA}{Q:Bool->Shared->Prop},tT n d=true->Reads s.heap v d as->Q true s->wpAny (model prog w) A (eqIsQuiet m v) Q E s:=by
 intro n
 induction n with
 |zero =>
  intro m _ A s v d as Q b r h;cases r <;> simp[tT]at b;rw[eqIsQuiet_byValue _ rfl];exact zB h
 | succ n p =>
  intro m t A s v d as Q b r h;cases r <;> simp only[tT,Bool.false_eq_true]at b
  case int=>rw[eqIsQuiet_byValue _ rfl];exact zB h
  case tuple a o vs k xs hg hc hd hr =>
   obtain⟨m,rfl⟩:∃j,m=j+1:=⟨m-1,⋯⟩;have g:s.TypeIs (.ref a) "tuple" := ⟨o,hg,hc⟩;unfold eqIsQuiet;refine zA (wpAny_specialOf g PySem.F.slot_tuple_eq.lookup ?_);show wpAny _ _ (isInstance (.ref a) (.type "tuple") >>= _) _ _ s;refine zA (vG g isSubtype_tuple_tuple ?_);simp only[Bool.not_true,Bool.false_eq_true,if_false];refine zA (xW hg hd ?_);refine zA ?_;show wpAny _ _ (forIn vs _ _) _ _ s;rw[←Array.forIn_toList];refine wpAny_forIn_list _ (λrest q s'=>q.1=none/\s'=s/\∃ys bs,ys.all (tT n)=true/\ReadsAll s.heap rest ys bs) _ ?_ ?_ _ _ ⟨rfl,rfl,xs,_,b,hr⟩
   ·rintro u rest q s' ⟨e,rfl,ys,bs,c,l⟩;cases l with
    |cons i f =>
     rw[yZ,zO]at c;refine zA (p m ⋯ c.1 i ?_);simp only[Bool.not_true,Bool.false_eq_true,if_false];exact zB ⟨rfl,rfl,_,_,c.2,f⟩
   ·rintro⟨i,f⟩ s' ⟨e,rfl,_⟩;simp only at e;subst e;exact zB h
end
theorem Ob{h h':Heap}{x:Addr}{c:Obj}{es:Array DictEntry}{ep:Nat}(m:h.get? x=some c)(l:c.data=.dict es ep)(i:Heap.SameBut x h h'):∀(n:Nat){v:Value}{d:PyData}{as:LA},tT n d=true->Reads h v d as->Reads h' v d as:=by
 intro n
 induction n with
 |zero =>
  intro v d as b r;cases r <;> simp[tT]at b;exact .int _ _
 | succ n g =>
  have all:∀(xs:List PyData)(vs:LW)(as:LA),xs.all (tT n)=true->ReadsAll h vs xs as->ReadsAll h' vs xs as:=by
   intro xs
   induction xs with
   |nil=>intro vs as _ r;cases r;exact .nil
   | cons d ds j =>
    intro vs as b r;cases r with
    |cons p f =>
     rw[yZ,zO]at b;exact .cons (g b.1 p) (j _ _ b.2 f)
  intro v d as b r;cases r <;> simp only[tT,Bool.false_eq_true]at b
  case int=>exact .int _ _
  case tuple a o vs k xs hg hc hdd hr =>
   have e:a≠x:=by
    rintro rfl;rw[m]at hg;cases hg;rw[l]at hdd;cases hdd
   exact .tuple ((i.2 a e).trans hg) hc hdd (all _ _ _ b hr)
def isT(h:Heap)(d:PyData)(a:Addr):Prop:=tT 4 d=true/\∃as,Reads h (.ref a) d as
def lP(prog:Program)(w:World):HeapKind prog w PyData where
 is:=isT
 hash:=jD
 draws:=jE
 room:=λA=>A.units+8<cLine
 inj:=λ{h a x y}hx hy=>by
  obtain⟨t1,as,r1⟩:=hx;obtain⟨t2,bs,r2⟩:=hy;exact uY _ _ _ _ _ (jB 4 _ (iC 4 _ t1)).1 r1 r2
 keeps:=λ{h h' k a x o es ep}hk hx hd hs=>⟨hk.1,let ⟨as,r⟩:=hk.2;⟨as,Ob hx hd hs 4 hk.1 r⟩⟩
 pyHash:=λ{A E s k a Q}hu hk h=>let ⟨as,r⟩:=hk.2;Od 4 hk.1 r ⋯ h
 eqBool:=λ{A E s x y a b Q}hu hx hy h=>by
  obtain⟨t1,as,r1⟩:=hx;obtain⟨t2,bs,r2⟩:=hy;have i1:=iC 4 _ t1;have i2:=iC 4 _ t2;have l1:=jB 4 _ i1;have l2:=jB 4 _ i2;refine PySem.SeqAt.eqBoolOverData _ _ _ _ _ _ _ _ _ _ _ _ r1 r2 l1.1 l2.1 ⋯ ?_;rw[←SeqAt.same_eq_eqv _ _ (aQ 4 _ _ i1 i2)];have e:=aR 4 _ _ i1 i2
  by_cases z:x=y
  ·rw[zJ z]at h;rw[e.mpr z];exact h
  ·rw[zK z]at h;have:same x y=false:=by
    cases q:same x y with
    |false=>rfl
    |true=>exact absurd (e.mp q) z
   rw[this];exact h
 quiet:=λ{A E s k a Q}hk h=>let ⟨as,r⟩:=hk.2;Oc 4 8 ∅ hk.1 r h
def mM(a:Addr)(xs:List (PyData×Addr×Value)):HO:=.ext λh=>∃o es ep,h.get? a=some o/\o.ExactDict/\o.data=.dict es ep/\es.toList=xs.map λx=>⟨jD x.1,.ref x.2.1,x.2.2⟩
theorem Fv{o:Option V}{u:Option Value}(h:RelO o u):o.isSome=u.isSome:=by
 cases o <;> cases u <;> first|rfl|exact h.elim
def vT(kvs:List (PyData×V))(k:PyData):Option V:=(kvs.find? λkv=>decide (kv.1=k)).map (·.2)
def pT(kvs:List (PyData×V))(k:PyData)(v:V):List (PyData×V):=if(vT kvs k).isSome=true then kvs.map (λkv=>if kv.1=k then(kv.1,v) else kv) else kvs++[(k,v)]
theorem eF{p:PyData×V}{r:List (PyData×V)}{k:PyData}(e:p.1=k):vT (p:: r) k=some p.2:=by simp[vT,List.find?_cons,e]
theorem gQ{p:PyData×V}{r:List (PyData×V)}{k:PyData}(e:¬ p.1=k):vT (p:: r) k=vT r k:=by simp[vT,List.find?_cons,e]
abbrev KP(K:Frag)(H:Hp):List (PyData×V)->List (PyData×Addr×Value)->Prop:=Paired λp q=>p.1=q.1/\(tT 4 p.1=true/\Dt K H (.ref q.2.1) p.1)/\RelV p.2 q.2.2
structure DTr(K:Frag)(H:Hp)(a:Addr)(kvs:List (PyData×V)):Prop where
 len:kvs.length<=sizeLine
 sys:(a == sysModules)=false
 ex:∃xs,H a=some (mM a xs)/\(xs.map (·.1)).Nodup/\KP K H kvs xs
theorem KP.val{K:Frag}{H:Hp}{kvs:List (PyData×V)}{xs:List (PyData×Addr×Value)}(r:KP K H kvs xs)(k:PyData):RelO (vT kvs k) ((atKey xs k).map (·.2)):=by
 induction r with
 |nil=>exact True.intro
 | @cons p q ps a h i d =>
  obtain⟨c,_,f⟩:=h
  by_cases e:p.1=k
  ·have b:atKey (q:: a) k=some q.2:=by simp[atKey,List.find?_cons,c.symm.trans e]
   rw[eF e,b];exact f
  ·have g:¬ q.1=k:=λz=>e (c.trans z);have b:atKey (q:: a) k=atKey a k:=by simp[atKey,List.find?_cons,g]
   rw[gQ e,b];exact d
theorem KP.put{K:Frag}{H:Hp}{kvs:List (PyData×V)}{xs:List (PyData×Addr×Value)}(r:KP K H kvs xs)(k:PyData){b:Addr}{y:V}{u:Value}(tk:tT 4 k=true)(i:Dt K H (.ref b) k)(d:RelV y u):KP K H (pT kvs k y) (storedH xs k b u):=by
 have e:(vT kvs k).isSome=(atKey xs k).isSome:=by rw[Fv (r.val k),Option.isSome_map]
 unfold pT storedH;rw[e]
 by_cases q:(atKey xs k).isSome=true
 ·rw[zG q,zG q];clear e q
  induction r with
  |nil=>exact .nil
  |@cons p q ps j h l g =>
   rw[zH,zH];refine .cons ?_ g;obtain⟨a,c,f⟩:=h;unfold putAt
   by_cases e:p.1=k
   ·rw[zG e,zG (a.symm.trans e)];exact⟨a,c,d⟩
   ·rw[zE e,zE (λz=>e (a.trans z))];exact⟨a,c,f⟩
 ·rw[zE q,zE q];exact qF r ⟨rfl,⟨tk,i⟩,d⟩
theorem lZ{K:Frag}{H H':Hp}(e:∀b xs,SqT K H b xs->SqT K H' b xs):∀(n:Nat){x:V}{d:PyData},tT n d=true->Dt K H x d->Dt K H' x d:=by
 intro n
 induction n with
 |zero =>
  intro x d h r;cases r <;> simp[tT]at h;exact .int _
 | succ n f =>
  have all:∀(ds:List PyData)(xs:List V),ds.all (tT n)=true->Dts K H xs ds->Dts K H' xs ds:=by
   intro ds
   induction ds with
   |nil=>intro xs _ r;cases r;exact .nil
   | cons d ds g =>
    intro xs h r;cases r with
    |cons i c =>
     rw[yZ,zO]at h;exact .cons (f h.1 i) (g _ h.2 c)
  intro x d h r;cases r <;> simp only[tT,Bool.false_eq_true]at h
  case int=>exact .int _
  case tup a xs ds hq hr=>exact .tup (e _ _ hq) (all _ _ h hr)
theorem Fu{K:Frag}{H:Hp}{a:Addr}{o:HO}(f:∀xs,¬ Rd H a (.tup xs)):∀b xs,SqT K H b xs->SqT K (upd H a o) b xs:=λb xs h=>by
 rcases h with h|h
 ·have c:b≠a:=λe=>f xs (e ▸ h);rcases h with h|⟨d,h⟩
  ·exact .inl (.inl (by rw[pR c];exact h))
  ·exact .inl (.inr ⟨d,by rw[pR c];exact h⟩)
 ·exact .inr h
theorem KP.keeps{K:Frag}{H H':Hp}{kvs:List (PyData×V)}{xs:List (PyData×Addr×Value)}(r:KP K H kvs xs)(a:∀b ys,SqT K H b ys->SqT K H' b ys):KP K H' kvs xs:=
 Paired.mapP r λ_ _ z=>⟨z.1,⟨z.2.1.1,lZ a 4 z.2.1.1 z.2.1.2⟩,z.2.2⟩
theorem nX{K:Frag}{H H':Hp}(s:Same H H'):∀b xs,SqT K H b xs->SqT K H' b xs:=λb xs h=>by
 rcases h with(h|⟨o,h⟩)|h
 ·exact .inl (.inl (s _ _ h))
 ·exact .inl (.inr ⟨o,s _ _ h⟩)
 ·exact .inr h
theorem DTr.up{K:Frag}{H H':Hp}{a:Addr}{kvs:List (PyData×V)}(h:DTr K H a kvs)(s:Same H H'):DTr K H' a kvs:=by
 obtain⟨l,y,xs,e,n,r⟩:=h;exact⟨l,y,xs,s _ _ e,n,r.keeps (nX s)⟩
section
variable {X:Cx} {pins:PN} {σ:St} {H:Hp} {s:Shared} {a:Addr}
theorem hZ{k:PyData}{b:Addr}(I:Inv X pins σ H s)(tk:tT 4 k=true)(c:Dt X.K H (.ref b) k):(lP X.prog X.w).is s.heap k b:=⟨tk,c.reads I rfl⟩
theorem gA{kvs:List (PyData×V)}(I:Inv X pins σ H s)(g:DTr X.K H a kvs):∃xs,H a=some (mM a xs)/\KP X.K H kvs xs/\s.heap.DictOfH (lP X.prog X.w) a xs:=by
 obtain⟨_,_,xs,e,n,r⟩:=g;obtain⟨⟨o,es,ep,d,k,i,f⟩,_⟩:=(show oK X.prog X.w H s.heap a (mM a xs) from I.hok a _ e);refine⟨xs,e,r,o,es,ep,d,k,i,f,λx b=>?_,n⟩;have all:∀{l:List (PyData×V)}{m:List (PyData×Addr×Value)},KP X.K H l m->∀x∈m,(lP X.prog X.w).is s.heap x.1 x.2.1:=by
  intro l m q
  induction q with
  |nil=>intro x b;exact nomatch b
  |@cons p q ps t c u j =>
   intro x b;rcases yQ.mp b with e|b
   ·subst e;rw[←c.1];exact hZ I c.2.1.1 c.2.1.2
   ·exact j x b
 exact all r x b
end
def aU(K:Frag):R2:=λx y H Q=>∃a kvs b k v,x=.ref a/\y=.ref b/\DTr K H a kvs/\tT 4 k=true/\Dt K H (.ref b) k/\vT kvs k=some v/\Q v H
def rInT(K:Frag)(neg:Bool):R2:=λy x H Q=>∃a kvs b k,x=.ref a/\y=.ref b/\DTr K H a kvs/\tT 4 k=true/\Dt K H (.ref b) k/\Q (.bl (if neg=true then !(vT kvs k).isSome else(vT kvs k).isSome)) H
def Oa(K:Frag):TSet:=λx y v H Q=>∃a kvs b k,x=.ref a/\y=.ref b/\DTr K H a kvs/\tT 4 k=true/\Dt K H (.ref b) k/\kvs.length<sizeLine/\∀H',(∀c o,c≠a->H c=some o->H' c=some o)->(∀c,c≠a->H' c=H c)->DTr K H' a (pT kvs k v)->Q H'
section
variable {X:Cx}
theorem ix_T(G:X.A.units+64<cLine):IxR X (aU X.K):=by
 intro D F w s C H x y v u Q I d m h j;obtain⟨a,kvs,b,k,z,rfl,rfl,g,tk,n,l,q⟩:=h;cases d;cases m;obtain⟨xs,e,r,dd⟩:=gA I g;obtain⟨f,t,i⟩:=RelO.some_of (v:=z) (o:=(atKey xs k).map (·.2)) (by rw[←l];exact r.val k);obtain⟨p,o,c⟩:=Option.map_eq_some_iff.mp t;refine tO (x:=f) dd.typeIs PySem.F.slot_dict_getitem.lookup ?_ j;refine wpAny_getItem_heap (knd:=lP X.prog X.w) (show X.A.units+1+8<cLine by omega) (hZ I tk n) dd o ⟨c,z,H,I.tok _,?_,q⟩;rw[c];exact i
theorem Pz(l:X.A.units+64<cLine):OpR X (compareOp .NotIn) (rInT X.K true):=by
 intro i s j H x y v u Q I c f h;obtain⟨a,kvs,b,k,rfl,rfl,g,tk,d,q⟩:=h;cases c;cases f;obtain⟨xs,e,r,dd⟩:=gA I g;refine wpAny_notIn_heap (knd:=lP X.prog X.w) (show X.A.units+1+8<cLine by omega) (hZ I tk d) g.sys dd ?_;have e:=Fv (r.val k);rw[Option.isSome_map]at e;rw[←e];exact⟨.bl _,H,I.tok _,rfl,q⟩
theorem Py(kvs:List (PyData×V))(k:PyData)(v:V):(pT kvs k v).length<=kvs.length+1:=by
 unfold pT;split
 ·rw[yN];omega
 ·rw[yI];exact zF _
theorem cA{P:Program}{w:World}{H:Hp}{h:Heap}{a:Addr}{xs:List (PyData×Addr×Value)}{o:Obj}{es:Array DictEntry}{ep:Nat}(b:h.get? a=some o)(i:o.ExactDict)(g:o.data=.dict es ep)(f:es.toList=xs.map λx=>⟨jD x.1,.ref x.2.1,x.2.2⟩):oK P w H h a (mM a xs):=
 ⟨⟨o,es,ep,b,i,g,f⟩,⟨o,b⟩,λm n⟨c,l,d,e,j⟩k=>⟨c,l,d,k c e,j⟩⟩
theorem Px(L:X.A.units+64<cLine):PSet X (Oa X.K):=by
 intro J s K H o i v ov M u Q I w F p h;obtain⟨a,kvs,b,k,rfl,rfl,g,tk,f,hl,q⟩:=h;cases w;cases F;obtain⟨xs,e,r,dd⟩:=gA I g;have D:xs.length<=sizeLine:=by rw[←Paired.length r];exact g.len
 have m:∀ys,¬ Rd H a (.tup ys):=λys z=>by
  rcases z with z|⟨j,z⟩
  ·rw[e]at z;cases z
  ·rw[e]at z;cases z
 refine wpAny_setItem_heap (knd:=lP X.prog X.w) (hsz:=D) (show X.A.units+1+8<cLine by omega) (hZ I tk f) dd λh' y G=>?_;obtain⟨j,es,ep,l,x,t,n,_,C⟩:=y;refine⟨upd H a (mM a (storedH xs k b u)),I.write (x:=a) (e:=a) (by rw[e];exact True.intro) (.inl rfl) (λc o d z=>(G.2 c d).trans z) ⟨j,l⟩ (cA l x t n),?_⟩;refine q _ (λc o d z=>by rw[pR d];exact z) (λc d=>pR d) ⟨by have:=Py kvs k v;omega,g.sys,_,pN,C,(r.put k tk f p).keeps (Fu m)⟩
end
section
variable {X:Cx} {pos:Pos}
theorem Ft{b:PN}{a:St}{H:Hp}{s:Shared}(I:Inv X b a H s):sysModules<s.heap.objs.size:=
 Nat.lt_trans ∅ (show mainGlobals<s.heap.objs.size from(I.mod.glob.keeps I.bk).lt)
theorem Pw{P:Program}{w:World}{H:Hp}(h:Heap):oK P w H (h.push {cls:=.type "dict",data:=.dict #[]}) h.objs.size (mM h.objs.size []):=
 cA (es:=#[]) (ep:=0) (zN _ rfl) ⟨rfl,rfl,rfl⟩ rfl rfl
theorem Pu{K:Frag}{H:Hp}{p:Addr}(a:(p == sysModules)=false)(e:H p=some (mM p [])):DTr K H p []:=⟨yD _,a,[],e,List.nodup_nil,.nil⟩
def Fs(K:Frag)(tk tv:TE):TE:=λσ H Q=>∀p,H p=none->tk σ (upd H p (mM p [])) λx H1=>tv σ H1 λy H2=>∃b d,x=.ref b/\tT 4 d=true/\Dt K H2 (.ref b) d/\H2 p=some (mM p [])/\∀H3,(∀c,c≠p->H3 c=H2 c)->DTr K H3 p [(d,y)]->Q (.ref p) H3
theorem Pt{k v:Expr}{tk t:TE}(a1:X.A.units+64<cLine)(T:PE X k tk)(Z:PE X v t):PE X (.Dict [some k] [v] pos) (Fs X.K tk t):=by
 intro i s j H Q I q;have J:=I.hok.fresh (zF s.heap.objs.size);have w:(s.heap.objs.size == sysModules)=false:=qW.mpr (zS (zU (Ft I)));have L:=I.laid (a:=s.heap.objs.size) (o:=mM s.heap.objs.size []) (h':=s.heap.push {cls:=.type "dict",data:=.dict #[]}) (t':=s.toks) (λ_ _ q=>zC _ q) (zF _) (Pw s.heap);rw[arm_eval_Dict,zip_pairTrees [some k] [v] X.env pos rfl rfl,dictDisplay_pairs (pairTrees [some k] [v] X.env pos) (by intro e;cases e) (show 1<17 by decide)];refine zA (xZ (zA ?_));unfold subDict;refine zA (wpAny_alloc ?_);refine zA (yL ?_);rw[zG (show(pairTrees [some k] [v] X.env pos).length<=15 from(show 1<=15 by decide))];refine zA (pairTrees_cons_walk (thn (T i _ j _ _ L (q _ J)) λu W⟨x,S,K,P,M⟩=>thn (Z i W j S _ K M) λR a2⟨y,l,a,a0,b,d,C,g,m,e,O⟩=>pairTrees_nil_walk ?_));subst C;cases P;refine yL ?_;obtain⟨xs,a3,r,dd⟩:=gA a (Pu w e);cases r;refine zA ?_;rw[vP];refine zA (zA (wpAny_dictSet_heap (knd:=lP X.prog X.w) (hsz:=yD _) (show X.A.units+8<cLine by omega) (hZ a g m) dd λh' U Y=>zB ?_));refine zB (zB (zB (zB ?_)));obtain⟨n,es,ep,p,N,G,F,_,V⟩:=U;have D:∀ys,¬ Rd l s.heap.objs.size (.tup ys):=λys z=>by
  rcases z with z|⟨n,z⟩
  ·rw[e]at z;cases z
  ·rw[e]at z;cases z
 refine⟨.ref s.heap.objs.size,upd l s.heap.objs.size (mM s.heap.objs.size (storedH [] d b R)),a.write (x:=s.heap.objs.size) (e:=s.heap.objs.size) (by rw[e];exact True.intro) (.inl rfl) (λc o f z=>(Y.2 c f).trans z) ⟨n,p⟩ (cA p N G F),rfl,?_⟩;exact O _ (λc f=>pR f) ⟨by show 1<=sizeLine;decide,w,_,pN,V,.cons ⟨rfl,⟨g,lZ (Fu D) 4 g m⟩,a0⟩ .nil⟩
def Ps(K:Frag):V->List V->Hp->VK->Prop:=λx vs H Q=>∃a kvs b k,x=.ref a/\vs=[.ref b]/\DTr K H a kvs/\tT 4 k=true/\Dt K H (.ref b) k/\Q ((vT kvs k).getD .non) H
def tBMR(K:Frag)(r:V->List V->Hp->VK->Prop)(to:TE)(ta:TA):TE:=λσ H Q=>to σ H λx H1=>(∃a kvs,x=.ref a/\DTr K H1 a kvs)/\ta σ H1 λvs H2=>r x vs H2 Q
theorem Pr{T:String}{o e:Expr}{es:List Expr}{name:Str}{id:String}{l b:Pos}{i:TE}{k:TA}{r:V->List V->Hp->VK->Prop}(m:PlainAttrs "dict")(z:Slot "dict" name id)(p:typeOf (.builtin id)=pure (.type "method_descriptor"))(D:MtM X id r)(G:PE X o i)(w:PA X (e:: es) k)
  (F:attributeBase o name X.env (eval o X.env)=eval o X.env:=by rfl)
  (P:((backTo b (starEach (e:: es) X.env)).all (λx=>!x.1) && (backToKw b (keywordEach [] X.env)).all (λx=>x.1.isSome)
   && decide ((e:: es).length+([]:List Keyword).length+(if([]:List Keyword).isEmpty then 0 else 1)<30))=true:=by rfl)
  (L:(l.endLine == b.line)=true:=by rfl)(M:starEach (e:: es) X.env=(false,eval e X.env):: starEach es X.env:=by rfl)(t:(backTo b (starEach es X.env)).any (·.1)=false:=by rfl):
  PE X (.Call (.Attribute o name l) (e:: es) [] b) (tBMR X.K r i k):=by
 intro c s d H Q I h;refine wpAny_Call_method_late F P L rfl (thn (G c s d H _ I h) ?_);rintro v J ⟨x,C,j,O,ty,u⟩;obtain⟨a,kvs,rfl,g⟩:=ty;cases O;obtain⟨xs,R,r,dd⟩:=gA j g;refine⟨"dict",id,m,z,p,dd.typeIs,dictOfH_noDict dd,?_⟩;have f:=w b c J d C _ j u;rw[M]at f ⊢;refine tN (by show(false || (backTo b (starEach es X.env)).any (·.1))=false;rw[t] <;> rfl) (wZ ?_);exact thn f λus N⟨vs,n,q,K,y⟩=>D c N d n (.ref a) vs _ us Q q rfl K y
theorem Pq{o:Option V}{u:Option Value}{d:V}{r:Value}(h:RelO o u)(a:RelV d r):RelV (o.getD d) (u.getD r):=by
 cases o <;> cases u <;> first|exact a|exact h.elim|exact h
theorem Pp(m:X.A.units+64<cLine):MtM X "dict.get" (Ps X.K):=by
 intro j s l H x vs v us Q I f c h;obtain⟨a,kvs,b,k,rfl,rfl,g,tk,i,q⟩:=h;cases f;obtain⟨u,rfl,d⟩:=c.one;cases d;obtain⟨xs,e,r,dd⟩:=gA I g;refine call_meetsIn PySem.F.slot_dict_get dd.typeIs PySem.F.entry_dict_get (PySem.F.args_dict_get_2 _ _) (meetsH_dict_get (lP X.prog X.w) a b g.sys) ⟨show X.A.units+1+8<cLine by omega,k,xs,hZ I tk i,dd,⟨_,H,I.tok _,?_,q⟩⟩;exact Pq (r.val k) rfl
end
section
variable {prog:Program} {w:World} {A:Around} {E:VP} {s:Shared} {κ:PyProof.Rows.KeyKind} {kd:SortKind}
def Cmp(prog:Program)(w:World)(A:Around)(s:Shared)(κ:PyProof.Rows.KeyKind)(kd:SortKind):Prop:=
 ∀(E:VP)(x y:Value)(a b:κ.α)(Q:Bool->Shared->Prop),κ.keyOf x=some a->κ.keyOf y=some b->Q (κ.blt a b) s->wpAny (model prog w) A (keyLt' kd x y) Q E s
def ky(κ:PyProof.Rows.KeyKind)(p:Keyed):κ.α:=(κ.keyOf p.1).getD κ.dflt
def Gd(κ:PyProof.Rows.KeyKind)(p:Keyed):Prop:=∃a,κ.keyOf p.1=some a
def lq(κ:PyProof.Rows.KeyKind)(p q:Keyed):Bool:=κ.blt (ky κ p) (ky κ q)
theorem Fr{p:Keyed}(h:Gd κ p):κ.keyOf p.1=some (ky κ p):=by
 obtain⟨a,e⟩:=h;unfold ky;rw[e];rfl
theorem Po(c:Cmp prog w A s κ kd){st:SortSt}{x y:Keyed}{Q:Option Bool->SortSt->Prop}(b:kindOf st=kd)(d:Gd κ x)(a:Gd κ y)(h:Q (some (lq κ x y)) st):wpS (model prog w) A E s (lt' x y) Q st:=by
 rw[lt'_eq];refine yM (wpS_get ?_);rw[b];refine yM (wpS_lift (wJ (c _ x.1 y.1 _ _ _ (Fr d) (Fr a) ⟨rfl,?_⟩)));exact xM h
theorem Pn{st:SortSt}{a:Array Keyed}{i:Nat}{p:Keyed}{Q:Keyed->SortSt->Prop}(hi:a[i]?=some p)(h:Q p st):wpS (model prog w) A E s (elem' a i) Q st:=by
 rw[elem'_eq,hi];exact xM h
end
section
variable {κ:PyProof.Rows.KeyKind}
def le'(κ:PyProof.Rows.KeyKind)(x y:Keyed):Prop:=lq κ y x=false
theorem eG{x y z:Keyed}(a:le' κ x y)(b:le' κ y z):le' κ x z:=KeyOrd.kle_trans (O:=κ.toKeyOrd) a b
theorem eI{x y:Keyed}(h:lq κ x y=true):le' κ x y:=KeyOrd.klt_asymm (O:=κ.toKeyOrd) h
theorem eJ(x:Keyed):le' κ x x:=κ.irrefl _
abbrev Srt(κ:PyProof.Rows.KeyKind)(l:List Keyed):Prop:=l.Pairwise (le' κ)
structure MI(κ:PyProof.Rows.KeyKind)(A B out:List Keyed)(ia ib:Nat):Prop where
 pm:out.Perm (A.take ia++B.take ib)
 so:Srt κ out
 oa:∀x∈out,∀y∈A.drop ia,le' κ x y
 ob:∀x∈out,∀y∈B.drop ib,le' κ x y
def Res(κ:PyProof.Rows.KeyKind)(A B r:List Keyed):Prop:=r.Perm (A++B)/\Srt κ r
end
section
variable {prog:Program} {w:World} {A:Around} {E:VP} {s:Shared} {κ:PyProof.Rows.KeyKind} {kd:SortKind}
structure MG(κ:PyProof.Rows.KeyKind)(a b:Array Keyed):Prop where
 sa:Srt κ a.toList
 sb:Srt κ b.toList
 ga:∀p∈a.toList,Gd κ p
 gb:∀p∈b.toList,Gd κ p
 na:1<=a.size
 nb:1<=b.size
 top:∀p,a[a.size-1]?=some p->∀y∈b.toList,le' κ y p
 fst:∀p q,b[0]?=some p->a[0]?=some q->le' κ p q
structure Sm(st st':SortSt):Prop where
 k:kindOf st'=kindOf st
 a:arrOf st'=arrOf st
 p:pendingOf st'=pendingOf st
 f:failedOf st'=failedOf st
theorem cB{a:Array Keyed}{i:Nat}{p:Keyed}:a[i]?=some p↔a.toList[i]?=some p:=by rw[uE]
theorem cC{a:Array Keyed}{i:Nat}(h:i<a.size):∃p,a[i]?=some p:=⟨a[i],Array.getElem?_eq_getElem h⟩
theorem Fq{st:SortSt}{a:Array Keyed}{i:Nat}{Q:Keyed->SortSt->Prop}(hi:i<a.size)(h:∀p,a[i]?=some p->Q p st):wpS (model prog w) A E s (elem' a i) Q st:=by
 obtain⟨p,e⟩:=cC hi;exact Pn e (h p e)
theorem iD{b:Type}{c:Prop}[Decidable c]{a e:StateT SortSt Sem b}{Q:b->SortSt->Prop}{st:SortSt}(d:c->wpS (model prog w) A E s a Q st)(f:¬ c->wpS (model prog w) A E s e Q st):wpS (model prog w) A E s (if c then a else e) Q st:=by
 by_cases h:c
 ·rw[zG h];exact d h
 ·rw[zE h];exact f h
def seg(l:List Keyed)(i j:Nat):List Keyed:=(l.drop i).take (j-i)
theorem Pm{l:List Keyed}{i j t:Nat}:(seg l i j)[t]?=if t<j-i then l[i+t]? else none:=by
 unfold seg;rw[List.getElem?_take];split
 ·rw[List.getElem?_drop]
 ·rfl
theorem eK(d:Cmp prog w A s κ kd){st:SortSt}{i j:Nat}{Q:Option Bool->SortSt->Prop}(f:kindOf st=kd)(b:∀x∈(arrOf st).toList,Gd κ x)(hi:i<(arrOf st).size)(e:j<(arrOf st).size)
  (h:∀x y,(arrOf st)[i]?=some x->(arrOf st)[j]?=some y->Q (some (lq κ x y)) st):wpS (model prog w) A E s (ltAt' i j) Q st:=by
 rw[ltAt'_eq];refine yM (wpS_get ?_);refine yM (Fq hi λx a=>?_);refine yM (Fq e λy c=>?_);exact Po d f (b x (vB (cB.mp a))) (b y (vB (cB.mp c))) (h x y a c)
structure Ch(lo hi:Nat)(st st':SortSt):Prop where
 k:kindOf st'=kindOf st
 p:pendingOf st'=pendingOf st
 f:failedOf st'=failedOf st
 z:(arrOf st').size=(arrOf st).size
 m:(arrOf st').Perm (arrOf st)
 o:∀i,i<lo\/hi<=i->(arrOf st')[i]?=(arrOf st)[i]?
theorem Ch.refl(a hi:Nat)(st:SortSt):Ch a hi st st:=⟨rfl,rfl,rfl,rfl,Array.Perm.refl _,λ_ _=>rfl⟩
theorem Ch.trans{f hi:Nat}{a b c:SortSt}(d:Ch f hi a b)(e:Ch f hi b c):Ch f hi a c:=⟨e.k.trans d.k,e.p.trans d.p,e.f.trans d.f,e.z.trans d.z,e.m.trans d.m,λi hi=>(e.o i hi).trans (d.o i hi)⟩
theorem Ch.wide{c hi hi':Nat}{a b:SortSt}(h:Ch c hi a b)(hh:hi<=hi'):Ch c hi' a b:=⟨h.k,h.p,h.f,h.z,h.m,λi hi=>h.o i ⋯⟩
theorem Ch.good{e hi:Nat}{a b:SortSt}(h:Ch e hi a b)(c:∀x∈(arrOf a).toList,Gd κ x):∀x∈(arrOf b).toList,Gd κ x:=λx d=>c x ((h.m.toList.mem_iff).mp d)
def Up(κ:PyProof.Rows.KeyKind)(a:Array Keyed)(lo hi:Nat):Prop:=∀i j x y,lo<=i->i<=j->j<hi->a[i]?=some x->a[j]?=some y->le' κ x y
def Dn(κ:PyProof.Rows.KeyKind)(a:Array Keyed)(lo hi:Nat):Prop:=∀i j x y,lo<=i->i<=j->j<hi->a[i]?=some x->a[j]?=some y->le' κ y x
theorem Up.one{a:Array Keyed}{c:Nat}:Up κ a c (c+1):=λi j x y e g f d b=>by
 have:i=j:=⋯
 subst this;rw[d]at b;cases b;exact eJ _
theorem Up.more{a:Array Keyed}{d hi hi':Nat}(h:Up κ a d hi)(hl:d<hi)(p:hi<a.size)(k:∀x y,a[hi-1]?=some x->a[hi]?=some y->le' κ x y)(n:hi'=hi+1:=by omega):Up κ a d hi':=λi j x y e l o c b=>by
 subst n;rcases sH j hi with q|q
 ·exact h i j x y e l q c b
 ·have g:j=hi:=⋯
  subst g;rcases sH i j with m|m
  ·obtain⟨u,f⟩:=cC (a:=a) (i:=j-1) ⋯;exact eG (h i (j-1) x u e ⋯ ⋯ c f) (k u y f b)
  ·have:i=j:=⋯
   subst this;rw[c]at b;cases b;exact eJ _
theorem Dn.more{a:Array Keyed}{d hi hi':Nat}(h:Dn κ a d hi)(hl:d<hi)(p:hi<a.size)(k:∀x y,a[hi-1]?=some x->a[hi]?=some y->le' κ y x)(n:hi'=hi+1:=by omega):Dn κ a d hi':=λi j x y e l o c b=>by
 subst n;rcases sH j hi with q|q
 ·exact h i j x y e l q c b
 ·have g:j=hi:=⋯
  subst g;rcases sH i j with m|m
  ·obtain⟨u,f⟩:=cC (a:=a) (i:=j-1) ⋯;exact eG (k u y f b) (h i (j-1) x u e ⋯ ⋯ c f)
  ·have:i=j:=⋯
   subst this;rw[c]at b;cases b;exact eJ _
abbrev mir(a:Array Keyed)(i j:Nat):Array Keyed:=mirror a i j ((j-i)/2)
theorem iE{a:Array Keyed}{i j k:Nat}(b:j<=a.size):(mir a i j)[k]?=if i<=k/\k<j then a[i+j-1-k]? else a[k]?:=getElem?_mirror_all b k
theorem Dn.turned{a:Array Keyed}{g hi c b:Nat}(h:Dn κ a g hi)(u:Up κ a c b)(hl:g<=c)(o:b<=hi)(p:hi<=a.size):Dn κ (mir a c b) g hi:=λi j x y k n l e d=>by
 rw[iE ⋯]at e d
 by_cases m:c<=i/\i<b
 ·rw[zG m]at e
  by_cases f:c<=j/\j<b
  ·rw[zG f]at d;exact u _ _ y x ⋯ (show c+b-1-j<=c+b-1-i by omega) ⋯ d e
  ·rw[zE f]at d;exact h _ _ x y ⋯ (show c+b-1-i<=j by omega) l e d
 ·rw[zE m]at e
  by_cases f:c<=j/\j<b
  ·rw[zG f]at d;exact h _ _ x y k (show i<=c+b-1-j by omega) ⋯ e d
  ·rw[zE f]at d;exact h _ _ x y k n l e d
theorem Dn.up{a:Array Keyed}{b hi:Nat}(h:Dn κ a b hi)(e:hi<=a.size):Up κ (mir a b hi) b hi:=λi j x y f k g c d=>by
 rw[iE e,zG ⟨f,⋯⟩]at c;rw[iE e,zG ⟨⋯,g⟩]at d;exact h _ _ y x ⋯ (show b+hi-1-j<=b+hi-1-i by omega) ⋯ d c
theorem cD{st:SortSt}{i j:Nat}{Q:Unit->SortSt->Prop}(b:j<=(arrOf st).size)(h:∀a,Ch i j st a->arrOf a=mir (arrOf st) i j->Q () a):wpS (model prog w) A E s (reverseSlice' i j) Q st:=by
 rw[reverseSlice'_eq];refine wpS_modify (h _ ⟨rfl,rfl,rfl,mirror_size _ _ _ _,mirror_perm _ _ _ _,λk c=>?_⟩ rfl);exact(iE b).trans (zE ⋯)
theorem Fp(o:Cmp prog w A s κ kd){st:SortSt}{a b d:Nat}{f:Nat->Option (Option Nat)×Nat->StateT SortSt Sem (ForInStep (Option (Option Nat)×Nat))}{Q:Option (Option Nat)×Nat->SortSt->Prop}(D:kindOf st=kd)(F:∀x∈(arrOf st).toList,Gd κ x)(M:a+d<=(arrOf st).size)(J:1<=b)(t:b<=d)(I:Up κ (arrOf st) a (a+b))
  (C:∀x c,f x c=(do
   let z ←ltAt' (a+c.2) (a+c.2-1)
   match z with
    |some r=>if r=true then pure (ForInStep.done (none,c.2)) else pure (ForInStep.yield (none,c.2+1))
    |_=>pure (ForInStep.done (some none,c.2))))
  (h:∀n,b<=n->n<=d->Up κ (arrOf st) a (a+n)->(n=d\/∀x y,(arrOf st)[a+n]?=some x->(arrOf st)[a+n-1]?=some y->lq κ x y=true)->Q (none,n) st):
  wpS (model prog w) A E s (forIn [b:d] ((none,b):Option (Option Nat)×Nat) f) Q st:=by
 refine rS (uW (I:=λx c g=>g=st/\c=(none,x)/\b<=x/\x<=d/\Up κ (arrOf st) a (a+x))
  (Q:=λc g=>g=st/\∃n,c=(none,n)/\b<=n/\n<=d/\Up κ (arrOf st) a (a+n)/\(n=d\/∀x y,(arrOf st)[a+n]?=some x->(arrOf st)[a+n-1]?=some y->lq κ x y=true)) ?_ ?_ ⟨rfl,rfl,zF _,t,I⟩) ?_
 ·rintro x c g K L ⟨rfl,rfl,l,j,e⟩;rw[C];dsimp only;refine yM (eK o D F ⋯ ⋯ λp q ep m=>?_);dsimp only;cases hl:lq κ p q with
  |true =>
   rw[zG rfl];refine xM ⟨rfl,x,rfl,l,j,e,.inr λu v i k=>?_⟩;rw[ep]at i;rw[m]at k;cases i;cases k;exact hl
  |false =>
   rw[zE (by simp)];refine xM ⟨rfl,rfl,⋯,⋯,?_⟩;refine Up.more e ⋯ ⋯ λu v i k=>?_;rw[m]at i;rw[ep]at k;cases i;cases k;exact hl
 ·rintro c g ⟨rfl,rfl,l,j,e⟩;exact⟨rfl,_,rfl,l,j,e,.inl ⋯⟩
 ·rintro c g ⟨rfl,n,rfl,l,j,e,G⟩;exact h n l j e G
theorem Fo{b:Type}{c:Prop}[Decidable c]{P T:StateT SortSt Sem b}{R:SortSt->Prop}{st:SortSt}{Q:b->SortSt->Prop}(d:c->(∀a,R a->wpS (model prog w) A E s P Q a)->wpS (model prog w) A E s T Q st)(e:¬ c->R st)(go:∀a,R a->wpS (model prog w) A E s P Q a):wpS (model prog w) A E s (if c then T else P) Q st:=
 iD (λx=>d x go) λx=>go st (e x)
theorem Pk(C:Cmp prog w A s κ kd){st:SortSt}{a r:Nat}{Q:Option Nat->SortSt->Prop}(L:kindOf st=kd)(M:∀x∈(arrOf st).toList,Gd κ x)(b3:a+r<=(arrOf st).size)(b4:1<=r)
  (h:∀n d,1<=n->n<=r->Ch a (a+n) st d->Up κ (arrOf d) a (a+n)->Q (some n) d):wpS (model prog w) A E s (countRun' a r) Q st:=by
 rw[countRun'_eq];refine yM (Fp C L M b3 (zF _) b4 Up.one (λx c=>rfl) λn Z a1 up nx=>?_);dsimp only;refine iD (λz=>?_) λz=>?_
 ·exact xM (h n st Z a1 (Ch.refl _ _ _) up)
 have P:n≠r:=λe=>z (qV.mpr e);have W:=nx.resolve_left P;refine Fo (R:=λG=>Ch a (a+n) st G/\Dn κ (arrOf G) a (a+n+1)) (λy go=>?_) (λy=>?_) λG a8=>?_
 ·refine yM (eK C L M ⋯ ⋯ λp q ep t=>?_);dsimp only;cases hl:lq κ p q with
  |true =>
   rw[zG rfl];exact xM (h n st Z a1 (Ch.refl _ _ _) up)
  | false =>
   rw[zE (by simp)];refine yM (cD ⋯ λG D a0=>?_);refine go G ⟨D,Dn.more (hi:=a+n) ?_ ⋯ (by rw[D.z];omega) λu v g k=>?_⟩
   ·-- all alike
    rw[a0];intro i j x y b1 b2 a2 J F;rw[iE ⋯,zG ⟨b1,⋯⟩]at J;rw[iE ⋯,zG ⟨⋯,a2⟩]at F;exact up _ _ y x ⋯ (show a+(a+n)-1-j<=a+(a+n)-1-i by omega) ⋯ F J
   ·rw[D.o _ (.inr (zF _))]at k;rw[a0,iE ⋯,zG ⋯,show a+(a+n)-1-(a+n-1)=a by omega,ep]at g;cases g;exact eG (eI (W v q k t)) hl
 ·have:n=1:=⋯
  subst this;refine⟨Ch.refl _ _ _,Dn.more (hi:=a+1) (λi j x y b1 b2 a2 J F=>?_) ⋯ ⋯ λu v g k=>eI (W v u k g)⟩;have:i=j:=⋯
  subst this;rw[J]at F;cases F;exact eJ _
 ·obtain⟨D,l⟩:=a8;refine yM (wpS_lift (uH ⟨rfl,?_⟩));refine yM (rS (uW (I:=λx c d=>∃f,c=(none,x,f)/\n+1<=x/\x<=r/\f+1<=x/\Ch a (a+x) st d/\Dn κ (arrOf d) a (a+x)/\Up κ (arrOf d) (a+x-(f+1)) (a+x))
   (Q:=λc d=>∃x f,c=(none,x,f)/\n+1<=x/\x<=r/\f+1<=x/\Ch a (a+x) st d/\Dn κ (arrOf d) a (a+x)/\Up κ (arrOf d) (a+x-(f+1)) (a+x)) ?_ ?_ ⟨0,rfl,zF _,⋯,⋯,D.wide ⋯,l,by rw[show a+(n+1)=a+n+1 by omega];exact Up.one⟩) ?_)
  ·rintro x c d b7 b9 ⟨f,rfl,O,I,K,ch,l,up⟩;have a3:kindOf d=kd:=ch.k.trans L;have X:=ch.good M;have P:=ch.z;dsimp only;refine yM (eK C a3 X ⋯ ⋯ λp q ep t=>?_);dsimp only;cases hl:lq κ p q with
   |true =>
    rw[zG rfl];refine iD (λR=>?_) λR=>?_
    ·refine yM (cD ⋯ λo b N=>xM ?_);have S:Ch a (a+x) d o:=⟨b.k,b.p,b.f,b.z,b.m,λi hi=>b.o i ⋯⟩;refine⟨0,rfl,⋯,⋯,⋯,(ch.trans S).wide ⋯,?_,by rw[show a+(x+1)-(0+1)=a+x by omega];exact Up.one⟩;refine Dn.more (hi:=a+x) (by rw[N];exact Dn.turned l up ⋯ (zF _) ⋯) ⋯ (by rw[b.z];omega) λu v g k=>?_;rw[b.o _ (.inr (zF _)),ep]at k;cases k;rw[N,iE ⋯,zG ⋯]at g;have l1:le' κ q u:=l _ _ u q ⋯ (show a+x-(f+1)+(a+x)-1-(a+x-1)<=a+x-1 by omega) ⋯ g t;exact eG (eI hl) l1
    ·refine xM ⟨0,rfl,⋯,⋯,⋯,ch.wide ⋯,?_,by rw[show a+(x+1)-(0+1)=a+x by omega];exact Up.one⟩;refine Dn.more l ⋯ ⋯ λu v g k=>?_;rw[t]at g;rw[ep]at k;cases g;cases k;exact eI hl
   | false =>
    rw[zE (by simp)];refine yM (eK C a3 X ⋯ ⋯ λc0 b6 V Y=>?_);rw[t]at V;rw[ep]at Y;cases V;cases Y;dsimp only;cases hl2:lq κ q p with
    |true =>
     rw[zG rfl];exact xM ⟨x,f,rfl,O,I,K,ch,l,up⟩
    | false =>
     rw[zE (by simp)];refine xM ⟨f+1,rfl,⋯,⋯,⋯,ch.wide ⋯,?_,?_⟩
     ·refine Dn.more l ⋯ ⋯ λu v g k=>?_;rw[t]at g;rw[ep]at k;cases g;cases k;exact hl2
     ·have:=Up.more (hi':=a+(x+1)) up ⋯ ⋯ λu v g k=>by
       rw[t]at g;rw[ep]at k;cases g;cases k;exact hl
      rw[show a+(x+1)-(f+1+1)=a+x-(f+1) by omega];exact this
  ·rintro c d ⟨f,rfl,O,I,K,ch,l,up⟩;exact⟨_,f,rfl,O,I,K,ch,l,up⟩
  ·rintro c d ⟨x,f,rfl,O,I,K,ch,l,up⟩;dsimp only;refine Fo (R:=λo=>Ch a (a+x) st o/\Dn κ (arrOf o) a (a+x)) (λR a6=>?_) (λR=>⟨ch,l⟩) λo a4=>?_
   ·have P:=ch.z;refine yM (cD ⋯ λo b N=>?_);have S:Ch a (a+x) d o:=⟨b.k,b.p,b.f,b.z,b.m,λi hi=>b.o i ⋯⟩;exact a6 o ⟨ch.trans S,by rw[N];exact Dn.turned l up ⋯ (zF _) ⋯⟩
   ·obtain⟨b,b0⟩:=a4;have c2:=b.z;refine yM (cD ⋯ λa5 U b5=>?_);have T:=b.trans U;have b8:=U.z;refine yM (Fp C (T.k.trans L) (T.good M) ⋯ ⋯ I (by rw[b5];exact Dn.up b0 ⋯) (λ_ _=>rfl) λm c1 a9 a7 _=>?_);dsimp only;exact xM (h m a5 ⋯ a9 (T.wide ⋯) a7)
theorem Pj{x y z:Keyed}(a:lq κ x y=true)(b:le' κ y z):lq κ x z=true:=KeyOrd.klt_of_klt_of_kle (O:=κ.toKeyOrd) a b
theorem Up.put{a:Array Keyed}{b k l:Nat}{p:Keyed}(f:Up κ a b (b+k))(q:b+k<a.size)(ep:a[b+k]?=some p)(hl:l<=k)(n:∀i u,b<=i->i<b+l->a[i]?=some u->le' κ u p)(o:∀i u,b+l<=i->i<b+k->a[i]?=some u->lq κ p u=true):
  Up κ (bubble a (b+k) (b+k-(b+l))) b (b+(k+1)):=λi j x y e r t d c=>by
 rw[getElem?_bubble q _ ⋯,show b+k-(b+k-(b+l))=b+l by omega]at d c
 by_cases m:i=b+l
 ·rw[zG m,ep]at d;cases d
  by_cases b1:j=b+l
  ·rw[zG b1,ep]at c;cases c;exact eJ _
  ·rw[zE b1,zG ⋯]at c;exact eI (o _ _ ⋯ ⋯ c)
 ·rw[zE m]at d
  by_cases g:b+l<i/\i<=b+k
  ·rw[zG g]at d;rw[zE ⋯,zG ⋯]at c;exact f _ _ _ _ ⋯ (show i-1<=j-1 by omega) ⋯ d c
  ·rw[zE g]at d
   by_cases b1:j=b+l
   ·rw[zG b1,ep]at c;cases c;exact n _ _ e ⋯ d
   ·rw[zE b1]at c
    by_cases b2:b+l<j/\j<=b+k
    ·rw[zG b2]at c;exact f _ _ _ _ e (show i<=j-1 by omega) ⋯ d c
    ·rw[zE b2]at c;exact f _ _ _ _ e r ⋯ d c
theorem Pi(C:Cmp prog w A s κ kd){st:SortSt}{a n ok:Nat}{Q:Bool->SortSt->Prop}(J:kindOf st=kd)(L:∀x∈(arrOf st).toList,Gd κ x)(Z:a+n<=(arrOf st).size)(R:1<=ok)(G:ok<=n)(O:Up κ (arrOf st) a (a+ok))
  (h:∀b,Ch a (a+n) st b->Up κ (arrOf b) a (a+n)->Q true b):wpS (model prog w) A E s (binarySort' a n ok) Q st:=by
 rw[binarySort'_eq];refine yM (rS (uW (I:=λk c b=>c=(none,())/\ok<=k/\k<=n/\Ch a (a+n) st b/\Up κ (arrOf b) a (a+k))
  (Q:=λc b=>c=(none,())/\Ch a (a+n) st b/\Up κ (arrOf b) a (a+n)) ?step ?fin ?init) ?post)
 case post =>
  rintro c b ⟨rfl,e,d⟩;exact xM (h b e d)
 case init=>rw[show max ok 1=ok by omega];exact⟨rfl,zF _,G,Ch.refl _ _ _,O⟩
 case fin =>
  rintro c b ⟨M,T,N,e,d⟩;rw[show max (max ok 1) n=n by omega]at d;exact⟨M,e,d⟩
 case step =>
  rintro k c b V a0 ⟨rfl,T,N,e,d⟩;have X:=e.z;have S:kindOf b=kd:=e.k.trans J;have D:=e.good L;obtain⟨p,ep⟩:=cC (a:=arrOf b) (i:=a+k) ⋯;refine yM (rS (uW (I:=λx c g=>g=b/\∃l r,c=(none,l,r)/\l<=r/\r<=k/\r-l<=k-x /\
    (∀i u,a<=i->i<a+l->(arrOf b)[i]?=some u->le' κ u p)/\(∀i u,a+r<=i->i<a+k->(arrOf b)[i]?=some u->lq κ p u=true))
   (Q:=λc g=>g=b/\∃l r,c=(none,l,r)/\l<=k /\
    (∀i u,a<=i->i<a+l->(arrOf b)[i]?=some u->le' κ u p)/\(∀i u,a+l<=i->i<a+k->(arrOf b)[i]?=some u->lq κ p u=true)) ?istep ?ifin ?iinit) ?ipost)
  case iinit=>exact⟨rfl,0,k,rfl,⋯,⋯,⋯,λi u _ hi=>⋯,λi u R Y=>⋯⟩
  case ifin =>
   rintro c g ⟨rfl,l,r,rfl,F,m,K,j,f⟩;have:l=r:=⋯
   subst this;exact⟨rfl,l,l,rfl,m,j,f⟩
  case istep =>
   rintro x c g _ W ⟨rfl,l,r,rfl,F,m,K,j,f⟩;dsimp only;refine iD (λI=>?_) λI=>?_
   ·have:l=r:=⋯
    subst this;exact xM ⟨rfl,l,l,rfl,m,j,f⟩
   ·refine yM (eK C S D ⋯ ⋯ λU q z y=>?_);rw[ep]at z;cases z;dsimp only;cases hless:lq κ p q with
    |true =>
     rw[zG rfl];refine xM ⟨rfl,l,(l+r)/2,rfl,⋯,⋯,⋯,j,λi u t v o=>?_⟩;exact Pj hless (d _ _ _ _ ⋯ t v y o)
    |false =>
     rw[zE (by simp)];refine xM ⟨rfl,(l+r)/2+1,r,rfl,⋯,⋯,⋯,λi u t v o=>?_,f⟩;exact eG (d _ _ _ _ t (show i<=a+(l+r)/2 by omega) ⋯ o y) hless
  case ipost =>
   rintro c g ⟨rfl,l,r,rfl,P,j,f⟩;show wpS _ _ _ _ (do moveDown' (a+k) (a+l);pure (ForInStep.yield (none,()))) _ _;rw[moveDown'_eq];refine yM (wpS_modify (xM ⟨rfl,⋯,⋯,e.trans ⟨rfl,rfl,rfl,bubble_size _ _ _,bubble_perm _ _ _,λi hi=>?_⟩,d.put ⋯ ep P j f⟩));exact(getElem?_bubble ⋯ _ ⋯ i).trans (by rw[zE ⋯,zE ⋯])
def Run(κ:PyProof.Rows.KeyKind)(a:Array Keyed):Nat->List (Nat×Nat×Nat)->Nat->Prop
 |s,[],e=>s=e
 |s,x:: xs,e=>x.1=s/\1<=x.2.1/\Up κ a s (s+x.2.1)/\Run κ a (s+x.2.1) xs e
theorem Ph{a:Array Keyed}{i j:Nat}(h:Up κ a i j):Srt κ (seg a.toList i j):=by
 rw[Srt,List.pairwise_iff_getElem];intro e u c d f;have e1:=vF c;have b:=vF d;rw[Pm]at e1 b;split at e1
 ·split at b
  ·exact h _ _ _ _ ⋯ (show i+e<=i+u by omega) ⋯ (cB.mpr e1) (cB.mpr b)
  ·cases b
 ·cases e1
structure Wt(κ:PyProof.Rows.KeyKind)(kd:SortKind)(a₀:Array Keyed)(hi:Nat)(st:SortSt):Prop where
 k:kindOf st=kd
 f:failedOf st=none
 m:(arrOf st).Perm a₀
 r:Run κ (arrOf st) 0 (pendingOf st).toList hi
end
def gR(prog:Program)(w:World)(n:Nat):Prop:=∀{A:Around}{E:VP}{s:Shared}{κ:PyProof.Rows.KeyKind}{kd:SortKind}{a₀:Array Keyed}{st:SortSt}{Q:Unit->SortSt->Prop},a₀.size=n->2<=n->Cmp prog w A s κ kd->(∀x∈a₀.toList,Gd κ x)->kindOf st=kd->failedOf st=none->pendingOf st=#[]->arrOf st=a₀ ->
 (∀st',kindOf st'=kd->failedOf st'=none->(arrOf st').Perm a₀->Up κ (arrOf st') 0 a₀.size->Q () st')->wpS (model prog w) A E s sortRuns' Q st
section
variable {prog:Program} {w:World}
theorem Pg{n:Nat}(V:n<64):gR prog w n:=by
 intro A E s κ kd a₀ st Q R u p M i v O e h;rw[sortRuns'_eq];refine yM (wpS_get ?_);rw[e];dsimp only;obtain⟨f,P⟩:∃f,a₀.size=f+1:=⟨a₀.size-1,⋯⟩;have I:minRun' a₀.size a₀.size 0=a₀.size:=by
  have:minRun' (f+1) a₀.size 0=a₀.size:=by rw[minRun'_succ,zG ⋯];rfl
  rw[←P]at this;exact this
 rw[I];have X:(arrOf st).size=a₀.size:=by rw[e]
 have t:∀x∈(arrOf st).toList,Gd κ x:=by rw[e];exact M
 refine yM (rS (uW (I:=λx c a=>(x=0/\c=(none,0)/\a=st)\/(1<=x/\c=(none,a₀.size)/\kindOf a=kd/\failedOf a=none/\(arrOf a).Perm a₀/\Up κ (arrOf a) 0 a₀.size/\(pendingOf a).size<=1))
  (Q:=λc a=>c=(none,a₀.size)/\kindOf a=kd/\failedOf a=none/\(arrOf a).Perm a₀/\Up κ (arrOf a) 0 a₀.size/\(pendingOf a).size<=1) ?step ?fin (.inl ⟨rfl,rfl,rfl⟩)) ?post)
 case fin =>
  rintro c a (⟨z,_⟩|⟨_,r⟩)
  ·omega
  ·exact r
 case step =>
  rintro x c a S W (⟨rfl,rfl,rfl⟩|⟨F,rfl,r⟩)
  ·dsimp only;refine iD (λz=>⋯) λz=>?_;have T:a₀.size-0=a₀.size:=Nat.sub_zero _;refine yM (Pk p i t ⋯ ⋯ λm D L Y b k=>?_);dsimp only;have l:pendingOf D=#[]:=b.p.trans O;refine iD (λy=>?_) λy=>?_
   ·refine yM (wpS_lift (uH ⟨rfl,?_⟩));have U:=b.z;refine yM (Pi p (b.k.trans i) (b.good t) ⋯ L ⋯ k λd g j=>?_);rw[zE (by simp)];refine yM (wpS_get ?_);have G:pendingOf d=#[]:=g.p.trans l;rw[G];show wpS _ _ _ _ (do
     modify λs=>setPending s ((pendingOf s).push (0,min (a₀.size-0) a₀.size,0))
     pure (ForInStep.yield (none,0+min (a₀.size-0) a₀.size))) _ _
    have o:min (a₀.size-0) a₀.size=a₀.size:=⋯
    rw[o]at j ⊢;rw[qL]at j ⊢;refine yM (wpS_modify (xM (.inr ⟨⋯,rfl,g.k.trans (b.k.trans i),g.f.trans (b.f.trans v),g.m.trans (by rw[←e];exact b.m),j,?_⟩)));show((pendingOf d).push _).size<=1;rw[G];exact zF _
   ·refine yM (wpS_get ?_);rw[l];have o:m=a₀.size:=⋯
    subst o;show wpS _ _ _ _ (do
     modify λs=>setPending s ((pendingOf s).push (0,a₀.size,0))
     pure (ForInStep.yield (none,0+a₀.size))) _ _
    rw[qL]at k ⊢;refine yM (wpS_modify (xM (.inr ⟨⋯,rfl,b.k.trans i,b.f.trans v,by rw[←e];exact b.m,k,?_⟩)));show((pendingOf D).push _).size<=1;rw[l];exact zF _
  ·dsimp only;refine iD (λz=>xM ⟨rfl,r⟩) λz=>absurd (zF _) z
 case post =>
  rintro c a ⟨rfl,F,u,K,J,N⟩;dsimp only;refine yM (rS (uW (I:=λx c d=>c=(none,())/\d=a) (Q:=λc d=>c=(none,())/\d=a) ?fstep (λc d hh=>hh) ⟨rfl,rfl⟩) ?fpost)
  case fstep =>
   rintro x c C _ _ ⟨rfl,rfl⟩;refine yM (wpS_get ?_);exact iD (λq=>xM ⟨rfl,rfl⟩) λq=>absurd N q
  case fpost =>
   rintro c C ⟨rfl,rfl⟩;exact xM (h C F u K J)
end
mutual
def fl:PyData->LI'
 |.int i=>[i]
 |.tuple xs=>flA xs
 |_=>[]
def flA:List PyData->LI'
 |[]=>[]
 |d:: ds=>fl d++flA ds
end
mutual
def sm:PyData->PyData->Bool
 |.int _,.int _=>true
 |.tuple xs,.tuple ys=>smA xs ys
 |_,_=>false
def smA:List PyData->List PyData->Bool
 |[],[]=>true
 |x:: xs,y:: ys=>sm x y && smA xs ys
 |_,_=>false
end
mutual
theorem cE:∀(x y:PyData),sm x y=true->(fl x).length=(fl y).length
 |.int _,y,h=>by cases y <;> simp[sm]at h <;> simp[fl]
 |.tuple xs,y,h=>by cases y <;> simp[sm]at h <;> simp[fl];exact Fn _ _ h
 |.none,y,h=>by simp[sm]at h
 |.bool _,y,h=>by simp[sm]at h
 |.str _,y,h=>by simp[sm]at h
 |.list _,y,h=>by simp[sm]at h
 |.dict _,y,h=>by simp[sm]at h
theorem Fn:∀(xs ys:List PyData),smA xs ys=true->(flA xs).length=(flA ys).length
 |[],ys,h=>by cases ys <;> simp[smA]at h <;> rfl
 |x:: xs,ys,h=>by
  cases ys <;> simp[smA]at h;simp only[flA,List.length_append];rw[cE _ _ h.1,Fn _ _ h.2]
end
mutual
theorem cF:∀(x y:PyData),sm x y=true->fl x=fl y->x=y
 |.int _,y,h,e=>by cases y <;> simp[sm]at h;simp[fl]at e;rw[e]
 |.tuple xs,y,h,e=>by cases y <;> simp[sm]at h;simp only[fl]at e;rw[Fm _ _ h e]
 |.none,y,h,e=>by simp[sm]at h
 |.bool _,y,h,e=>by simp[sm]at h
 |.str _,y,h,e=>by simp[sm]at h
 |.list _,y,h,e=>by simp[sm]at h
 |.dict _,y,h,e=>by simp[sm]at h
theorem Fm:∀(xs ys:List PyData),smA xs ys=true->flA xs=flA ys->xs=ys
 |[],ys,h,e=>by cases ys <;> simp[smA]at h;rfl
 |x:: xs,ys,h,e=>by
  cases ys <;> simp[smA]at h;simp only[flA]at e;obtain⟨e1,a⟩:=List.append_inj e (cE _ _ h.1);rw[cF _ _ h.1 e1,Fm _ _ h.2 a]
end
def lx(a b:LI'):Bool:=decide (a<b)
theorem aV:∀(a l1 l2:LI'),lx (a++l1) (a++l2)=lx l1 l2
 |[],_,_=>rfl
 |x:: a,l1,l2=>by
  rw[←aV a l1 l2]
  refine qZ.mpr ?_
  simp[List.cons_lt_cons_iff]
theorem aW:∀(a b l1 l2:LI'),a.length=b.length->a≠b->lx (a++l1) (b++l2)=lx a b
 |[],[],_,_,_,h=>absurd rfl h
 |[],_:: _,_,_,h,_=>by simp at h
 |_:: _,[],_,_,h,_=>by simp at h
 |x:: a,y:: b,l1,l2,h,c=>by
  refine qZ.mpr ?_
  simp only[List.cons_append,List.cons_lt_cons_iff]
  by_cases e:x=y
  ·subst e;have:=qZ.mp (aW a b l1 l2 (by simpa using h) (by simpa using c));rw[this]
  ·simp[e]
section
variable {prog:Program} {w:World} {E:VP}
theorem eqT{n:Nat}(i:n<=4){A:Around}{s:Shared}{v u:Value}{x y:PyData}{as bs:LA}{Q:Bool->Shared->Prop}(f:tT n x=true)(g:tT n y=true)(d:Reads s.heap v x as)(c:Reads s.heap u y bs)(j:A.units+8<cLine)(h:Q (decide (x=y)) s):wpAny (model prog w) A (eqBool v u) Q E s:=by
 have b:=iC n _ f;have a:=iC n _ g;have l1:=jB n _ b;have l2:=jB n _ a;refine PySem.SeqAt.eqBoolOverData _ _ _ _ _ _ _ _ _ _ _ _ d c l1.1 l2.1 ⋯ ?_;rw[←SeqAt.same_eq_eqv _ _ (aQ n _ _ b a)];have e:=aR n _ _ b a
 by_cases z:x=y
 ·rw[zJ z]at h;rw[e.mpr z];exact h
 ·rw[zK z]at h;have:same x y=false:=by
   cases q:same x y with
   |false=>rfl
   |true=>exact absurd (e.mp q) z
  rw[this];exact h
theorem ltT:∀(n:Nat),n<=4->∀{A:Around}{s:Shared}{v u:Value}{x y:PyData}{as bs:LA}{Q:VP},tT n x=true->tT n y=true->sm x y=true->Reads s.heap v x as->Reads s.heap u y bs->A.units+8+n<cLine->Q (.bool (lx (fl x) (fl y))) s->wpAny (model prog w) A (richCompare .Lt v u) Q E s:=by
 intro n
 induction n with
 |zero =>
  intro S A s v u x y as bs Q D F G f d a2 h;cases f <;> simp[tT]at D;cases d <;> simp[tT]at F;refine wpAny_lt_int ?_;simpa [fl,lx,uA]using h
 | succ n T =>
  intro S A s v u x y as bs Q D F G f d a2 h;cases f <;> simp only[tT,Bool.false_eq_true]at D
  case int =>
   cases d <;> simp only[sm,Bool.false_eq_true]at G;refine wpAny_lt_int ?_;simpa [fl,lx,uA]using h
  case tuple a o vs m xs hg hc hd hr =>
   cases d <;> simp only[sm,Bool.false_eq_true]at G;rename_i b Y us b4 ys O Z a7 U;simp only[tT]at F;have N:s.TypeIs (.ref a) "tuple" := ⟨o,hg,hc⟩;have P:s.TypeIs (.ref b) "tuple" := ⟨Y,O,Z⟩;refine wpAny_richCompare_same_room (op:=.Lt) N P PySem.F.slot_tuple_lt (xL PySem.F.slot_tuple_lt N PySem.F.entry_tuple_lt ?_ (PySem.F.args_tuple_lt_2 _ _)) ⋯;show wpAny _ _ (isInstance (.ref b) (.type "tuple") >>= _) _ _ s;refine zA (vG P isSubtype_tuple_tuple ?_);simp only[Bool.not_true,Bool.false_eq_true,if_false];refine zA (rA hg hd ?_);refine zA (rA O a7 ?_);refine zA ?_;refine wpAny_forIn_list _
    (λrest r s'=>r.1=none/\s'=s/\∃j g k l K J,rest=List.zip k l/\ReadsAll s.heap k j K/\ReadsAll s.heap l g J/\j.all (tT n)=true/\g.all (tT n)=true/\smA j g=true/\lx (flA j) (flA g)=lx (flA xs) (flA ys)/\(k.length+us.size=l.length+vs.size))
    _ ?_ ?_ _ _ ⟨rfl,rfl,xs,ys,vs.toList,us.toList,_,_,rfl,hr,U,D,F,G,rfl,by simp;omega⟩
   ·rintro⟨p,q⟩ rest r s' ⟨L,rfl,j,g,k,l,K,J,z,M,C,t,tb,c,i,I⟩;cases M with
    |nil=>simp at z
    | @cons b2 a1 d' a6 b8 b0 f a5 =>
     cases C with
     |nil=>simp[smA]at c
     |@cons b5 X R a4 b1 b3 d a9 =>
      simp only[List.zip_cons_cons,List.cons.injEq,Prod.mk.injEq]at z;obtain⟨⟨rfl,rfl⟩,rfl⟩:=z;rw[yZ,zO]at t tb;simp only[smA,Bool.and_eq_true]at c;refine zA (eqT (n:=n) ⋯ t.1 tb.1 f d (by show A.units+1+8<cLine;omega) ?_)
      by_cases e:d'=R
      ·subst e;rw[zJ rfl];simp only[Bool.not_true,Bool.false_eq_true,if_false];refine zB ⟨rfl,rfl,a6,a4,a1,X,_,_,rfl,a5,a9,t.2,tb.2,c.2,?_,by simp at I;omega⟩;rw[←i];simp only[flA];rw[aV]
      ·rw[zK e];simp only[Bool.not_false,if_true];have W:fl d'≠fl R:=λq=>e (cF _ _ c.1 q);simp only[flA]at i;rw[aW _ _ _ _ (cE _ _ c.1) W]at i;refine zA (uH ?_);refine zA (T ⋯ t.1 tb.1 c.1 f d (by show A.units+1+8+n<cLine;omega) ?_);rw[i];exact zA (zB (zB (zB ⟨_,rfl,(λe=>nomatch e),h⟩)))
   ·rintro⟨f,d⟩ s' ⟨L,rfl,j,g,k,l,K,J,z,M,C,t,tb,c,i,I⟩;simp only at L;subst L;cases M with
    |cons b7 b6 =>
     cases C with
     |nil=>simp[smA]at c
     |cons a3 a0=>simp at z
    | nil =>
     cases C with
     |cons a3 a0=>simp[smA]at c
     |nil =>
      have a8:vs.size=us.size:=by simp at I;omega
      have V:lx (flA xs) (flA ys)=false:=by rw[←i];simp[flA,lx]
      refine zB ⟨_,rfl,(λe=>nomatch e),?_⟩;show Q (.bool (decide (vs.size<us.size))) s';have h':Q (.bool (lx (flA xs) (flA ys))) s':=h;rw[V]at h';rw[a8,zK (yP _)];exact h'
end
mutual
theorem Fl:∀(d x y:PyData),sm d x=true->sm d y=true->sm x y=true
 |.int _,x,y,a,b=>by cases x <;> simp[sm]at a;cases y <;> simp[sm]at b;simp[sm]
 |.tuple xs,x,y,a,b=>by cases x <;> simp[sm]at a;cases y <;> simp[sm]at b;simp only[sm];exact Fk _ _ _ a b
 |.none,x,y,a,b=>by simp[sm]at a
 |.bool _,x,y,a,b=>by simp[sm]at a
 |.str _,x,y,a,b=>by simp[sm]at a
 |.list _,x,y,a,b=>by simp[sm]at a
 |.dict _,x,y,a,b=>by simp[sm]at a
theorem Fk:∀(d x y:List PyData),smA d x=true->smA d y=true->smA x y=true
 |[],x,y,a,b=>by cases x <;> simp[smA]at a;cases y <;> simp[smA]at b;simp[smA]
 |d:: ds,x,y,a,b=>by
  cases x <;> simp[smA]at a;cases y <;> simp[smA]at b;simp only[smA,Bool.and_eq_true];exact⟨Fl _ _ _ a.1 b.1,Fk _ _ _ a.2 b.2⟩
end
theorem cG(a:LI'):lx a a=false:=zK (List.lt_irrefl a)
theorem Fj(a b c:LI')(d:lx a b=true)(e:lx b c=true):lx a c=true:=zJ (List.lt_trans (xF d) (xF e))
theorem Fi(a b:LI')(c:lx a b=false)(d:lx b a=false):a=b:=List.le_antisymm (pE.mp (uZ d)) (pE.mp (uZ c))
theorem Pf(a b c:LI')(h:lx a c=true):lx a b=true\/lx b c=true:=by
 cases h1:lx a b with
 |true=>exact .inl rfl
 | false =>
  refine .inr ?_;cases h2:lx b c with
  |true=>rfl
  |false =>
   have e1:b<=a:=pE.mp (uZ h1);have d:c<=b:=pE.mp (uZ h2);exact absurd (xF h) (pE.mpr (List.le_trans d e1))
open Classical in
def keyT(h:Heap)(d0:PyData)(v:Value):Option (LI'):=if q:∃d,tT 4 d=true/\sm d0 d=true/\∃as,Reads h v d as then some (fl q.choose) else none
theorem Fh{h:Heap}{d0 d:PyData}{v:Value}{as:LA}(b:tT 4 d=true)(z:sm d0 d=true)(r:Reads h v d as):keyT h d0 v=some (fl d):=by
 have q:∃d,tT 4 d=true/\sm d0 d=true/\∃as,Reads h v d as:=⟨d,b,z,as,r⟩;unfold keyT;rw[dif_pos q];obtain⟨t',e,c,a⟩:=q.choose_spec;rw[uY _ _ _ _ _ (jB 4 _ (iC 4 _ t')).1 a r]
theorem Fg{h:Heap}{d0:PyData}{v:Value}{a:LI'}(e:keyT h d0 v=some a):∃d as,tT 4 d=true/\sm d0 d=true/\Reads h v d as/\a=fl d:=by
 unfold keyT at e
 by_cases q:∃d,tT 4 d=true/\sm d0 d=true/\∃as,Reads h v d as
 ·rw[dif_pos q]at e;obtain⟨t',f,c,b⟩:=q.choose_spec;exact⟨_,c,t',f,b,by cases e;rfl⟩
 ·rw[dif_neg q]at e;cases e
def iF(h:Heap)(d0:PyData):PyProof.Rows.KeyKind where
 α:=LI'
 blt:=lx
 irrefl:=cG
 trans:=Fj
 negTrans:=Pf
 total:=Fi
 keyOf:=keyT h d0
 dflt:=[]
section
variable {prog:Program} {w:World} {A:Around} {s:Shared}
theorem katT(t:A.units+16<cLine){Q:Bool->Shared->Prop}:∀(c a:List PyData)(f j:LW)(m n:LA)(i:Nat),ReadsAll s.heap f c m->ReadsAll s.heap j a n->c.all (tT 3)=true->a.all (tT 3)=true->smA c a=true->Q (lx (flA c) (flA a)) s->PySem.W.KatLex prog w A false false Q (f.zip j) i s
 | [],a,f,j,m,n,i,k,l,_,_,b,h=>by
  cases k;cases a with
  |cons _ _=>simp[smA]at b
  |nil =>
   cases l;refine PySem.W.kat_nil ?_;simpa [flA,lx]using h
 | d :: c,a,f,j,m,n,i,k,l,g,tb,b,h=>by
  cases a with
  |nil=>simp[smA]at b
  | cons e a =>
   cases k with
   | cons p r =>
    cases l with
    |cons o u =>
     rw[yZ,zO]at g tb;simp only[smA,Bool.and_eq_true]at b;rw[rC];refine PySem.W.kat_cons (eqT (n:=3) ⋯ g.1 tb.1 p o ⋯ ?_);simp only[flA]at h
     by_cases z:d=e
     ·subst z;rw[zJ rfl];rw[aV]at h;exact PySem.W.kat_yes (katT t c a _ _ _ _ (i+1) r u g.2 tb.2 b.2 h)
     ·rw[zK z];rw[aW _ _ _ _ (cE _ _ b.1) λq=>z (cF _ _ b.1 q)]at h;refine PySem.W.kat_no ?_;show wpAny (model prog w) A (oneLt' false _ _) Q _ s;exact PySem.W.kat_one _ _ (ltT 3 ⋯ g.1 tb.1 b.1 p o ⋯ h)
theorem cmpT(C:A.units+16<cLine){d0:PyData}(g:∃l,d0=.tuple l):Cmp prog w A s (iF s.heap d0) (tuples' false):=by
 intro E x y a b Q D t h;obtain⟨l,rfl⟩:=g;obtain⟨d,as,n,i,j,rfl⟩:=Fg D;obtain⟨e,bs,p,k,c,rfl⟩:=Fg t;have z:=Fl _ _ _ i k;cases j <;> simp only[sm,Bool.false_eq_true]at i
 case tuple a o vs m xs hg hc g hr =>
  cases c <;> simp only[sm,Bool.false_eq_true]at k;rename_i b G us J ys F I v q;simp only[tT]at n p;simp only[sm]at z;have hl:vs.size=us.size:=by
   have e1:∀{h:Heap}{vs:LW}{xs:List PyData}{as:LA},ReadsAll h vs xs as->vs.length=xs.length:=by
    intro h vs xs as r
    induction xs generalizing vs as with
    |nil=>cases r;rfl
    |cons x xs f=>cases r with|cons j c=>simp[f c]
   have u:∀{xs ys:List PyData},smA xs ys=true->xs.length=ys.length:=by
    intro xs
    induction xs with
    |nil=>intro ys h;cases ys <;> simp[smA]at h;rfl
    |cons x xs f=>intro ys h;cases ys <;> simp[smA]at h;simp[f h.2]
   have:=e1 hr;have:=e1 q;have:=u z;simp only[Array.length_toList]at*
   omega
  refine PySem.W.kat_lt hg g F v ?_;rw[zK ⋯];exact katT C xs ys _ _ _ _ 0 hr q n p z h
end
theorem aX{h h':Heap}(i:∀b o,h.get? b=some o->o.cls=.type "tuple" -> h'.get? b=some o):∀(n:Nat){v:Value}{d:PyData}{as:LA},tT n d=true->Reads h v d as->Reads h' v d as:=by
 intro n
 induction n with
 |zero =>
  intro v d as c r;cases r <;> simp[tT]at c;exact .int _ _
 | succ n f =>
  have all:∀(xs:List PyData)(vs:LW)(as:LA),xs.all (tT n)=true->ReadsAll h vs xs as->ReadsAll h' vs xs as:=by
   intro xs
   induction xs with
   |nil=>intro vs as _ r;cases r;exact .nil
   | cons d ds g =>
    intro vs as c r;cases r with
    |cons j e =>
     rw[yZ,zO]at c;exact .cons (f c.1 j) (g _ _ c.2 e)
  intro v d as c r;cases r <;> simp only[tT,Bool.false_eq_true]at c
  case int=>exact .int _ _
  case tuple a o vs k xs hg hc hdd hr=>exact .tuple (i _ _ hg hc) hc hdd (all _ _ _ c hr)
theorem Paired.perm{i f:Type}{F:i->f->Prop}{ys g:List f}(p:ys.Perm g):∀{xs:List i},Paired F xs ys->∃e,e.Perm xs/\Paired F e g:=by
 induction p with
 |nil=>intro xs h;exact⟨xs,List.Perm.refl _,h⟩
 | cons x p n =>
  intro xs h;cases h with
  |@cons a b l1 l2 d c =>
   obtain⟨e,k,h'⟩:=n c;exact⟨a:: e,k.cons _,.cons d h'⟩
 | swap x y l =>
  intro xs h;cases h with
  |@cons a b l1 l2 d c =>
   cases c with
   |@cons j I v D w q=>exact⟨j:: a:: v,List.Perm.swap ..,.cons w (.cons d q)⟩
 |trans C G o m =>
  intro xs h;obtain⟨z,t,d⟩:=o h;obtain⟨r,u,c⟩:=m d;exact⟨r,u.trans t,c⟩
theorem Paired.mem{b c:Type}{F:b->c->Prop}{xs:List b}{ys:List c}(h:Paired F xs ys):∀x∈xs,∃y∈ys,F x y:=by
 induction h with
 |nil=>intro x a;cases a
 |cons f i g =>
  intro x a;rcases yQ.mp a with e|a
  ·subst e;exact⟨_,.head _,f⟩
  ·obtain⟨y,d,q⟩:=g x a;exact⟨y,.tail _ d,q⟩
theorem ord_of{κ:PyProof.Rows.KeyKind}{c:Type}{F:c->Value->Prop}{k:c->κ.α}(f:∀p v,F p v->κ.keyOf v=some (k p)):∀(L:List Keyed)(ps:List c),(∀e∈L,e.1=e.2)->L.Pairwise (le' κ)->Paired F ps (L.map (·.2))->ps.Pairwise λp q=>κ.blt (k q) (k p)=false
 |[],ps,_,_,h=>by cases h;exact .nil
 | e:: L,ps,d,a,h=>by
  cases h with
  |@cons p b l1 l2 m j =>
   rw[List.pairwise_cons]at a;refine .cons (λq r=>?_) (ord_of f L l1 (λx n=>d x (.tail _ n)) a.2 j);obtain⟨v,o,t⟩:=Paired.mem j q r;obtain⟨y,g,rfl⟩:=pI.mp o;have l:=a.1 y g;have k1:ky κ e=k p:=by unfold ky;rw[d e (.head _),f _ _ m];rfl
   have k2:ky κ y=k q:=by unfold ky;rw[d y (.tail _ g),f _ _ t];rfl
   have i:κ.blt (ky κ y) (ky κ e)=false:=l;rw[k1,k2]at i;exact i
structure TV(K:Frag)(H:Hp)(d0:PyData)(p:V×PyData)(v:Value):Prop where
 r:RelV p.1 v
 t:tT 4 p.2=true
 z:sm d0 p.2=true
 d:Dt K H p.1 p.2
theorem TV.vals{K:Frag}{H:Hp}{d0:PyData}{ps:List (V×PyData)}{vs:LW}(h:Paired (TV K H d0) ps vs):Vals (ps.map (·.1)) vs:=by
 induction h with
 |nil=>exact .nil
 |cons b _ a=>exact .cons b.r a
theorem paired_of{K:Frag}{H:Hp}{d0:PyData}:∀{ps:List (V×PyData)}{vs:LW},Vals (ps.map (·.1)) vs->(∀p∈ps,tT 4 p.2=true/\sm d0 p.2=true/\Dt K H p.1 p.2)->Paired (TV K H d0) ps vs
 |[],vs,h,_=>by cases h;exact .nil
 |p:: ps,vs,h,q=>by
  cases h with
  |cons a b=>exact .cons ⟨a,(q p (.head _)).1,(q p (.head _)).2.1,(q p (.head _)).2.2⟩ (paired_of b λx c=>q x (.tail _ c))
theorem aY:∀{vs:LW}{e:Keyed},e∈vs.zip vs->e.1=e.2
 |[],e,h=>by cases h
 |v:: vs,e,h=>by
  rw[rC]at h;rcases yQ.mp h with h|h
  ·rw[h]
  ·exact aY h
theorem oU{a b:Type}{F:a->b->Prop}{xs:List a}{ys:List b}(h:Paired F xs ys):xs.length=ys.length:=by
 induction h with
 |nil=>rfl
 |cons _ _ c=>simp[c]
theorem aZ{b c:Type}{F:b->c->Prop}{xs:List b}{ys:List c}(h:Paired F xs ys):∀y∈ys,∃x∈xs,F x y:=by
 induction h with
 |nil=>intro x a;cases a
 |cons f i g =>
  intro x a;rcases yQ.mp a with e|a
  ·subst e;exact⟨_,.head _,f⟩
  ·obtain⟨y,d,q⟩:=g x a;exact⟨y,.tail _ d,q⟩
theorem Pe{l:List Keyed}{n:Nat}(h:l.length=n):seg l 0 n=l:=by
 unfold seg;rw[List.drop_zero,Nat.sub_zero,wR ⋯]
section
variable {X:Cx} {pins:PN} {σ:St} {H:Hp} {s:Shared} {a:Addr} {A:Around} {E:VP} {vs:LW} {ps:List (V×PyData)} {n0:Nat} {R:VP} {d0:PyData} {l0 l1:List PyData}
theorem Pd{kd:SortKind}(a5:gR X.prog X.w vs.length)(b9:A.units+16<cLine)(I:Inv X pins σ H s)(b5:FpOk X pins H a)(t:s.heap.get? a=some (seqObj "list" vs.toArray n0))(O:vs.length<=sizeLine)(a9:∀{s':Shared}{Q:SortKind->Shared->Prop},Inv X pins σ H s'->2<=vs.length->Q kd s'->wpAny (model X.prog X.w) A (keyKind' vs.toArray) Q E s')(g:∀{s':Shared},Cmp X.prog X.w A s' (iF s'.heap d0) kd)(S:Paired (TV X.K H d0) ps vs)
  (h:∀(j:List (V×PyData)) H' s',Inv X pins σ H' s'->Same H H'->H' a=some (.lst (j.map (·.1)))->j.Perm ps->j.Pairwise (λp q=>lx (fl q.2) (fl p.2)=false)->R .none s'):
  wpAny (model X.prog X.w) A (Builtin.«list.sort» ⟨[.ref a],[]⟩) (λG s'=>∃v,G=.done (.ret v)/\R v s') E s:=by
 obtain⟨P,J,b8,U,W,T⟩:=b5;rw[list_sort_plain];have b7:a<s.heap.objs.size:=zL t;refine zA (listItems_at t rfl ?_);refine zA (listUpdate_at t rfl ?_ (by rw[zT];exact O) (yD _));obtain⟨e1,Z⟩:∃e1,(s.heap.update a (Obj.mapSeq λ_=>(#[]:Array Value))).get? a=some (seqObj "list" #[] e1):=⟨_,get?_update_seq t (λ_=>#[])⟩;have b4:=wN s.heap a (Obj.mapSeq λ_=>(#[]:Array Value));have a3:Inv X pins σ H {s with heap:=s.heap.update a (Obj.mapSeq λ_=>(#[]:Array Value)),toks:=s.toks}:=I.turned (λb o k q=>(b4.2 b k).trans q) P J U W T;refine zA (seqEpoch_at Z rfl ?_);refine zA (qI ?_ O);refine zA (wpAny_newList ?_ (yD _));refine yL ?_;have D:(((s.heap.update a (Obj.mapSeq λ_=>(#[]:Array Value))).push (seqObj "tuple" vs.toArray 0)).push (seqObj "list" #[] 0)).get? a=some (seqObj "list" #[] e1):=zC _ (zC _ Z);have n:Inv X pins σ H {s with heap:=((s.heap.update a (Obj.mapSeq λ_=>(#[]:Array Value))).push (seqObj "tuple" vs.toArray 0)).push (seqObj "list" #[] 0),toks:=s.toks}:=a3.kept λb o q=>zC _ (zC _ q);show wpAny (model X.prog X.w) A _ _ E {s with heap:=((s.heap.update a (Obj.mapSeq λ_=>(#[]:Array Value))).push (seqObj "tuple" vs.toArray 0)).push (seqObj "list" #[] 0),toks:=s.toks};generalize ((s.heap.update a (Obj.mapSeq λ_=>(#[]:Array Value))).push (seqObj "tuple" vs.toArray 0)).push (seqObj "list" #[] 0)=f at*
 dsimp only;have G:∀d:SortSt,(arrOf d).Perm (pairsOf vs)->Srt (iF f d0) (arrOf d).toList->R .none {s with heap:=f.update a (Obj.mapSeq λ_=>(arrOf d).map (·.2))}:=by
  intro d C b6;have pl:(arrOf d).toList.Perm (vs.zip vs):=by rw[←pairsOf_toList];exact Array.perm_iff_toList_perm.mp C
  have M:∀e∈(arrOf d).toList,e.1=e.2:=λe M=>aY (pl.mem_iff.mp M);have a1:vs.Perm ((arrOf d).toList.map (·.2)):=by
   have:=(pl.map (·.2)).symm;rw[List.map_snd_zip (zF _)]at this;exact this
  obtain⟨j,a0,Y⟩:=Paired.perm a1 S;have a2:∀p v,TV X.K H d0 p v->(iF f d0).keyOf v=some (fl p.2):=λp v i=>by
   obtain⟨as,r⟩:=i.d.reads n i.r;exact Fh i.t i.z r
  have a8:=ord_of (κ:=iF f d0) (k:=λp:V×PyData=>fl p.2) a2 _ j M b6 Y;have b1:((arrOf d).map (·.2)).toList=(arrOf d).toList.map (·.2):=Array.toList_map ..;generalize (arrOf d).map (·.2)=F at*
  have y:=wN f a (Obj.mapSeq λ_=>F);obtain⟨K,a6⟩:∃K,(f.update a (Obj.mapSeq λ_=>F)).get? a=some (seqObj "list" (F) K):=⟨_,get?_update_seq D λ_=>F⟩;generalize f.update a (Obj.mapSeq λ_=>F)=a4 at*
  refine h j (upd H a (.lst (j.map (·.1)))) _ ?_ ?_ pN a0 a8
  ·have w:∀b u,H b=some u->b≠a:=λb u e z=>by rw[z,P]at e;cases e
   refine Inv.step (s:={s with heap:=f,toks:=s.toks}) (h':=a4) (H':=upd H a (.lst (j.map (·.1)))) (I:=n) (g':=s.gens) (d':=s.drawn) (t':=s.toks) (ch:=[a]) (λb k=>?_) (λb o _ _ g e _=>(y.2 b (λz=>g (by simp[z]))).trans e) (λb o _ _ g e _=>⟨o.slots,(y.2 b (λz=>g (by simp[z]))).trans e⟩)
    (λb o g e q=>by rw[pR (λz=>g (by simp[z]))];exact q) (λb o g e=>⟨o,(y.2 b (λz=>g (by simp[z]))).trans e⟩) (λb xs e=>by rw[pR (w _ _ e)];exact e) (λb o u e=>by rw[pR (w _ _ e)];exact e)
    (λb ps e=>⟨#[],by rw[pR (w _ _ e),e];simp⟩) (λm N=>?_) (λb u e=>?_) n.bare
   ·have e:b=a:=by simpa using k
    subst e;exact⟨U,J,W,T⟩
   ·obtain⟨o,es,ep,t,r⟩:=N;exact⟨o,es,ep,(y.2 _ (zS J)).trans t,r⟩
   ·by_cases k:b=a
    ·subst k;rw[pN]at e;cases e;refine⟨?_,(arrOf d).toList.map (·.2),K,TV.vals Y,by rw[a6,←b1]⟩;rw[yN,a0.length_eq,oU S];exact O
    ·rw[pR k]at e;refine(n.hok b u e).stay (λc v g q=>(y.2 c ?_).trans q) (λc q=>by rw[pR (w _ _ q)];exact q) λc xs q=>by rw[pR (w _ _ q)];exact q
     rcases g with z|z
     ·rw[z];exact k
     ·exact w c _ z
  ·intro b u q;rw[pR (λz=>by rw[z,P]at q;cases q)];exact q
 have hsz:vs.toArray.size=vs.length:=by simp
 by_cases l:vs.toArray.size<2
 ·rw[zG l,zG l];refine zA (zB ?_);rw[StateT.run_pure];refine zA (zB ?_);dsimp only;refine zA (seqEpoch_at D rfl ?_);refine zA (listUpdate_at D rfl ?_ (yD _) (by rw[Array.size_map];show(pairsOf vs).size<=_;rw[pairsOf_size];omega));simp only[bne_self_eq_false,Bool.false_eq_true,if_false];refine zB ⟨_,rfl,G (SortSt.mk' general' (vs.toArray.zip vs.toArray) #[] 7 none) (Array.Perm.refl _) ?_⟩;show Srt _ (pairsOf vs).toList;rw[pairsOf_toList]
  match vs,hsz,l with
  |[],_,_=>exact .nil
  |[_],_,_=>exact .cons (λ_ h=>nomatch h) .nil
  |_:: _:: _,_,l=>simp at l;omega
 ·rw[zE l,zE l];refine zA (a9 (s':={s with heap:=f,toks:=s.toks}) n ⋯ ?_);refine zA (yF (a5 (κ:=iF f d0) (kd:=kd) (a₀:=pairsOf vs) (st:=SortSt.mk' kd (vs.toArray.zip vs.toArray) #[] 7 none)
   (Q:=λ_ d=>(arrOf d).Perm (pairsOf vs)/\failedOf d=none/\Up (iF f d0) (arrOf d) 0 (pairsOf vs).size) (pairsOf_size _) ⋯ (g (s':={s with heap:=f,toks:=s.toks})) (λx L=>?_) rfl rfl rfl rfl λd _ b3 a7 b2=>⟨a7,b3,b2⟩) ?_ λ_ _ e=>e)
  ·rw[pairsOf_toList]at L;have e:=aY L;have N:x.2∈vs:=(uT (a:=x.1) (b:=x.2) L).2;obtain⟨p,_,i⟩:=aZ S x.2 N;obtain⟨as,r⟩:=i.d.reads n i.r;exact⟨fl p.2,by rw[e];exact Fh i.t i.z r⟩
  rintro⟨⟨⟩,d⟩ s' ⟨rfl,C,b0,up⟩;dsimp only;refine zA (seqEpoch_at D rfl ?_);refine zA (listUpdate_at D rfl ?_ (yD _) (by refine zR (tY ((Array.size_map ..).trans (C.size_eq.trans (pairsOf_size _)))) ?_;omega));rw[b0];simp only[bne_self_eq_false,Bool.false_eq_true,if_false];refine zB ⟨_,rfl,G d C ?_⟩;have:=Ph up
  rwa[Pe (by rw[vM];exact C.size_eq)]at this
theorem Pc{ps:List (V×PyData)}{Q:SortKind->Shared->Prop}(t:d0=.tuple (.tuple l1:: l0))(g:Paired (TV X.K H d0) ps vs)(y:Inv X pins σ H s)(J:2<=vs.length)(q:Q (tuples' false) s):wpAny (model X.prog X.w) A (keyKind' vs.toArray) Q E s:=by
 have G:∀{ps:List (V×PyData)}{vs:LW},Paired (TV X.K H d0) ps vs->∃fs,PySem.W.KatTups s.heap vs fs/\fs.length=vs.length/\∀v∈fs,∃b o,v=.ref b/\s.heap.get? b=some o/\o.cls=.type "tuple" := by
  intro ps vs g
  induction g with
  |nil=>exact⟨[],PySem.W.KatTups.nil,rfl,λ_ h=>nomatch h⟩
  | @cons p v ps vs f _ j =>
   obtain⟨fs,k,l,F⟩:=j;obtain⟨as,r⟩:=f.d.reads y f.r;have z:=f.z;rw[t]at z;generalize p.2=dd at*
   cases r <;> simp only[sm,Bool.false_eq_true]at z
   case tuple b o us m xs hg d hd hr =>
    cases xs with
    |nil=>simp[smA]at z
    | cons x xs =>
     simp only[smA,Bool.and_eq_true]at z;cases hr0:us.toList with
     |nil=>rw[hr0]at hr;cases hr
     | cons u K =>
      rw[hr0]at hr;cases hr with
      | cons I M =>
       have w:=z.1;cases I <;> simp only[sm,Bool.false_eq_true]at w
       case tuple b2 o2 us2 m2 xs2 hg2 hc2 hd2 hr2 =>
        refine⟨.ref b2:: fs,PySem.W.KatTups.cons hg d hd ?_ k,by simp[l],λv c=>?_⟩
        ·rw[←uE,hr0];rfl
        ·rcases yQ.mp c with e|c
         ·exact⟨b2,o2,e,hg2,hc2⟩
         ·exact F v c
 obtain⟨fs,C,L,i⟩:=G g;refine PySem.W.kat_kind (s:=s) (T:=.type "tuple") C ⋯ (λv c=>?_) rfl ?_
 ·obtain⟨b,o,rfl,n,d⟩:=i v c;exactλA Q E s k q=>uB (T:= "tuple") ⟨o,k _ _ n,d⟩ q
 have D:(Value.type "tuple" != Value.type "tuple")=false:=∅
 rw[D];exact q
end
abbrev Asc(ps:List (V×PyData)):Prop:=ps.Pairwise λp q=>lx (fl q.2) (fl p.2)=false
section
variable {X:Cx} {pins:PN} {σ:St} {H:Hp} {s:Shared} {d0:PyData} {l0 l1:List PyData}
theorem Pb{N:Nat}{kd:SortKind}(k:∀n,n<=N->gR X.prog X.w n)(C:X.A.units+64<cLine){ps:List (V×PyData)}{its:LW}{v:Value}{Q:VK}(i:its.length<=sizeLine)(m:its.length<=N)(w:∀{s':Shared}{Q:SortKind->Shared->Prop}{E:VP},Inv X pins σ H s'->2<=its.length->Q kd s'->wpAny (model X.prog X.w) X.A.in1.in1 (keyKind' its.toArray) Q E s')(u:∀{s':Shared},Cmp X.prog X.w X.A.in1.in1 s' (iF s'.heap d0) kd)(x:Paired (TV X.K H d0) ps its)
  (j:∀(g:LW->Shared->Prop)(r:VP),(∀s',Inv X pins σ H s'->g its s')->wpAny (model X.prog X.w) X.A.in1 (collect v) g r s)
  (h:∀q(a:List (V×PyData)) H',Same H H'->H q=none->H' q=some (.lst (a.map (·.1)))->a.Perm ps->Asc a->Q (.ref q) H'):
  wpAny (model X.prog X.w) X.A (call (.builtin "sorted") [v]) (EP X pins σ Q) X.xe s:=by
 refine Calls.call_function_entry kind_sorted plain_sorted entry_sorted (args_sorted1 _) ?_;unfold Builtin.«sorted»;refine zA (m:=checkCount "sorted" 1 1 _) (zB ?_);refine zA (j _ _ λs' I=>?_);refine zA (wpAny_newList ?_ i);have f:(s'.heap.push (seqObj "list" its.toArray 0)).get? s'.heap.objs.size=some (seqObj "list" its.toArray 0):=zN _ rfl;have d:H s'.heap.objs.size=none:=I.hok.fresh (zF _);have t:=I.fpOk (zF _) d;have y:Inv X pins σ H {s' with heap:=s'.heap.push (seqObj "list" its.toArray 0),toks:=s'.toks}:=I.kept λb o q=>zC _ q;refine zA (yL (xL slot_list_sort ⟨_,f,rfl⟩ entry_list_sort ?body (args_list_sort _)));show wpAny (model X.prog X.w) X.A.in1.in1 (Builtin.«list.sort» ⟨[.ref s'.heap.objs.size],[]⟩) _ _ {s' with heap:=s'.heap.push (seqObj "list" its.toArray 0),toks:=s'.toks};refine Pd (k _ m) (A:=X.A.in1.in1) (by show X.A.units+1+1+16<cLine;omega) y t f i (λc l q=>w c l q) u x λa H' z c sm e p o=>?_;exact zB ⟨_,rfl,.ref s'.heap.objs.size,H',c,rfl,h _ a H' sm d e p o⟩
theorem Pa{N:Nat}(f:∀n,n<=N->gR X.prog X.w n)(k:X.A.units+64<cLine){ps:List (V×PyData)}{its:LW}{v:Value}{Q:VK}(j:its.length<=sizeLine)(g:its.length<=N)(d:d0=.tuple (.tuple l1:: l0))(c:Paired (TV X.K H d0) ps its)
  (e:∀(b:LW->Shared->Prop)(i:VP),(∀s',Inv X pins σ H s'->b its s')->wpAny (model X.prog X.w) X.A.in1 (collect v) b i s)
  (h:∀q(a:List (V×PyData)) H',Same H H'->H q=none->H' q=some (.lst (a.map (·.1)))->a.Perm ps->Asc a->Q (.ref q) H'):
  wpAny (model X.prog X.w) X.A (call (.builtin "sorted") [v]) (EP X pins σ Q) X.xe s:=
 Pb f k j g (λm l q=>Pc d c m l q) (cmpT (by show X.A.units+1+1+16<cLine;omega) ⟨_,d⟩) c e h
end
def RawD(h:Heap)(d:Addr)(es:Array DictEntry)(ep:Nat):Prop:=∃o,h.get? d=some o/\o.ExactDict/\o.data=.dict es ep
theorem RawD.at{h h':Heap}{d:Addr}{es:Array DictEntry}{ep:Nat}(x:RawD h d es ep)(e:∀o,h.get? d=some o->h'.get? d=some o):RawD h' d es ep:=let ⟨o,a,r⟩:=x;⟨o,e _ a,r⟩
section
variable {prog:Program} {w:World} {A:Around} {E:VP} {s:Shared} {d it:Addr} {es:Array DictEntry} {ep i:Nat}
theorem RawD.typeIs(x:RawD s.heap d es ep):s.TypeIs (.ref d) "dict" := let ⟨o,b,a,_⟩:=x;⟨o,b,a.1⟩
theorem Qz{Q:VP}(g:(d == sysModules)=false)(e:RawD s.heap d es ep)
  (f:Q (.ref s.heap.objs.size) {s with heap:=s.heap.push {cls:=.type "dict_keyiterator",data:=.fields #[.ref d,.int 0 0,.int es.size 0,.int ep 0]}}):wpAny (model prog w) A (pyIter (.ref d)) Q E s:=by
 obtain⟨o,c,j,b⟩:=id e;have a:=e.typeIs;refine wpAny_pyIter_slot a PySem.F.slot_dict_iter (xL PySem.F.slot_dict_iter a PySem.F.entry_dict_iter ?_ (PySem.F.args_dict_iter_1 _));unfold Builtin.«dict.__iter__»;refine zA ?_;unfold Builtin.Dict.dictSlotNone;refine zA (wpAny_notOrdered_dict a ?_);show wpAny _ _ (pure (Value.ref d)) _ _ s;refine zB ?_;show wpAny _ _ (Builtin.Dict.showsAll d >>= _) _ _ s;unfold Builtin.Dict.showsAll;rw[zE (by rw[g];exact zZ)];refine zA (zB ?_);refine zA (rM c b ?_);refine zA (qB c b ?_);exact zA (xA (zB ⟨_,rfl,"dict_keyiterator",_,⟨_,zN _ rfl,rfl⟩,PySem.F.slot_dict_keyiterator_next.lookup,f⟩))
theorem Qy{Q:Option Value->Shared->Prop}(a:s.heap.IsKeyIter it d i es.size ep)(m:RawD s.heap d es ep)(hi:i<es.size)
  (k:∀h',h'.IsKeyIter it d (i+1) es.size ep->Heap.SameBut it s.heap h'->Q (some es[i].key) {s with heap:=h'}):wpAny (model prog w) A (pyNext (.ref it)) Q E s:=by
 obtain⟨o,c,j,b⟩:=id a;obtain⟨od,g,n,e⟩:=id m;unfold pyNext;refine zA (wJ (xO (name:=Str.ofString "__next__") a.typeIs xX
  (xL xX a.typeIs PySem.F.entry_dict_keyiterator_next ?_ (PySem.F.args_dict_keyiterator_next_1 _))))
 refine zA (zB ?_);refine zA ?_;refine zA ?_
 first|refine zA (wK a.typeIs (zB ?_))|refine zA (vI a.typeIs (zB ?_))
 refine zA (wpAny_fieldsOf c b ?_);have l:Builtin.Dict_items.ownsTuple "dict_keyiterator"=false:=∅
 simp only[l,Bool.false_eq_true,if_false];show wpAny _ _ (if(Value.ref d == Value.none)=true then _ else _) _ _ s;rw[zE (show¬ ((Value.ref d == Value.none)=true) from zZ)];refine zA (zB ?_);refine zA (rM g e ?_);rw[zE (by simp)];refine zA (zB ?_);refine zA (qB g e ?_);rw[zE (by simp)];refine zB ?_;simp only[show¬ ((i:Int)<0) from⋯,if_false,Int.toNat_natCast,Array.getElem?_eq_getElem hi];refine zA ?_
 first|refine zA (wK a.typeIs (zB ?_))|refine zA (vI a.typeIs (zB ?_))
 refine zA (wpAny_isOneOf_keyiter a.typeIs ?_);show wpAny _ _ (setField (.ref it) 1 (rawInt ((i:Int)+1)) >>= _) _ _ s;refine zA (wQ c b (by simp) ?_);have f:(s.heap.update it (Obj.mapFields (·.setIfInBounds 1 (rawInt ((i:Int)+1))))).IsKeyIter it d (i+1) es.size ep:=
  ⟨_,yT _ c (uD (wC b _)),(rK ..).trans j,by rw[wC b];simp[rawInt]⟩
 refine zA (yL ?_);refine zA (wpAny_isOneOf_keyiter (s:={s with heap:=s.heap.update it (Obj.mapFields (·.setIfInBounds 1 (rawInt ((i:Int)+1))))}) f.typeIs ?_);show wpAny _ _ (pure es[i].key) _ _ _;exact zB (zB ⟨_,rfl,zB (k _ f (wN ..))⟩)
theorem Qx{Q:Option Value->Shared->Prop}(hh:A.handled=none)(a:s.heap.IsKeyIter it d es.size es.size ep)(k:RawD s.heap d es ep)
  (g:∀h',Heap.ExtBut it s.heap h'->Q none {s with heap:=h'}):wpAny (model prog w) A (pyNext (.ref it)) Q E s:=by
 obtain⟨o,c,l,f⟩:=id a;obtain⟨od,e,m,b⟩:=id k;unfold pyNext;refine zA (wJ (xO (name:=Str.ofString "__next__") a.typeIs xX
  (xL xX a.typeIs PySem.F.entry_dict_keyiterator_next ?_ (PySem.F.args_dict_keyiterator_next_1 _))))
 refine zA (zB ?_);refine zA ?_;refine zA ?_
 first|refine zA (wK a.typeIs (zB ?_))|refine zA (vI a.typeIs (zB ?_))
 refine zA (wpAny_fieldsOf c f ?_);have j:Builtin.Dict_items.ownsTuple "dict_keyiterator"=false:=∅
 simp only[j,Bool.false_eq_true,if_false];show wpAny _ _ (if(Value.ref d == Value.none)=true then _ else _) _ _ s;rw[zE (show¬ ((Value.ref d == Value.none)=true) from zZ)];refine zA (zB ?_);refine zA (rM e b ?_);rw[zE (by simp)];refine zA (zB ?_);refine zA (qB e b ?_);rw[zE (by simp)];refine zB ?_;simp only[show¬ ((es.size:Int)<0) from⋯,if_false,Int.toNat_natCast,Array.getElem?_eq_none (Nat.le_refl _)];refine zA ?_
 first|refine zA (wK a.typeIs (zB ?_))|refine zA (vI a.typeIs (zB ?_))
 show wpAny _ _ (setField (.ref it) 0 .none >>= _) _ _ s;refine zA (wQ c f (by simp) ?_);show wpAny _ _ (newExc (.type "StopIteration") [] >>= _) _ _ _;refine zA ?_;simp only[newExc,newTuple];refine zA (xA ?_ (by size_fits));refine zA (m:=firstArgMember _ _) (wpAny_of_eq (a:=Value.none) (by first|rfl|(simp only[firstArgMember];rfl)) ?_);refine xA ?_ (by size_fits);simp only[raiseNew];refine zA (wpAny_handled ?_);rw[show A.in1.handled=none from hh];refine zA (zB (wpAny_throw ?_));refine zA (vG (T:= "StopIteration") (b:=true) ⟨_,zN _ rfl,rfl⟩ qG ?_);exact zB (g _ (((wN ..).extBut.push _).push _))
theorem Qw(hh:A.handled=none)(I d:Addr)(j:d≠I)(es:Array DictEntry)(ep:Nat):
  Walks prog w A I [I,d] [I] es.size (λi v=>(es[i]?).map (·.key)=some v) (λi h=>h.IsKeyIter I d i es.size ep/\RawD h d es ep) where
 sub:=λb a=>by simp at a;simp[a]
 frame:=λ_ _ _ st g=>⟨st.1.at λo e=>g I (by simp) o e,st.2.at λo e=>g d (by simp) o e⟩
 item:=λi s Q E hi st c=>by
  refine Qy st.1 st.2 hi λh' l f=>?_;exact c _ h' s.toks (by simp[hi]) ⟨l,st.2.at λo e=>(f.2 d j).trans e⟩ λb o a e=>(f.2 b (λh=>a (by simp[h]))).trans e
 done:=λs Q E st c=>Qx hh st.1 st.2 λh' k=>c h' s.toks λb o a e=>k b o (λh=>a (by simp[h])) e
 self:=λ_ _ _ _ st c=>wpAny_pyIter_keyiter st.1 c
theorem Qv:typeLookup (.type "dict") "__len__"=pure (some (.builtin "dict.__len__")):=PySem.F.slot_dict_len.lookup
theorem Qu{Q:LW->Shared->Prop}(hh:A.handled=none)(U:(d == sysModules)=false)(c:RawD s.heap d es ep)(N:es.size<=sizeLine)
  (h:∀h' tk,(∀b o,s.heap.get? b=some o->h'.get? b=some o)->Q (es.toList.map (·.key)) {s with heap:=h',toks:=tk}):wpAny (model prog w) A (collect (.ref d)) Q E s:=by
 obtain⟨o,O,X,W⟩:=id c;have q:@LT.lt Nat _ d s.heap.objs.size:=zL O;unfold collect;refine zA (wpAny_runValue (uS PySem.F.entry_proto_collect ?_));rw[uG PySem.F.plain_proto_collect _];show wpAny _ A.in1 (newList [] >>= λl=>again (.builtin "list.__iadd__" ⟨[l,.ref d],[]⟩)) _ _ s;refine zA (xA ?_);refine zB ⟨rE PySem.F.plain_list_iadd _,uS PySem.F.entry_list_iadd ?_⟩;rw[uG PySem.F.plain_list_iadd _];have R:(s.heap.push {cls:=.type "list",data:=.seq ([]:LW).toArray}).get? s.heap.objs.size=some {cls:=.type "list",data:=.seq ([]:LW).toArray}:=zN _ rfl;have t:RawD (s.heap.push {cls:=.type "list",data:=.seq ([]:LW).toArray}) d es ep:=c.at λo e=>zC _ e;have k1:∀b o,s.heap.get? b=some o->(s.heap.push {cls:=.type "list",data:=.seq ([]:LW).toArray}).get? b=some o:=λb o e=>zC _ e;have p:(s.heap.push {cls:=.type "list",data:=.seq ([]:LW).toArray}).objs.size=s.heap.objs.size+1:=size_push' _ _;show wpAny _ A.in1 (Builtin.List.listExtendWith (.ref s.heap.objs.size) (.ref d) (.ref s.heap.objs.size)) _ _ {s with heap:=s.heap.push {cls:=.type "list",data:=.seq ([]:LW).toArray}};generalize s.heap.push {cls:=.type "list",data:=.seq ([]:LW).toArray}=a at*
 unfold Builtin.List.listExtendWith;refine zA (uB (s:={s with heap:=a}) (T:= "dict") (RawD.typeIs (s:={s with heap:=a}) t) ?_);have e1:Builtin.List.listSameRef (.ref s.heap.objs.size) (.ref d)=false:=by simp only[Builtin.List.listSameRef,beq_eq_false_iff_ne];exact zS (zU q)
 rw[zE (by rw[e1];decide)];refine zA (Qz (s:={s with heap:=a}) U t ?_);have n:RawD (a.push {cls:=.type "dict_keyiterator",data:=.fields #[.ref d,.int 0 0,.int es.size 0,.int ep 0]}) d es ep:=t.at λo e=>zC _ e;have M:(a.push {cls:=.type "dict_keyiterator",data:=.fields #[.ref d,.int 0 0,.int es.size 0,.int ep 0]}).IsKeyIter a.objs.size d 0 es.size ep:=⟨_,zN _ rfl,rfl,rfl⟩;have F:(a.push {cls:=.type "dict_keyiterator",data:=.fields #[.ref d,.int 0 0,.int es.size 0,.int ep 0]}).get? s.heap.objs.size=_:=zC _ R;have k2:∀b o,a.get? b=some o->(a.push {cls:=.type "dict_keyiterator",data:=.fields #[.ref d,.int 0 0,.int es.size 0,.int ep 0]}).get? b=some o:=λb o e=>zC _ e;generalize a.push {cls:=.type "dict_keyiterator",data:=.fields #[.ref d,.int 0 0,.int es.size 0,.int ep 0]}=f at*
 refine zA (yL ?_);unfold Builtin.List.listLengthHint;refine zA (wpAny_specialOf (s:={s with heap:=f}) (RawD.typeIs (s:={s with heap:=f}) n) Qv ?_);generalize hid:("dict.__len__" :String)=D
 (fail_if_success (clear hid D))
 wp_delta
 rw[show splitId D=some ("dict","__len__") from by subst hid;decide +kernel];subst hid;refine zA (vG (b:=true) (RawD.typeIs (s:={s with heap:=f}) n) (by rw[isSubtype_type];kernel_rfl) ?_);refine zA (uB (s:={s with heap:=f}) (T:= "dict") (RawD.typeIs (s:={s with heap:=f}) n) ?_);refine zB ?_;rw[zG ∅];refine zA (uH ?_);refine zA ?_;show wpAny _ A.in1 (updateSeq s.heap.objs.size (·.push .none) >>= λ_=>updateSeq s.heap.objs.size (·.pop)) _ _ _;refine zA (wpAny_updateSeq F rfl ?_);have u:=yT (Obj.mapSeq (·.push Value.none)) F rfl;refine wpAny_updateSeq u rfl ?_;have K:=yT (Obj.mapSeq (·.pop)) u rfl;have I:d≠a.objs.size:=zU (by rw[p];exact rJ q);have x:s.heap.objs.size≠a.objs.size:=by rw[p];exact zU (tW _)
 have C:s.heap.objs.size≠d:=zS (zU q);have r:∀b o,b≠s.heap.objs.size->f.get? b=some o->((f.update s.heap.objs.size (Obj.mapSeq (·.push Value.none))).update s.heap.objs.size (Obj.mapSeq (·.pop))).get? b=some o:=
  λb o k e=>(xB _ _ (zS k)).trans ((xB _ _ (zS k)).trans e)
 have T:=(Qw (prog:=prog) (w:=w) (A:=A.in1) hh a.objs.size d I es ep).toS;refine zB ⟨rE PySem.F.plain_extend_loop _,codeAny_extend_loopS T N s.heap.objs.size (λc=>by rcases yQ.mp c with z|z;exact x z;exact C (qX.mp z)) _ es.size 0 _ _ _ rfl (yD _)
  ⟨M.at λo e=>r _ _ (zS x) e,n.at λo e=>r _ _ (zS C) e⟩ K (ItemsOf.nil _) λs' m V c J y=>?_⟩
 show wpAny _ A (load s.heap.objs.size >>= _) _ _ s';refine zA (wpAny_load J ?_);have G:m.toList=es.toList.map (·.key):=by
  apply rG
  intro j;rw[zD,uE,uE];cases hj:m[j]? with
  |some v=>exact(y.2 j v hj).symm
  |none =>
   have:m.size<=j:=Array.getElem?_eq_none_iff.mp hj;rw[Array.getElem?_eq_none (by rw[←y.1];exact this)];rfl
 show wpAny _ _ (pure m.toList) Q E s';rw[G];have S:s'={s with heap:=s'.heap,toks:=s'.toks}:=by
  obtain⟨_,g,L,P,_⟩:=c;cases s';cases g;cases L;cases P;rfl
 rw[S];refine zB (h _ _ λb o e=>c.heap b o ?_ (r b o ?_ (k2 _ _ (k1 _ _ e))))
 ·have k:@LT.lt Nat _ b s.heap.objs.size:=zL e;intro c;rcases yQ.mp c with z|z
  ·exact absurd z (zU k)
  ·rw[qX.mp z,p]at k;exact absurd k (Nat.not_lt.mpr (tQ _))
 ·exact zU (zL e)
end
def Qt(K:Frag)(N:Nat):List V->Hp->VK->Prop:=λxs H Q=>∃(a:Addr)(kvs:List (PyData×V))(l0 l1:List PyData),xs=[.ref a]/\kvs.length<=N/\DTr K H a kvs/\(∀kv∈kvs,sm (.tuple (.tuple l1:: l0)) kv.1=true) /\
 ∀q(ps':List (V×PyData)) H',Same H H'->H q=none->H' q=some (.lst (ps'.map (·.1)))->(∀p∈ps',tT 4 p.2=true/\Dt K H p.1 p.2)->(ps'.map (·.2)).Perm (kvs.map (·.1))->Asc ps'->Q (.ref q) H'
section
variable {X:Cx}
theorem Qs{N:Nat}(J:∀n,n<=N->gR X.prog X.w n)(T:X.A.units+64<cLine)(P:X.calm=true):mI X (.builtin "sorted") (Qt X.K N):=by
 intro a5 s a6 H xs us Q I r h;obtain⟨a,kvs,i,l1,rfl,a8,g,c,q⟩:=h;obtain⟨u,rfl,L⟩:=kZ r;cases L;obtain⟨xs,e,d,dd⟩:=gA I g;obtain⟨o,es,ep,Y,K,C,j,_⟩:=id dd;have a7:=g.len;have U:RawD s.heap a es ep:=⟨o,Y,K,C⟩;have M:es.toList.map (·.key)=xs.map λx=>Value.ref x.2.1:=by rw[j,yW];rfl
 have a0:∀{kvs:List (PyData×V)}{xs:List (PyData×Addr×Value)},KP X.K H kvs xs->(∀f∈kvs,sm (.tuple (.tuple l1:: i)) f.1=true)->Paired (TV X.K H (.tuple (.tuple l1:: i))) (xs.map λx=>(V.ref x.2.1,x.1)) (xs.map λx=>Value.ref x.2.1)/\(xs.map (·.1))=kvs.map (·.1):=by
  intro kvs xs d
  induction d with
  |nil=>intro _;exact⟨.nil,rfl⟩
  |@cons p q ps a9 b b1 F =>
   intro c;obtain⟨W,R⟩:=F λf Z=>c f (.tail _ Z);have z:=c p (.head _);rw[b.1]at z;have l:=b.2.1.1;have t:=b.2.1.2;rw[b.1]at l t;refine⟨.cons ⟨rfl,l,z,t⟩ W,?_⟩;rw[zH,zH,R,b.1]
 obtain⟨k,y⟩:=a0 d c;have b2:xs.length=kvs.length:=by have:=wE List.length y;simpa using this
 have le:es.size=xs.length:=by have:=wE List.length j;simpa using this
 refine Pa J T (d0:=.tuple (.tuple l1:: i)) (its:=xs.map λx=>Value.ref x.2.1) (ps:=xs.map λx=>(V.ref x.2.1,x.1)) (by rw[yN];omega) (by rw[yN];omega) rfl k (λb0 b3 a2=>?_) λS a1 H' O D a4 m as=>?_
 ·refine Qu (I.ok.hd P) g.sys U ⋯ λh' tk G=>?_;rw[M];exact a2 _ (I.kept (t':=tk) G)
 ·refine q S a1 H' O D a4 (λp a3=>?_) ?_ as
  ·obtain⟨v,_,w⟩:=Paired.mem k p (m.mem_iff.mp a3);exact⟨w.t,w.d⟩
  ·have:=m.map (·.2);rw[yW]at this;rw[←y];exact this
end
open Sem (wp)
theorem Qr:typeLookup (.type "list") (Str.ofString "keys")=pure none:=am_miss_of_fast (by kernel_rfl)
theorem Qq:typeLookup (.type "list") "__getattr__"=pure none:=by rw[typeLookup_type,builtinLookup_eq_fast];kernel_rfl
section
variable {prog:Program} {w:World} {A:Around} {E:VP} {h:Heap} {g:Array GenState} {d:Drawn} {t:Nat} {os:OsState} {a:Addr} {o:Obj}
theorem Qp{tk:Tok}{Q:PySem.Fin->Shared->Prop}(hh:A.handled=none)(c:h.get? a=some o)(b:o.cls=.type "list")(f:o.dict=none){xs:Array Value}{n:Nat}(i:o.data=.seq xs n)(j:∀h' tk e,Heap.NewAttrErr h h' e (.ref a) (Str.ofString "keys")->E (.ref e) ⟨h',g,d,tk,os⟩):
  wpAny (model prog w) A (Builtin.«object.__getattribute__» ⟨[.ref a,.str (Str.ofString "keys") tk],[]⟩) Q E ⟨h,g,d,t,os⟩:=by
 have l:(⟨h,g,d,t,os⟩:Shared).TypeIs (.ref a) "list" := ⟨_,c,b⟩;have k:=Qr;unfold Builtin.«object.__getattribute__»
 repeat (any_goals (first|assumption|wp_step))
 rw[i];dsimp only;unfold instanceDict
 repeat (any_goals (first|assumption|wp_step))
 rw[b,f];dsimp only;simp only[Bool.not_false,Bool.true_or,if_true]
 repeat (any_goals (first|assumption|wp_step))
 exact wpAny_raiseAttrError hh j (attrMsg_fits (nofun) (by size_fits))
theorem Qo{Q:Option Value->Shared->Prop}(hh:A.handled=none)(c:h.get? a=some o)(f:o.cls=.type "list")(k:o.dict=none){xs:Array Value}{n:Nat}(l:o.data=.seq xs n)(m:∀h' tk,(∀b i,h.get? b=some i->h'.get? b=some i)->Q none ⟨h',g,d,tk,os⟩):
  wpAny (model prog w) A (getAttr? (.ref a) (Str.ofString "keys")) Q E ⟨h,g,d,t,os⟩:=by
 have j:∀t,(⟨h,g,d,t,os⟩:Shared).TypeIs (.ref a) "list" := λt=>⟨_,c,f⟩;have u:(⟨h,g,d,t+1,os⟩:Shared).TypeIs (.ref a) "list" := ⟨_,c,f⟩;have v:=sub_AttributeError;have z:=PySem.F.slot_list_getattribute.lookup;have q:=PySem.F.slot_list_getattribute.bind (.ref a);have x:=Qq;unfold getAttr? getAttrBy?;refine zA (qJ ?_);refine zA (wJ ?_);unfold getAttrBy
 repeat (any_goals (first|assumption|((with_reducible show wpAny _ _ (call (Value.builtin "list.__getattribute__") _ _) _ _ _);refine xL PySem.F.slot_list_getattribute (j _) PySem.F.entry_list_ga (Qp hh c f k l λh' p e c=>?_) (PySem.F.args_list_getattribute_2 _ _))|wp_step))
 obtain⟨t',r,y⟩:=c.there
 repeat (any_goals (first|assumption|wp_step))
 exact m _ _ c.keeps
end
theorem cH:plainId "dict.update.loop"=true:=nofun
theorem Ff:entryFor table "dict.update.loop"=some Builtin.«dict.update.loop»:=entryFor_of_fast (by kernel_rfl)
structure Ent where
 p:Addr
 k:PyData
 b:Addr
 v:Value
def Ent.ok(h:Heap)(t:Ent):Prop:=(∃o n,h.get? t.p=some o/\o.cls=.type "tuple" /\ o.data=.seq #[.ref t.b,t.v] n)/\isT h t.k t.b
theorem Ent.up{h h':Heap}{e:Ent}(x:e.ok h)(a:∀b o,h.get? b=some o->o.cls=.type "tuple" -> h'.get? b=some o):e.ok h':=by
 obtain⟨⟨o,n,f,d,i⟩,c,as,g⟩:=x;exact⟨⟨o,n,a _ _ f d,d,i⟩,c,as,aX a 4 c g⟩
def putP(xs:List (PyData×Addr×Value))(t:Ent):List (PyData×Addr×Value):=storedH xs t.k t.b t.v
theorem Qn(xs:List (PyData×Addr×Value))(k:PyData)(b:Addr)(v:Value):(storedH xs k b v).length<=xs.length+1:=by
 unfold storedH;split <;> simp
section
variable {prog:Program} {w:World} {A:Around} {R:Result->Shared->Prop} {d it l:Addr} {items:Array Value}
theorem Fe(hh:A.handled=none)(a8:A.units+32<cLine)(t:d≠it)(M:d≠l)(P:l≠it):
  ∀(rest:List Ent)(i:Nat)(xs:List (PyData×Addr×Value))(s:Shared),(∀j,items[i+j]?=rest[j]?.map λa=>Value.ref a.p)->s.heap.IsListIter it l i->s.heap.IsList l items->s.heap.DictOfH (lP prog w) d xs->(∀a∈rest,a.ok s.heap)->xs.length+rest.length<=sizeLine ->
  (∀h' tk,(∀b o,b≠it->b≠d->s.heap.get? b=some o->h'.get? b=some o)->h'.DictOfH (lP prog w) d (rest.foldl putP xs)->R (.ok (.ret .none)) {s with heap:=h',toks:=tk}) ->
  codeAny (model prog w) A (.builtin "dict.update.loop" ⟨[.ref d,.ref it,.int i 0,.none],[]⟩) R s
 | [],i,xs,s,p,m,hl,K,_,_,D=>by
  refine uS Ff ?_;rw[uG cH _];show wpAny _ A.in1 (pyNext (.ref it) >>= _) _ _ s;refine zA (wpAny_pyNext_list_end (i:=i) hh m hl (by simpa using p 0) λh' G=>?_);show wpAny _ _ (Builtin.Dict.addKeywords d [] >>= _) _ _ _;refine zA (zB (zB ?_));obtain⟨o,es,ep,c,F⟩:=K;exact D h' s.toks (λb o Y _ e=>G b o Y e) ⟨o,es,ep,G d o t c,by
   obtain⟨f,v,C,I,u⟩:=F;refine⟨f,v,C,λx y=>?_,u⟩;obtain⟨a,as,r⟩:=I x y;refine⟨a,as,aX (λb o e g=>G b o (λz=>?_) e) 4 a r⟩;obtain⟨b5,e1,a4,_⟩:=m;rw[z,e1]at e;cases e;rw[a4]at g;simp at g⟩
 | a:: rest,i,xs,s,p,m,hl,K,a1,S,D=>by
  refine uS Ff ?_;rw[uG cH _];show wpAny _ A.in1 (pyNext (.ref it) >>= _) _ _ s;have V:items[i]?=some (.ref a.p):=by simpa using p 0
  refine zA (wpAny_pyNext_list_item (i:=i) m hl V λc Z q=>?_);obtain⟨b5,a5,a0,_⟩:=id m;have O:∀b o,s.heap.get? b=some o->o.cls=.type "tuple" -> c.get? b=some o:=λb o e g=>(q.2 b (λz=>by rw[z,a5]at e;cases e;rw[a0]at g;simp at g)).trans e;have N:c.DictOfH (lP prog w) d xs:=by
   obtain⟨o,es,ep,k,f,v,C,I,u⟩:=K;exact⟨o,es,ep,(q.2 d t).trans k,f,v,C,λx y=>let ⟨a,as,r⟩:=I x y;⟨a,as,aX O 4 a r⟩,u⟩
  have a2:c.IsList l items:=by
   obtain⟨o,k,f⟩:=hl;exact⟨o,(q.2 l P).trans k,f⟩
  have T:∀t'∈a:: rest,t'.ok c:=λt' J=>Ent.up (a1 t' J) O;obtain⟨⟨op,b8,L,a9,X⟩,a7⟩:=T a (.head _);refine zA (yL ?_);have a6:xs.length<=sizeLine:=by
   have:=S;simp only[List.length_cons]at this;omega
  refine zA (wpAny_tryCatch ?_);unfold Builtin.Dict.pairItems;refine zA (uB (s:={s with heap:=c}) (T:= "tuple") ⟨op,L,a9⟩ ?_);rw[zG ∅];refine zA (xW (s:={s with heap:=c}) L X (zB ?_));show wpAny _ A.in1 (holding [.ref a.b,a.v] (dictSet d (.ref a.b) a.v)) _ _ _;refine yL ?_;refine wpAny_dictSet_heap (knd:=lP prog w) (s:={s with heap:=c}) (hsz:=a6) (show A.units+1+8<cLine by omega) a7 N λF b3 n=>?_;obtain⟨b9,c2,c1,a3,b7,c0,_⟩:=id N;have b6:∀b o,c.get? b=some o->o.cls=.type "tuple" -> F.get? b=some o:=λb o e g=>(n.2 b (λz=>by rw[z,a3]at e;cases e;rw[b7.1]at g;simp at g)).trans e;refine zB ⟨rE cH _,?_⟩;have b0:(rawInt ((i:Int)+1))=.int ((i+1:Nat):Int) 0:=rfl;rw[b0];refine Fe hh a8 t M P rest (i+1) (storedH xs a.k a.b a.v) _ (λj=>?_) ?_ ?_ b3 (λt' J=>Ent.up (T t' (.tail _ J)) b6) ?_ λW U k3 b4=>?_
  ·have:=p (j+1);rw[List.getElem?_cons_succ]at this;rw[←this];congr 1;omega
  ·obtain⟨o,k,f⟩:=Z;exact⟨o,(n.2 it (zS t)).trans k,f⟩
  ·obtain⟨o,k,f⟩:=a2;exact⟨o,(n.2 l (zS M)).trans k,f⟩
  ·have:=Qn xs a.k a.b a.v;have:=S;simp only[List.length_cons]at this;omega
  ·exact D W U (λb o b1 b2 e=>k3 b o b1 b2 ((n.2 b b2).trans ((q.2 b b1).trans e))) b4
end
section
variable {prog:Program} {w:World} {A:Around} {E:VP} {s:Shared} {l:Addr}
theorem Qm{Q:VP}{es:List Ent}{o:Obj}{n:Nat}(hh:A.handled=none)(X:A.units+48<cLine)(d:s.heap.get? l=some o)(f:o.cls=.type "list")(D:o.dict=none)(k:o.data=.seq (es.map λc=>Value.ref c.p).toArray n)(M:∀c∈es,c.ok s.heap)(P:es.length<=sizeLine)
  (h:∀h' tk,(∀b o,s.heap.get? b=some o->h'.get? b=some o)->h'.DictOfH (lP prog w) s.heap.objs.size (es.foldl putP [])->Q (.ref s.heap.objs.size) {s with heap:=h',toks:=tk}):
  wpAny (model prog w) A (call (.type "dict") [.ref l]) Q E s:=by
 have v:@LT.lt Nat _ l s.heap.objs.size:=zL d;refine callType_codes (Q₁:=λq z=>q=.ref s.heap.objs.size/\z={s with heap:=s.heap.push {cls:=.type "dict",data:=.dict #[]}}) PySem.F.kt_called_dict (PySem.F.kt_typeCall_dict_1 _) PySem.F.entry_dict_init (kt_code_dict_new _ ⟨rfl,rfl⟩) ?_;rintro q z ⟨rfl,rfl⟩;have i:(s.heap.push {cls:=.type "dict",data:=.dict #[]}).DictOfH (lP prog w) s.heap.objs.size []:=Heap.DictOfH.new s.heap;have k1:∀b o,s.heap.get? b=some o->(s.heap.push {cls:=.type "dict",data:=.dict #[]}).get? b=some o:=λb o e=>zC _ e;have W:(s.heap.push {cls:=.type "dict",data:=.dict #[]}).objs.size=s.heap.objs.size+1:=size_push' _ _;generalize s.heap.push {cls:=.type "dict",data:=.dict #[]}=p at*
 have u:=Heap.DictOfH.typeIs (s:={s with heap:=p}) i;refine⟨u,PySem.F.args_dict_init_2 _ _,?_⟩;unfold Builtin.«dict.__init__»;refine zA ?_;unfold Builtin.Dict.selfAndRest;refine zA (wpAny_notOrdered_dict u ?_);show wpAny _ _ (pure (s.heap.objs.size,[Value.ref l])) _ _ _;refine zB ?_;show wpAny _ _ (Builtin.Dict.updateFrom "dict.__init__" s.heap.objs.size (.ref l) [] .none) _ _ {s with heap:=p};unfold Builtin.Dict.updateFrom;refine zA (uB (s:={s with heap:=p}) (T:= "list") ⟨o,k1 _ _ d,f⟩ ?_);rw[zG ∅];refine zA (Qo (A:=A.in1.in1) hh (k1 _ _ d) f D k λa y k2=>?_);rw[zG (by rfl)];refine zA (uH ?_);have K:a.IsList l (es.map λc=>Value.ref c.p).toArray:=⟨o,k2 _ _ (k1 _ _ d),f,n,k⟩;refine zA (tK (s:={s with heap:=a,toks:=y}) K ?_);have m:s.heap.objs.size+1<=a.objs.size:=by
  obtain⟨od,_,_,e,_⟩:=id i;exact(show @LT.lt Nat _ s.heap.objs.size a.objs.size from zL (k2 _ _ e))
 have k3:∀b o,a.get? b=some o->(a.push {cls:=.type "list_iterator",data:=.fields #[.ref l,.int 0 0]}).get? b=some o:=λb o e=>zC _ e;have C:(a.push {cls:=.type "list_iterator",data:=.fields #[.ref l,.int 0 0]}).IsListIter a.objs.size l 0:=⟨_,zN _ rfl,rfl,rfl⟩;show wpAny _ _ _ _ _ {s with heap:=a.push {cls:=.type "list_iterator",data:=.fields #[.ref l,.int 0 0]},toks:=y};generalize a.push {cls:=.type "list_iterator",data:=.fields #[.ref l,.int 0 0]}=I at*
 have g:∀b o,s.heap.get? b=some o->I.get? b=some o:=λb o e=>k3 _ _ (k2 _ _ (k1 _ _ e));refine zA (zB ?_);refine zB ⟨rE cH _,?_⟩;refine Fe (A:=A.in1) (items:=(es.map λc=>Value.ref c.p).toArray) hh (by show A.units+1+32<cLine;omega) (zU (zI (tW _) m)) (zS (zU v)) (zU (zI (rJ v) m)) es 0 [] _ (λj=>by simp) C
  ⟨o,g _ _ d,f,n,k⟩ ?_ (λc L=>Ent.up (M c L) λb o e _=>g b o e) (by simpa using P) λG O F T=>?_
 ·obtain⟨od,U,ep,e,r⟩:=id i;obtain⟨V,S,N,_,R⟩:=r;exact⟨od,U,ep,k3 _ _ (k2 _ _ e),V,S,N,λx J=>(nomatch J),R⟩
 ·refine⟨rfl,h G O (λb o e=>?_) T⟩;have t:@LT.lt Nat _ b s.heap.objs.size:=zL e;exact F b o (zU (zI (rJ t) m)) (zU t) (g _ _ e)
end
def Ql(K:Frag):List V->Hp->VK->Prop:=λxs H Q=>∃(l:Addr)(ts:List (Addr×PyData×Addr×V)),xs=[.ref l]/\SqL K H l (ts.map λt=>V.ref t.1)/\(∀t∈ts,SqT K H t.1 [.ref t.2.2.1,t.2.2.2]/\tT 4 t.2.1=true/\Dt K H (.ref t.2.2.1) t.2.1)/\(ts.map (·.2.1)).Nodup /\
 ∀D H',Same H H'->H D=none->DTr K H' D (ts.map λt=>(t.2.1,t.2.2.2))->Q (.ref D) H'
theorem Qk{kvs:List (PyData×V)}{k:PyData}(h:k∉kvs.map (·.1)):vT kvs k=none:=by
 induction kvs with
 |nil=>rfl
 |cons p r a =>
  rw[zH,yQ,not_or]at h;rw[gQ (λe=>h.1 e.symm)];exact a h.2
section
variable {X:Cx}
theorem Qj(b4:X.A.units+64<cLine)(W:X.calm=true):mI X (.type "dict") (Ql X.K):=by
 intro a8 s a9 H xs us Q I r h;obtain⟨l,ts,rfl,a2,b,J,q⟩:=h;obtain⟨u,rfl,T⟩:=kZ r;cases T;obtain⟨its,y,⟨o,b1,e,c,od,dd⟩,v⟩:=I.list a2;have mk:∀(ts:List (Addr×PyData×Addr×V))(its:LW),Vals (ts.map λa=>V.ref a.1) its->(∀a∈ts,SqT X.K H a.1 [.ref a.2.2.1,a.2.2.2]/\tT 4 a.2.1=true/\Dt X.K H (.ref a.2.2.1) a.2.1) ->
   ∃es:List Ent,its=es.map (λa=>Value.ref a.p)/\Paired (λa(e:Ent)=>e.k=a.2.1/\e.b=a.2.2.1/\RelV a.2.2.2 e.v/\e.ok s.heap) ts es:=by
  intro ts
  induction ts with
  |nil=>intro its r _;cases r;exact⟨[],rfl,.nil⟩
  | cons a ts i =>
   intro its r b;cases r with
   | cons O a4 =>
    obtain⟨es,e1,g⟩:=i _ a4 λx m=>b x (.tail _ m);obtain⟨f,n,j⟩:=b a (.head _);obtain⟨b0,a7,⟨op,a5,L,a0,N⟩,_⟩:=I.tuple f;cases a7 with
    | cons a3 k =>
     cases k with
     |cons k K =>
      cases K;cases a3;cases O;rename_i v2;refine⟨⟨a.1,a.2.1,a.2.2.1,v2⟩:: es,by rw[zH,←e1],.cons ⟨rfl,rfl,k,⟨op,a0,a5,L,N⟩,hZ I n j⟩ g⟩
 obtain⟨es,e1,g⟩:=mk ts its y b;subst e1;have C:ts.length=es.length:=oU g;refine Qm (es:=es) (I.ok.hd W) ⋯ e c od (by rw[dd]) (λa p=>?_) (by rw[←C];simpa using v) λh' tk G D=>?_
 ·obtain⟨_,_,z⟩:=aZ g a p;exact z.2.2.2
 have a1:∀(ts:List (Addr×PyData×Addr×V))(es:List Ent),Paired (λa(e:Ent)=>e.k=a.2.1/\e.b=a.2.2.1/\RelV a.2.2.2 e.v/\e.ok s.heap) ts es->(∀a∈ts,tT 4 a.2.1=true/\Dt X.K H (.ref a.2.2.1) a.2.1)->∀(kvs:List (PyData×V))(xs:List (PyData×Addr×Value)),KP X.K H kvs xs->(kvs.map (·.1)++ts.map (·.2.1)).Nodup->KP X.K H (kvs++ts.map λa=>(a.2.1,a.2.2.2)) (es.foldl putP xs):=by
  intro ts es a6
  induction a6 with
  |nil=>intro _ kvs xs d _;rw[List.map_nil,vQ];exact d
  | @cons a e ts es S _ i =>
   intro b kvs xs d w;obtain⟨f,n,j,_⟩:=S;have st:=d.put a.2.1 (b a (.head _)).1 (b a (.head _)).2 j;have Y:a.2.1∉kvs.map (·.1):=λU=>by
    have:=(List.nodup_append.mp w).2.2 _ U a.2.1 (by simp);exact this rfl
   have ep:pT kvs a.2.1 a.2.2.2=kvs++[(a.2.1,a.2.2.2)]:=by
    unfold pT;rw[Qk Y];rfl
   rw[ep,←f,←n]at st;have:=i (λx m=>b x (.tail _ m)) _ _ st (by rw[xK,wX];simpa [f]using w);rw[wX]at this;rw[f]at this;show KP X.K H _ (List.foldl putP (storedH xs e.k e.b e.v) es);rw[f];exact this
 have d:=a1 ts es g (λa p=>(b a p).2) [] [] .nil (by simpa using J);rw[List.nil_append]at d;obtain⟨b2,b3,b5,R,P,Z,M,_,F⟩:=D;have t:H s.heap.objs.size=none:=I.hok.fresh (zF _);have sm:Same H (upd H s.heap.objs.size (mM s.heap.objs.size (es.foldl putP []))):=Same.new t;refine⟨.ref s.heap.objs.size,_,I.laid (a:=s.heap.objs.size) (o:=mM s.heap.objs.size (es.foldl putP [])) (t':=tk) G (zF _) (cA R P Z M),rfl,?_⟩;refine q _ _ sm t ⟨by rw[yN];simpa using v,qW.mpr (zS (zU (Ft I))),_,pN,F,d.keeps (nX sm)⟩
end
open Classical in
def rdT(h:Heap)(v:Value):Option PyData:=if q:∃d,tT 4 d=true/\∃as,Reads h v d as then some q.choose else none
theorem Fd{h:Heap}{d:PyData}{v:Value}{as:LA}(b:tT 4 d=true)(r:Reads h v d as):rdT h v=some d:=by
 have q:∃d,tT 4 d=true/\∃as,Reads h v d as:=⟨d,b,as,r⟩;unfold rdT;rw[dif_pos q];obtain⟨t',c,a⟩:=q.choose_spec;rw[uY _ _ _ _ _ (jB 4 _ (iC 4 _ t')).1 a r]
def rInD(K:Frag)(neg:Bool):R2:=λx y H Q=>∃(p:Addr)(ps:List (V×PyData))(d:PyData),y=.ref p/\(SqL K H p (ps.map (·.1))\/SqT K H p (ps.map (·.1)))/\(∀q∈ps,tT 4 q.2=true/\Dt K H q.1 q.2)/\tT 4 d=true/\Dt K H x d/\Q (.bl (if neg=true then !(ps.any λq=>decide (q.2=d)) else ps.any λq=>decide (q.2=d))) H
section
variable {X:Cx}
theorem Az{a:PN}{b:St}{H:Hp}{s:Shared}(I:Inv X a b H s)(d:PyData):∀{ps:List (V×PyData)}{us:LW},Vals (ps.map (·.1)) us->(∀q∈ps,tT 4 q.2=true/\Dt X.K H q.1 q.2)->us.any (λu=>decide (rdT s.heap u=some d))=ps.any λq=>decide (q.2=d)
 |[],_,.nil,_=>rfl
 |p:: ps,u:: us,.cons r c,h=>by
  rw[uM,uM,Az I d c λq g=>h q (.tail _ g)];obtain⟨as,f⟩:=(h p (.head _)).2.reads I r;rw[Fd (h p (.head _)).1 f];congr 1;exact qZ.mpr ⟨λe=>by cases e;rfl,λe=>by rw[e]⟩
theorem Ay{k:PN}{l:St}{H:Hp}{s:Shared}(I:Inv X k l H s){A:Around}(a:A.units+8<cLine){x:V}{v:Value}{d:PyData}(i:RelV x v)(j:tT 4 d=true)(c:Dt X.K H x d):∀{ps:List (V×PyData)}{us:LW},Vals (ps.map (·.1)) us->(∀q∈ps,tT 4 q.2=true/\Dt X.K H q.1 q.2)->∀u∈us,SeqAt.EqAt A s u v (decide (rdT s.heap u=some d))
 |[],_,.nil,_=>λu a=>by cases a
 | p:: ps,u:: us,.cons r o,h=>λf b=>by
  rcases yQ.mp b with rfl|b
  ·obtain⟨as,g⟩:=(h p (.head _)).2.reads I r;obtain⟨bs,m⟩:=c.reads I i;have e:decide (rdT s.heap f=some d)=decide (p.2=d):=by
    rw[Fd (h p (.head _)).1 g];exact qZ.mpr ⟨λe=>by cases e;rfl,λe=>by rw[e]⟩
   rw[e];intro prog w E Q n;exact eqT (n:=4) (zF _) (h p (.head _)).1 j g m a n
  ·exact Ay I a i j c o (λq t=>h q (.tail _ t)) f b
theorem Qi(m:X.A.units+64<cLine):OpR X (compareOp .NotIn) (rInD X.K true):=by
 intro k s l H x y v u Q I g j h;obtain⟨p,ps,d,rfl,a,b,f,e,q⟩:=h;cases j;rcases a with a|a
 ·obtain⟨its,r,pl,i⟩:=I.list a;refine SeqAt.notIn_listAt (λu=>decide (rdT s.heap u=some d)) pl.isList (λw c=>Ay I ?_ g f e r b w (by simpa using c)) ⟨.bl _,H,I,rfl,?_⟩
  ·show X.A.units+1+8<cLine;omega
  rw[show its.toArray.any (λu=>decide (rdT s.heap u=some d))=its.any (λu=>decide (rdT s.heap u=some d)) by simp,Az I d r b];exact q
 ·obtain⟨its,r,pl,i⟩:=I.tuple a;refine SeqAt.notIn_tupleAt (λu=>decide (rdT s.heap u=some d)) pl (λw c=>Ay I ?_ g f e r b w (by simpa using c)) ⟨.bl _,H,I,rfl,?_⟩
  ·show X.A.units+1+8<cLine;omega
  rw[show its.toArray.any (λu=>decide (rdT s.heap u=some d))=its.any (λu=>decide (rdT s.heap u=some d)) by simp,Az I d r b];exact q
end
structure FunD(K:Frag)(x qual:Str)(st:Stmt)(f:Addr)(fd:FuncData)(ds:LW):Prop where
 ex:∃(oc:Value)(od:Option Addr)(T:Addr)(kV doc pm:Value)(an:Option Addr)(cdv ct:Value)(osl:Array (Option Value)),
  fd=PySem.W.fnOf x qual (kL st) (nR st) (pM st) (.ref T) kV doc pm an cdv ct/\K.lookup f=some ⟨oc,od,.func fd,osl⟩/\PySem.W.codeIn K cdv qual=true/\∃(o2:Value)(d2:Option Addr)(n2:Nat)(s2:Array (Option Value)),K.lookup T=some ⟨o2,d2,.seq ds.toArray n2,s2⟩
 kp:PySem.W.keepIn K (.ref f)=true
section
variable {P:Program} {w:World} {K:Frag} {mg:MT} {base:Heap}
theorem FunD.ok{x c:Str}{st:Stmt}{f:Addr}{d:FuncData}{ds:LW}{N ps:List Str}{k:Nat}{b:Sp}(F:FunD K x c st f d ds)(j:pX N ps (pM st))(len:∀vs H Q E,b vs H Q E->vs.length=ps.length)
  (g:∀(cdv:Value)(A:Around)(outer:List Env)(s:Shared)(H:Hp)(vs:List V)(Q:VK)(E:XK),Room k (A.deeper (envOfC c (pM st) s.heap.objs.size f cdv))->b vs H Q E ->
   ∃a,PSs (cxOf CX0 P w K mg base N c (pM st) f cdv A outer s H E).nox (nR st) a/\a {nx:=λ_ H'=>Q .non H',rt:=Q} (mY N vs) H):FnOk P w K mg base CX0 (k+1) f d ps b:=by
 obtain⟨t,od,T,kV,m,r,p,cdv,o,n,rfl,e,l,_⟩:=F.ex;refine dG e l j len λA outer s H vs Q E hr i=>?_;obtain⟨a,h,q⟩:=g cdv A outer s H vs Q E hr i;exact⟨a,h.nox,q⟩
theorem FunD.binds{x e:Str}{st:Stmt}{f:Addr}{g:FuncData}{ps:List Str}{ds:LW}(F:FunD K x e st f g ds)
  (h:∀(T:Addr)(kV a d:Value)(c:Option Addr)(cdv b:Value)(us:LW),us.length+ds.length=ps.length->∃k,bindArgs (PySem.W.fnOf x e (kL st) (nR st) (pM st) (.ref T) kV a d c cdv b) ⟨us,[]⟩=seqItems? (.ref T) >>= k/\k (some ds.toArray)=pure (ps.zip (us++ds))):nD K g ps ds:=by
 obtain⟨r,od,T,kV,a,d,c,cdv,b,o,rfl,l,q,n,t,m,p,lt⟩:=F.ex;intro s us j hl;obtain⟨k,e1,i⟩:=h T kV a d c cdv b us (by simpa using hl);exact BindsTo.of_defaults (T:=T) rfl (j _ _ lt) rfl e1 i
theorem FunD.bindsA{x e:Str}{st:Stmt}{f:Addr}{g:FuncData}{ps:List Str}{ds:LW}(F:FunD K x e st f g ds)
  (h:∀(T:Addr)(kV a d:Value)(c:Option Addr)(cdv b:Value)(us:LW),us.length=ps.length->∃k,bindArgs (PySem.W.fnOf x e (kL st) (nR st) (pM st) (.ref T) kV a d c cdv b) ⟨us,[]⟩=seqItems? (.ref T) >>= k/\k (some ds.toArray)=pure (ps.zip us)):nD K g ps []:=by
 obtain⟨r,od,T,kV,a,d,c,cdv,b,o,rfl,l,q,n,t,m,p,lt⟩:=F.ex;intro s us j hl;rw[vQ]at hl ⊢;obtain⟨k,e1,i⟩:=h T kV a d c cdv b us hl;exact BindsTo.of_defaults (T:=T) rfl (j _ _ lt) rfl e1 i
theorem Fc{x a:Str}{st:Stmt}{f T:Addr}{o j:Value}{od p e:Option Addr}{m n:Array (Option Value)}{kV b g cdv d:Value}{ds:LW}{i:Nat}(l:K.lookup f=some ⟨o,od,.func (PySem.W.fnOf x a (kL st) (nR st) (pM st) (.ref T) kV b g e cdv d),m⟩)
  (c:PySem.W.codeIn K cdv a=true)(k:PySem.W.keepIn K (.ref f)=true)(l2:K.lookup T=some ⟨j,p,.seq ds.toArray i,n⟩):FunD K x a st f (PySem.W.fnOf x a (kL st) (nR st) (pM st) (.ref T) kV b g e cdv d) ds:=⟨⟨o,od,T,kV,b,g,e,cdv,d,m,rfl,l,c,j,p,i,n,l2⟩,k⟩
end
end L2
namespace PySem
section
variable {prog:Program} {w:World} {A:Around} {E:VP} {h:Heap} {g:Array GenState} {d:Drawn} {t:Nat} {os:OsState}
variable {nm q:Str} {C N:Addr} {bs bm bmB:LW} {hdct:Bool} {sn:List Str} {sub:LW} {ab:Bool} {col:Option Bool} {dd:Option Addr} {k0 k1 k2 k3 k5:Option Value} {B newId initId:String}
abbrev xTup(us:LW):Obj:={cls:=.type "tuple",data:=.seq us.toArray}
abbrev xExc(C t:Addr)(dx:Option Addr):Obj:={cls:=.ref C,dict:=dx,data:=.fields #[.ref t,.none,.none,.none,.bool false,.none]}
abbrev iG(h:Heap)(C:Addr)(us:LW):Heap:=(h.push (xTup us)).push (xExc C h.objs.size none)
theorem Qh(F:ExcBaseFacts B newId initId bmB)(T:OwnTail h bmB bm){mN:MT}{us:LW}{f:Addr}{j:Obj}{Q:Fin->Shared->Prop}
  (a:h.get? C=some (excClassObj nm q C N bs bm hdct sn sub ab col dd k0 k1 k2 k3 k5 newId))(p:h.Ns N mN)(hi:mN "__init__"=some (.ref f))(D:h.get? f=some j)(z:j.cls=.type "function")(y:us.length<=sizeLine)
  (G:wpAny (model prog w) A (call (.ref f) (.ref (h.objs.size+1):: us)) (λr s'=>r=.none/\Q (.done (.ret (.ref (h.objs.size+1)))) s') E ⟨iG h C us,g,d,t,os⟩):
  wpAny (model prog w) A (Builtin.«type.__call__» ⟨.ref C:: us,[]⟩) Q E ⟨h,g,d,t,os⟩:=by
 repeat (first|with_reducible refine vZ a ?_|with_reducible refine wpAny_madeBy_exc a ?_|wp_step)
 refine codeAny_call_builtin_code (rD _ F.quiet) (wpAny_check_new_subT F T a (codeAny_exc_new_subT F T a ?_ y));show wpAny _ _ _ _ _ _;have c:∀b o,h.get? b=some o->(iG h C us).get? b=some o:=λb o e=>zC _ (zC _ e);have i:=c _ _ a;have k:=c _ _ D;have n:=p.keeps c;have u:(iG h C us).get? (h.objs.size+1)=some (xExc C h.objs.size none):=by heap_get
 have m:(Value.ref C:: bm).contains (.ref C)=true:=by simp
 have l:=T.keeps c;unfold isInstance
 repeat (first|with_reducible refine vZ u ?_|(with_reducible refine wpAny_isSubtype_exc i ?_;rw[m])|wp_step)
 show wpAny _ _ (typeLookup (.ref C) _) _ _ _;refine wpAny_typeLookup_tail i n l F.mroIs F.init.lookup ?_;rw[hi];refine yL (zA ?_);unfold bindSpecial;refine zA (uB (T:= "function") ⟨_,k,z⟩ ?_);rw[zG ∅];refine zB (zA (yF G (λr s' hr=>?_) λ_ _ x=>x));obtain⟨rfl,v⟩:=hr
 wp_walk
 exact v
theorem Qg(F:ExcBaseFacts B newId initId bmB)(T:OwnTail h bmB bm){mN:MT}{us:LW}{b:Addr}{c:Obj}{Q:VP}
  (a:h.get? C=some (excClassObj nm q C N bs bm hdct sn sub ab col dd k0 k1 k2 k3 k5 newId))(e:h.Ns N mN)(hi:mN "__init__"=some (.ref b))(j:h.get? b=some c)(i:c.cls=.type "function")(f:us.length<=sizeLine)
  (k:wpAny (model prog w) (A.under (.builtin "type.__call__" ⟨.ref C:: us,[]⟩)) (call (.ref b) (.ref (h.objs.size+1):: us)) (λr s'=>r=.none/\Q (.ref (h.objs.size+1)) s') E ⟨iG h C us,g,d,t,os⟩):
  wpAny (model prog w) A (call (.ref C) us) Q E ⟨h,g,d,t,os⟩:=by
 have n:=tc_lookup;have l:=tc_bind (.ref C);have m:(⟨h,g,d,t,os⟩:Shared).TypeIs (.ref C) "type" := ⟨_,a,rfl⟩;refine vS (codeAny_of_tree ?_);show wpAny _ _ (callAny (.ref C) _) _ _ _
 repeat (any_goals (first|assumption|with_reducible refine vZ a ?_|wp_step))
 refine⟨rfl,codeAny_call_builtin_at (rD _ (nofun)) entry_typeCall (wpAny_check_type_call_sub a (Qh F T a e hi j i f ?_))⟩;exact k
theorem Qf{env:Env}{s:Shared}{x:Sem Value}{Q:Flow->Shared->Prop}(i:bm.contains (.type "BaseException")=true)(hh:A.handled=none){M:Model}
  (h:wpAny M A x (λv a=>∃e t c,v=.ref e/\a.heap.get? C=some (excClassObj nm q C N bs bm hdct sn sub ab col dd k0 k1 k2 k3 k5 newId)/\a.heap.get? e=some (xExc C t c)/\E (.ref e) a) E s):
  wpAny M A (raiseStmt env (some x) none) Q E s:=by
 have k:(Value.ref C:: bm).contains (.type "BaseException")=true:=by rw[List.contains_cons,i,Bool.or_true]
 unfold raiseStmt;refine zA (yF h (λv a j=>?_) λ_ _ x=>x);obtain⟨e,t,c,rfl,b,f,l⟩:=j;obtain⟨m,g,d,tk,os⟩:=a
 repeat (first|with_reducible refine vZ f ?_|with_reducible refine vZ b ?_|(with_reducible refine wpAny_isSubtype_exc b ?_;rw[k])|wp_step)
 exact wpAny_raiseNew_none hh l
end
end PySem
namespace L2
open PySem PySem.Spec PyProof.Rows
open PySem.W (Frag)
def XObj(e C:Addr)(od:Option Addr):HO:=.ext λh=>∃t,h.get? e=some (xExc C t od)
theorem Ax{P:Program}{w:World}{H:Hp}{h:Heap}{e C t:Addr}{od:Option Addr}(q:h.get? e=some (xExc C t od)):oK P w H h e (XObj e C od):=⟨⟨t,q⟩,⟨_,q⟩,λ_ _⟨t,z⟩k=>⟨t,k _ z⟩⟩
def rmv(H:Hp)(e:Addr):Hp:=λb=>if b=e then none else H b
theorem jF{H:Hp}{e b:Addr}(h:b≠e):rmv H e b=H b:=zE h
theorem Aw{H:Hp}{e:Addr}:rmv H e e=none:=zG rfl
theorem Qe{H:Hp}{e:Addr}{o:HO}(h:H e=some o):upd H e o=H:=by
 funext b
 by_cases q:b=e
 ·rw[q,pN,h]
 ·exact pR q
section
variable {X:Cx} {pins:PN} {σ:St} {H:Hp} {s:Shared} {e C:Addr} {b0:Option Addr}
theorem Inv.untrack(I:Inv X pins σ H s)(l:H e=some (XObj e C b0)):Inv X pins σ (rmv H e) s:=by
 have u:=I.base;have i:∀{b o},rmv H e b=some o->b≠e/\H b=some o:=λ{b o}z=>by
  by_cases q:b=e
  ·rw[q,Aw]at z;cases z
  ·rw[jF q]at z;exact⟨q,z⟩
 have f:∀{b o},H b=some o->o≠XObj e C b0->b≠e:=λ{b o}z d q=>by rw[q,l]at z;exact d (zP z).symm
 have g:∀b,H b=none->rmv H e b=none:=λb z=>by
  by_cases q:b=e
  ·rw[q,Aw]
  ·rw[jF q];exact z
 refine⟨I.ok,I.os,I.bare,⟨u.keep,u.slot,λb o q n w=>g _ (u.free b o q n w),u.there,λb xs q=>?_,λb o v q=>?_,λb ps q=>?_⟩,I.loc,I.cell,g _ I.free,λx c q=>g _ (I.freeC x c q),λp t=>?_,λa o q=>?_,I.len⟩
 ·have:=u.tups b xs q;rw[jF (f this (by intro z;cases z))];exact this
 ·have:=u.frzs b o v q;rw[jF (f this (by intro z;cases z))];exact this
 ·obtain⟨m,e1⟩:=u.tbls b ps q;exact⟨m,by rw[jF (f e1 (by intro z;cases z))];exact e1⟩
 ·obtain⟨e1,j,r⟩:=I.pin p t;exact⟨e1,g _ j,r⟩
 ·obtain⟨_,k⟩:=i q;exact(I.hok a o k).stay (λ_ _ _ z=>z) (λb z=>by rw[jF (f z (by intro z;cases z))];exact z) λb xs z=>by rw[jF (f z (by intro z;cases z))];exact z
end
section
variable {M:Model} {A:Around} {E:VP} {s:Shared}
theorem Qd{base:Heap}{env:Env}{outer:List Env}{L e C b:Addr}{a:Option Addr}{Q:Unit->Shared->Prop}(l:A.frames=some (env:: outer))(f:env.frame=some L)(p:base.StaysIn s.heap)(hl:s.heap.FunFrames base (env:: outer))(d:s.heap.get? e=some (xExc C b a))(c:base.get? e=none)
  (n:∀h',Heap.FlyingW base outer e (.ref C) (.ref b) h'->Dc h' e a->s.heap.UpToSlots h'->Q () {s with heap:=h'}):wpAny M A (leaving env (.ref e)) Q E s:=by
 unfold leaving noteFrame;simp only[f];refine zA (zA (yS d rfl (x:=.none) rfl ?_));rw[zE ∅];refine aL l hl f d p c rfl (by simp) (a0:=.ref b) rfl (od:=a) (λ_ q=>q) ?_;rintro g ⟨i,t,m,v⟩ r;exact dL (s:={s with heap:=g}) ⟨i,c,t,m⟩ r λo⟨k1,k2,⟨_,_,k3⟩,k⟩u j=>n o ⟨k1,k2,k3,k⟩ u (Heap.UpToSlots.trans v j)
end
def Fb(X:Cx)(EX:XE):Prop:=∀(pins:PN)(σ:St)(H:Hp)(s:Shared)(e C t:Addr)(dx:Option Addr),Inv X pins σ H s->H e=none->X.s₀.heap.get? e=none->s.heap.get? e=some (xExc C t dx)->EX σ (.ref C) dx H->X.xe (.ref e) s
section
variable {P:Program} {w:World} {K:Frag} {mg:MT} {base:Heap} {N:List Str} {qual:Str} {scope:Scope} {f:Addr} {cd:Value} {A:Around} {outer:List Env} {s₀:Shared} {H₀:Hp} {E:XK}
theorem Qb:Fb (cxOf (CX1 P w) P w K mg base N qual scope f cd A outer s₀ H₀ E) (λ_ C od H=>E C od H):=by
 intro J L H s e C O j I l i u x;have r:=PySem.W.funFrames_hide (as:=e:: frs (cxOf (CX1 P w) P w K mg base N qual scope f cd A outer s₀ H₀ E).stack) I.stack (λenv d a t=>.tail _ (pF.mpr ⟨env,d,t⟩));refine Qd I.ok.frames rfl (λb o q=>sZ _ q) r u (sK _ (.head _)) λh' D F m=>?_;obtain⟨g,_,p,k⟩:=D;obtain⟨un,ok,G⟩:=dN I rfl rfl rfl g m λb o q n y=>sT _ q λd=>by
  rcases yQ.mp d with z|z
  ·subst z;rcases y with⟨M,c⟩|⟨v,c⟩
   ·rw[i]at c;cases c
   ·rw[l]at c;cases c
  ·exact n z
 exact⟨e,.ref C,j,H,_,_,rfl,I.os,I.bare,un,ok,⟨g,sK _ (.head _),p,k⟩,G,F,x⟩
end
def cI(K:Frag)(C:Addr)(bmB:LW)(newId:String)(f:Addr):Bool:=
 (K.lookup f).any (λo=>o.cls == .type "function") &&
 (K.lookup C).any λob=>match ob with
  |⟨.type "type",_,.cls c1,sl⟩=>(match c1.mro,sl.toList with
   |.ref C1:: bm,[_,_,_,_,some (.builtin nw),_]=>C1 == C && nw == newId && !c1.hasDel && PySem.W.tailIn K bmB bm && PySem.W.nsOkIn K c1.ns && PySem.W.nsIn K c1.ns "__init__" == some (some (.ref f))
   |_,_=>false)
  |_=>false
theorem Qa{K:Frag}{h:Heap}{N:Addr}{x:Str}{v:Value}(X:K.In h)(G:h.Ns N (h.nsMap N))(e:PySem.W.nsIn K N x=some (some v)):h.nsMap N x=some v:=by
 obtain⟨o,es,ep,a,g,_,f⟩:=G;unfold PySem.W.nsIn at e;split at e
 ·rename_i c d i j k q;have:=X _ _ q;rw[a]at this;cases this;cases g;split at e
  ·rename_i b;cases e;rw[←f];unfold nsFind findBy;rw[←Array.find?_toList,b];rfl
  ·split at e <;> cases e
 ·cases e
theorem Fa{K:Frag}{h:Heap}{C f:Addr}{j:LW}{newId:String}(KX:K.In h)(g:cI K C j newId f=true):
  ∃bm N nm c bs e sn sub ab col dd k0 k1 k2 k3 k5 mN b,h.get? C=some (excClassObj nm c C N bs bm e sn sub ab col dd k0 k1 k2 k3 k5 newId)/\h.Ns N mN/\mN "__init__"=some (.ref f)/\OwnTail h j bm/\h.get? f=some b/\b.cls=.type "function" := by
 unfold cI at g;obtain⟨d,a⟩:=Bool.and_eq_true_iff.mp g;obtain⟨b,y,d⟩:=tV d;obtain⟨G,D,a⟩:=tV a;split at a
 ·next dd x i =>
  split at a
  ·next t bm k0 k1 k2 k3 q k5 n es =>
   simp only[Bool.and_eq_true,beq_iff_eq,Bool.not_eq_true']at a;obtain⟨⟨⟨⟨⟨e1,r⟩,F⟩,z⟩,k⟩,v⟩:=a;subst e1 r;cases x with
   | mk nm bs u ns c e sn sub ab col m =>
    have w:u=Value.ref t:: bm:=n;have p:m=false:=F;subst w p;have o:i=#[k0,k1,k2,k3,some (Value.builtin q),k5]:=by
     cases i with
     |mk l=>exact wE Array.mk es
    subst o;exact⟨bm,ns,nm,c,bs,e,sn,sub,ab,col,dd,k0,k1,k2,k3,k5,_,b,KX _ _ D,qA (sY KX k),Qa KX (qA (sY KX k)) v,PySem.W.tail_of_in KX z,KX _ _ y,qV.mp d⟩
  ·cases a
 ·cases a
section
variable {X:Cx} {CX:CXT} {EX:XE} {k:Nat} {C f:Addr} {fd:FuncData} {ps:List Str} {sp:Sp} {dvs:List V} {ds:LW} {x:Str} {np p cpos pos:Pos} {e e₀:Expr} {es rest:List Expr} {t:TA} {bmB:LW} {B newId initId:String}
def Gz(C:Addr)(sp:Sp)(EX:XE)(t:TA):TS:=λ_ σ H=>t σ H λvs H1=>vs.length<=sizeLine/\∀e,H1 e=none->sp (.ref e:: vs) (upd H1 e (XObj e C none)) (λv H2=>v=.non/\∃od,H2 e=some (XObj e C od)/\EX σ (.ref C) od (rmv H2 e)) E0
theorem Rz(b1:X.calm=true)(a1:Fb X EX)(b7:Gl X x)(a9:X.mg x=some (.ref C))(U:cI X.K C bmB newId f=true)(J:ExcBaseFacts B newId initId bmB)(F:FnOk X.prog X.w X.K X.mg X.base CX k f fd ps sp)
  (hr:Room (k+1) X.A)(a0:nD X.K fd ps [])(b8:jN CX X E0)(a4:PA X (e₀:: rest) t)
  (c0:(x == ("__debug__" :Str))=false:=by decide)(K:starEach (e₀:: rest) X.env=(false,eval e₀ X.env):: starEach rest X.env:=by rfl)(Z:(backTo cpos (starEach rest X.env)).any (·.1)=false:=by rfl):
  PS X (.Raise (some (.Call (.Name x np) (e₀:: rest) [] cpos)) none pos) (Gz C sp EX t):=by
 intro g s i H D I h;obtain⟨bm,N,nm,q,bs,c2,sn,sub,ab,col,dd,k0,k1,k2,k3,k5,mN,c8,S,b5,a2,T,a3,b4⟩:=Fa I.mod.kin U;have R:(backTo cpos (starEach (e₀:: rest) X.env)).any (·.1)=false:=by
  rw[K];show(false || (backTo cpos (starEach rest X.env)).any (·.1))=false;rw[Z];rfl
 rw[arm_exec_Raise];refine zA (xZ (Qf (C:=C) (nm:=nm) (q:=q) (N:=N) (bs:=bs) (bm:=bm) (hdct:=c2) (sn:=sn) (sub:=sub) (ab:=ab) (col:=col) (dd:=dd) (k0:=k0) (k1:=k1) (k2:=k2) (k3:=k3) (k5:=k5) (newId:=newId) (T.hasType J.hasBase) (I.ok.hd b1)
  (zA (yF (wpAny_Call_ofName (jL I b7 a9 ?_ c0)) (λv c5 b2=>zA (xZ (zB b2))) λ_ _ x=>x))))
 unfold callWith;have G:=a4 cpos g s i H _ I h;rw[K]at G R ⊢;refine zA (yL (yF (wZ (Q:=λa c=>∃us,a=⟨us,[]⟩/\AP X g i _ us c) (thn G λus c9 z=>⟨us,rfl,z⟩)) (λa c b9=>zA (xZ ?_)) λ_ _ x=>x));obtain⟨us,rfl,vs,a7,d,r,b3,a6⟩:=b9;simp only[R];have L:=d.bk _ _ S;have hl:us.length<=sizeLine:=by rw[←r.length];exact b3
 have O:=a6 (c.heap.objs.size+1) (d.hok.fresh (tQ _));have a8:∀b o,c.heap.get? b=some o->(iG c.heap C us).get? b=some o:=λb o e=>zC _ (zC _ e);have b6:(iG c.heap C us).get? (c.heap.objs.size+1)=some (xExc C c.heap.objs.size none):=by
  have:=zN (c.heap.push (xTup us)) (o:=xExc C c.heap.objs.size none) rfl
  rwa[xH]at this
 have l:Inv X g i (upd a7 (c.heap.objs.size+1) (XObj (c.heap.objs.size+1) C none)) {c with heap:=iG c.heap C us}:=d.laid (t':=c.toks) a8 (tQ _) (Ax b6);have P:Vals (V.ref (c.heap.objs.size+1):: vs) (Value.ref (c.heap.objs.size+1):: us):=.cons rfl r;have Y:(Value.ref (c.heap.objs.size+1):: us++[]).length=ps.length:=by rw[vQ,←P.length];exact F.len _ _ _ _ O
 have w:=a0 {c with heap:=iG c.heap C us} (Value.ref (c.heap.objs.size+1):: us) l.kIn Y;rw[vQ]at w;have b0:=F.run _ X.stack _ _ ⟨Value.ref (c.heap.objs.size+1):: us,[]⟩ _ _ _ E0 (hr.make C us []) (l.env0.make C us []) w P O;obtain⟨c6,c3,d0,c7,c4⟩:=c;refine zA (wpAny_keeperOf_exc L ?_);refine zA (Qg J (T.keeps d.bk) L (b5.keeps d.bk) a2 (d.bk _ _ a3) b4 hl (vS (uC b0 λa5 s' j=>?_)));cases a5 with
 |error n=>exact b8 g i _ _ n s' l j
 | ok fl =>
  cases fl with
  |ret u =>
   obtain⟨v,H',m,W,n,od,y,c1⟩:=l.after j;subst n;refine⟨W,zA (yL (wpAny_point (zB ?_)))⟩;obtain⟨⟨t',M⟩,_⟩:=(show oK X.prog X.w H' s'.heap _ (XObj _ C od) from m.hok _ _ y);refine⟨_,t',od,rfl,m.bk _ _ S,M,a1 g i (rmv H' _) s' _ C t' od (m.untrack y) Aw (Heap.get?_none_of_le (zR d.sz (tQ _))) M c1⟩
  |next=>exact False.elim j
  |brk=>exact False.elim j
  |cont=>exact False.elim j
theorem FunD.okX{P:Program}{w:World}{K:Frag}{b:MT}{base:Heap}{x a:Str}{st:Stmt}{f:Addr}{fd:FuncData}{ds:LW}{N ps:List Str}{k:Nat}{sp:Sp}(F:FunD K x a st f fd ds)(j:pX N ps (pM st))(len:∀vs H Q E,sp vs H Q E->vs.length=ps.length)
  (d:∀(cdv:Value)(A:Around)(outer:List Env)(s:Shared)(H:Hp)(vs:List V)(Q:VK)(E:XK),Room k (A.deeper (envOfC a (pM st) s.heap.objs.size f cdv))->sp vs H Q E ->
   ∃t,PSs (cxOf (CX1 P w) P w K b base N a (pM st) f cdv A outer s H E) (nR st) t/\t {nx:=λ_ H'=>Q .non H',rt:=Q} (mY N vs) H):FnOk P w K b base (CX1 P w) (k+1) f fd ps sp:=by
 obtain⟨r,od,T,kV,l,o,q,cdv,n,m,rfl,c,i,_⟩:=F.ex;exact dG c i j len λA outer s H vs Q E hr g=>d cdv A outer s H vs Q E hr g
end
structure XIn(K:Frag)(C C0 f:Addr):Prop where
 cl:cI K C [.type "ValueError",.type "Exception",.type "BaseException",.type "object"] "ValueError.__new__" f=true
 ga:PySem.W.specialIn K (.ref C0) "__getattribute__"=some (some (.builtin "type.__getattribute__"))
 rd:PySem.W.readsIn K C0 (.type "type")=true
 fi:PySem.W.findCls K (.ref C0) (.type "type") "__init__"=some (.val (.builtin "ValueError.__init__"))
def Av:LW->Bool
 |.ref _:: r=>Av r
 |l=>l == [.type "ValueError",.type "Exception",.type "BaseException",.type "object"]
theorem Gy(a:Value):∀{l:LW},Av l=true->refuseLoop a "__setattr__" l=pure ()/\l.contains (.type "object")=true
 |.ref c:: r,e=>by
  obtain⟨b,d⟩:=Gy a (l:=r) e;exact⟨by rw[refuseLoop_ref];exact b,by rw[List.contains_cons,d,Bool.or_true]⟩
 |[],e=>by cases e
 |.type n:: r,e=>by rw[show Value.type n:: r=_ from qV.mp e];exact⟨PySem.F.store_ValueError.passes a,∅⟩
structure XSt(K:Frag)(C:Addr)(x:Str):Prop where
 sa:PySem.W.findIn K (.ref C) "__setattr__"=some (some (.builtin "object.__setattr__"))
 mr:((PySem.W.clsIn K C).any λc1=>Av c1.mro && c1.hasDict)=true
 tk:PySem.W.takerIn K C x=some none
section
variable {X:Cx} {C C0 f:Addr} {x nm:Str} {np apos cpos pos:Pos} {e o:Expr} {es:List Expr} {te to:TE} {t:TA}
def Gx(C:Addr)(t:TA):TE:=λσ H Q=>t σ H λvs H1=>∃p b r,vs=.ref p:: r/\H1 p=some (XObj p C b)/\r.length<=sizeLine/\Q .non H1
theorem Ry{pl:Sem Bool}(a0:Gl X x)(U:X.mg x=some (.ref C0))(g:XIn X.K C C0 f)(P:PA X (e:: es) t)(a2:(x == ("__debug__" :Str))=false:=by decide)
  (S:starEach (e:: es) X.env=(false,eval e X.env):: starEach es X.env:=by rfl)(K:(backTo cpos (starEach es X.env)).any (·.1)=false:=by rfl)
  (M:eval (.Call (.Attribute (.Name x np) "__init__" apos) (e:: es) [] cpos) X.env=(do
   let ov ←eval (.Name x np) X.env
   standAt apos.atName
   let (f,first) ←holding [ov] (getMethod ov "__init__" pl)
   callWith cpos f first (backTo cpos (starEach (e:: es) X.env)) (backToKw cpos (keywordEach [] X.env))):=by rfl):
  PE X (.Call (.Attribute (.Name x np) "__init__" apos) (e:: es) [] cpos) (Gx C t):=by
 intro G s D H Q I h;refine tX (pl:=pl) (jL I a0 U ?_ a2) M;refine PySem.W.method_cls I.kIn g.ga (PySem.W.cls_value I.kIn g.rd g.fi (by rfl) ?_);have W:=I.tok (s.toks+1);have m:=P cpos G _ D H _ W h;show wpAny _ _ (callWith cpos (.builtin "ValueError.__init__") [] (backTo cpos (starEach (e:: es) X.env)) []) _ _ _;rw[S]at m ⊢;refine tN (by show(false || (backTo cpos (starEach es X.env)).any (·.1))=false;rw[K];rfl) (wZ (thn m ?_));rintro us w ⟨vs,v,i,r,q⟩;obtain⟨p,b,O,rfl,l,V,a1⟩:=q;obtain⟨u,c,rfl,J,R⟩:∃u c,us=u:: c/\RelV (.ref p) u/\Vals O c:=by cases r with|cons a b=>exact⟨_,_,rfl,a,b⟩
 obtain rfl:u=Value.ref p:=J;obtain⟨⟨t',j⟩,_⟩:=(show oK X.prog X.w v w.heap _ (XObj _ C b) from i.hok _ _ l);obtain⟨bm,N,nm,q,bs,b1,sn,sub,ab,col,dd,k0,k1,k2,k3,k5,mN,a9,Z,b0,a4,T,a7,a8⟩:=Fa i.kIn g.cl;have F:=yE;have hl:c.length<=sizeLine:=by rw[←R.length];exact V
 obtain⟨d,a3,b2,Y,a6⟩:=w;refine vS (vA F.init.plain F.initEntry (wpAny_check_init_subT F T Z j rfl ?_));have a5:p≠d.objs.size:=zU (zL j);have k:(d.push (xTup c)).get? p=some (xExc C t' b):=zC _ j;unfold Builtin.«BaseException.__init__»;refine zA (qI ?_ hl);refine zA (zA (yS k rfl rfl (zA (wQ k rfl (by show 0<6;decide) (qE (zB ?_))))));have y:((d.push (xTup c)).update p (Obj.mapFields (·.setIfInBounds 0 (.ref d.objs.size)))).get? p=some (xExc C d.objs.size b):=yT _ k rfl;refine⟨.non,v,?_,rfl,a1⟩;have n:=i.write (h':=(d.push (xTup c)).update p (Obj.mapFields (·.setIfInBounds 0 (.ref d.objs.size)))) (x:=p) (e:=p) (t':=Y) (o:=XObj p C b) (by rw[l];exact True.intro) (.inl rfl) (λb u L z=>(xB _ _ (zS L)).trans (zC _ z)) ⟨_,y⟩ (Ax y);rw[Qe l]at n;exact n
def XDct(a:Addr)(f:Str)(v:V):HO:=.ext λh=>∃mA u,h.Ns1 a mA/\mA f=some u/\RelV v u
theorem Rx{P:Program}{w:World}{H:Hp}{h:Heap}{a:Addr}{f:Str}{v:V}{b:MT}{u:Value}(q:h.Ns1 a b)(e:b f=some u)(r:RelV v u):oK P w H h a (XDct a f v):=
 ⟨⟨b,u,q,e,r⟩,let ⟨_,_,_,z,_⟩:=q;⟨_,z⟩,λ_ _⟨b,u,⟨od,es,ep,z,c⟩,e,r⟩k=>⟨b,u,⟨od,es,ep,k _ z,c⟩,e,r⟩⟩
def XNew(a:Addr):HO:=.ext λh=>∃o,h.get? a=some o
theorem Rw{P:Program}{w:World}{H:Hp}{h:Heap}{a:Addr}{o:Obj}(q:h.get? a=some o):oK P w H h a (XNew a):=⟨⟨o,q⟩,⟨o,q⟩,λ_ _⟨o,z⟩k=>⟨o,k _ z⟩⟩
def Gw(C:Addr)(nm:Str)(te to:TE):TS:=λD σ H=>te σ H λv H1=>to σ H1 λy H2=>∃p,y=.ref p/\H2 p=some (XObj p C none)/\∀dx,H2 dx=none->dx≠p->D.nx σ (upd (upd H2 dx (XDct dx nm v)) p (XObj p C (some dx)))
open Builtin Builtin.ObjectAttr in
theorem Rv(xs:XSt X.K C nm)(L:PE X e te)(c2:PE X o to)(c5:swapsWith e (some (.Attribute o nm apos)) pos.line X.env=pure false:=by rfl):PS X (.Assign [.Attribute o nm apos] e pos) (Gw C nm te to):=by
 intro P s R H D I h;refine plainObj_wpAny_Assign_Attribute (thn (L P s R H _ I h) λu b9⟨v,a9,a3,a0,g⟩=>thn (c2 P b9 R a9 _ a3 g) ?_) c5;rintro ov d ⟨y,j,r,c8,p,a6,Y,c6⟩;subst a6;obtain rfl:ov=Value.ref p:=c8;obtain⟨⟨t',F⟩,_⟩:=(show oK X.prog X.w j d.heap _ (XObj _ C none) from r.hok _ _ Y);have i:=r.kIn;have J:PySem.W.InstAt d.heap p (xExc C t' none) C none:=⟨F,rfl,rfl,trivial⟩;refine PySem.W.set_plain i J xs.sa ?_;have n:=PySem.F.store_object;obtain⟨O,N,a1⟩:=tV xs.mr;obtain⟨M,c4⟩:=Bool.and_eq_true_iff.mp a1;obtain⟨b6,b5⟩:=Gy (.ref p) M;have b7:O.mro.isEmpty=false:=by cases q:O.mro with|nil=>rw[q]at M;cases M|cons _ _=>rfl
 have sub:PySem.W.Looks (model X.prog X.w) d.heap (isInstance (.ref p) (.type "object")) true:=J.type.andThen (uP i (by unfold PySem.W.mroIn;rw[N,Option.bind_some,zE (by rw[b7];decide),b5]));refine vA n.slot.plain n.entry (@PySem.W.check_slot (model X.prog X.w) _ _ {d with toks:=d.toks+1} "object.__setattr__" "object" "__setattr__" (.ref p) [.str nm d.toks,u] [] _ n.kind n.split sub (n.args (.ref p) (.str nm d.toks) u) ?_);obtain⟨S,c1,hr⟩:=Option.bind_eq_some_iff.mp xs.tk;have b8:PySem.W.Looks (model X.prog X.w) d.heap (mroOf (.ref C)) O.mro:=(sV i N).andThen .now;have c7:PySem.W.Looks (model X.prog X.w) d.heap (storeTaker? S) none:=by
  cases S with
  |none=>exact .now
  |some a =>
   obtain⟨b,l,b0⟩:=Option.map_eq_some_iff.mp hr;refine(PySem.W.looks_takesIn i l).andThen ?_;cases b
   ·exact .now
   ·cases b0
 have up:∀{W:Type}{m:Sem W}{a:W},PySem.W.Looks (model X.prog X.w) d.heap m a->PySem.W.Looks (model X.prog X.w) {d with toks:=d.toks+1}.heap m a:=λz=>z;rw[PySem.W.osa_eq,refuse_eq];refine zA (zA (wD (up J.type) (zA (wD (up b8) ?_))));rw[b6];refine zB (zA (wD (up J.type) (zA (wD (up (xV i c1)) (zA (wD (up c7) ?_))))));obtain⟨c,a2,c9,w,a4⟩:=d;have b2:c.get? p=some ⟨.ref C,none,.fields #[.ref t',.none,.none,.none,.bool false,.none],#[]⟩:=F;refine zA (zB (zA (zA (sW b2 (zA (wD (s:=⟨c,a2,c9,w+1,a4⟩) (sV i N) ?_))))));rw[c4];have k:p≠c.objs.size:=zU (zL F);have G:(c.push {cls:=.type "dict",data:=.dict #[]}).get? p=some (xExc C t' none):=zC _ F;refine zA (wpAny_alloc' (zA (wpAny_update' G (zB ?_))));have a5:((c.push {cls:=.type "dict",data:=.dict #[]}).update p λo=>{cls:=o.cls,dict:=some c.objs.size,data:=o.data,slots:=o.slots}).get? c.objs.size=some {cls:=.type "dict",data:=.dict #[]}:=
  (Heap.get?_update_ne _ _ _ _ k.symm).trans (Heap.get?_push_at rfl rfl)
 have a8:((c.push {cls:=.type "dict",data:=.dict #[]}).update p λo=>{cls:=o.cls,dict:=some c.objs.size,data:=o.data,slots:=o.slots}).Ns c.objs.size (λ_=>none):=
  ⟨_,#[],_,a5,rfl,λe L=>absurd L (by simp),λ_=>rfl⟩
 show wpAny _ _ (storeInDict c.objs.size (.str nm w) nm u) _ _ _;unfold storeInDict newKeyGuard;refine zA (zB (zA (wpAny_nsSet1 (Heap.Ns1.of_empty a8) λh' T V=>?_)));obtain⟨d2,d4,d3,U,d0,Z⟩:=T.count (Within.cons nm u Within.nil);refine zA (wpAny_lookBehind U (by rw[d0];exact pastItsLine_dict (zR Z (by rw[zX,List.length_nil,sizeLine_eq];omega))) (zB ?_));have d1:h'.get? p=some (xExc C t' (some c.objs.size)):=(V.2 p k).trans (yT _ G rfl);have b3:j c.objs.size=none:=r.hok.fresh (zF _);refine⟨_,_,?_,c6 c.objs.size b3 k.symm⟩;have c0:=r.laid (h':=c.push {cls:=.type "dict",data:=.dict #[]}) (t':=w) (a:=c.objs.size) (o:=XNew c.objs.size) (λb u z=>zC _ z) (zF _) (Rw (Heap.get?_push_at rfl rfl));have b1:(upd j c.objs.size (XNew c.objs.size)) p=some (XObj p C none):=by rw[pR k];exact Y
 have a7:=c0.write (h':=(c.push {cls:=.type "dict",data:=.dict #[]}).update p λo=>{cls:=o.cls,dict:=some c.objs.size,data:=o.data,slots:=o.slots}) (x:=p) (e:=p) (t':=w) (o:=XObj p C (some c.objs.size)) (by rw[b1];exact True.intro) (.inl rfl)
  (λb q l z=>(Heap.get?_update_ne _ _ _ _ l).trans z) ⟨_,yT _ G rfl⟩ (Ax (yT _ G rfl))
 have c3:(upd (upd j c.objs.size (XNew c.objs.size)) p (XObj p C (some c.objs.size))) c.objs.size=some (XNew c.objs.size):=by rw[pR k.symm,pN]
 have b4:upd (upd (upd j c.objs.size (XNew c.objs.size)) p (XObj p C (some c.objs.size))) c.objs.size (XDct c.objs.size nm v)=upd (upd j c.objs.size (XDct c.objs.size nm v)) p (XObj p C (some c.objs.size)):=by
  funext b
  by_cases g:b=c.objs.size
  ·subst g;rw[pN,pR k.symm,pN]
  ·by_cases K:b=p
   ·subst K;rw[pR g,pN,pN]
   ·rw[pR g,pR K,pR g,pR K,pR g]
 rw[←b4];exact a7.write (h':=h') (x:=c.objs.size) (e:=c.objs.size) (o:=XDct c.objs.size nm v) (by rw[c3];exact True.intro) (.inl rfl) (λb q l z=>(V.2 b l).trans z) ⟨_,U⟩ (Rx (u:=u) T (by simp) a0)
end
theorem Ru{prog:Program}{w:World}{A:Around}{E:VP}{s:Shared}{K:Frag}{x C:Addr}{e od:Obj}{nm:Str}{v:Value}{c:Bool}{Q:VP}(F:gM K C)(n:PySem.W.findIn K (.ref C) nm=some none)(m:PySem.W.hasDictIn K C=true)(KX:K.In s.heap)
  (b:PySem.W.InstAt s.heap x e C (some od))(hl:PySem.W.lookIn nm od=some (some v))(a:PySem.W.handedIn v=true)(h:Q v {s with toks:=s.toks+1}):wpAny (model prog w) A (getAttr (.ref x) nm c) Q E s:=by
 obtain⟨hh,g,d,j,G⟩:=s;have f:PySem.W.Looks (model prog w) hh (typeOf (.ref x)) (.ref C):=b.type;have u:=xV (M:=model prog w) KX F.ga;have o:=xV (M:=model prog w) KX F.gt;have k:=uP (M:=model prog w) KX F.bx;have r:=PySem.W.looks_find (M:=model prog w) KX b (PySem.W.findObj_own m n rfl hl);unfold getAttr getAttrBy;refine zA (qJ (yL (zA (f.at (zA (u.at ?_))))));show wpAny _ _ (getAttrByItsOwn _ _ _ _ _ _) _ _ _;unfold getAttrByItsOwn;refine zA (show wpAny _ _ (hookBefore (.ref C)) _ _ _ from o.at ?_);refine zA (wJ (yL ?_));unfold callGetattribute;rw[zE (show¬ (c && onTheHeap (Value.builtin "BaseException.__getattribute__"))=true by cases c <;> decide)];unfold boundAndCalled;rw[PySem.F.attr_ValueError.ga.bind (.ref x)];refine zA (zB (vS ?_));refine vA PySem.F.attr_ValueError.ga.plain PySem.F.entry_bexc_ga ?_;have l:builtinKind "BaseException.__getattribute__"=some .slot:=nofun
 have p:splitId "BaseException.__getattribute__"=some ("BaseException","__getattribute__"):=nofun
 have D:=PySem.F.args_bexc_ga (.ref x) (.str nm j);have t:PySem.W.Looks (model prog w) hh (isInstance (.ref x) (.type "BaseException")) true:=f.andThen k;show wpAny _ _ (checkBuiltinCall "BaseException.__getattribute__" ⟨[.ref x,.str nm j],[]⟩) _ _ _;simp only[checkBuiltinCall,l,p];refine zA (t.at ?_)
 repeat wp_step
 refine sW b.at_ ?_;show wpAny _ _ (pure e.cls) _ _ _;rw[b.cls];refine zB (zA (r.at ?_))
 repeat wp_step
 cases v <;> first|exact zB h|skip;rename_i i;dsimp only;rw[zE]
 ·exact zB h
 ·replace a:(withoutEnding? i "#data").isNone=true:=a;intro q;cases z:withoutEnding? i "#data" with
  |none=>rw[z]at q;cases q
  |some y=>rw[z]at a;cases a
structure XGt(K:Frag)(C:Addr)(f:Str):Prop where
 F:gM K C
 na:PySem.W.findIn K (.ref C) f=some none
 hd:PySem.W.hasDictIn K C=true
def Rt:List V->Hp->VK->Prop:=λvs H Q=>∃x p b,vs=[x,.ref p]/\H p=some (.tup [.ty "list",.ty "tuple"])/\((∃i,x=.int i/\b=false)\/∃a xs,x=.ref a/\H a=some (.lst xs)/\b=true)/\Q (.bl b) H
theorem Gv{X:Cx}(D:PySem.W.kitOne X.K (.type "int") (.type "list")=some false)(t:PySem.W.kitOne X.K (.type "int") (.type "tuple")=some false):mI X (.builtin "isinstance") Rt:=by
 intro g s j H xs us Q I k h;obtain⟨x,p,b,rfl,F,m,q⟩:=h;obtain⟨u,v,rfl,f,C⟩:=k.two;cases C;have c:∀tk,EP X g j Q (.bool b) {s with toks:=tk}:=λtk=>⟨.bl b,H,I.tok tk,rfl,q⟩;obtain⟨_,its,y,⟨⟨N,od,J,M⟩,e1,d,n,e⟩⟩:=(show oK X.prog X.w H s.heap p (.tup _) from I.hok p _ F);obtain⟨G,L,rfl,o,w⟩:=y.two;cases o;cases w;dsimp only at d e;subst d e;rcases m with⟨i,rfl,rfl⟩|⟨a,ys,rfl,r,rfl⟩
 ·obtain⟨K,rfl⟩:=f;exact PySem.W.kia_tup PySem.W.kitx_int I.kIn True.intro e1 (by unfold PySem.W.kitAny;rw[D];show PySem.W.kitAny _ _ _=_;unfold PySem.W.kitAny;rw[t];rfl) (λz=>nomatch z) c
 ·cases f;obtain⟨_,_,n,_,l⟩:=(show oK X.prog X.w H s.heap a (.lst ys) from I.hok a _ r);exact PySem.W.kia_tup rL I.kIn ⟨_,l,rfl⟩ e1 (by rfl) (λz=>nomatch z) c
def gS:Value->Bool
 |.bool b=>b
 |_=>false
theorem Gu:∀{bs:List Bool}{its:LW},Vals (bs.map V.bl) its->its.countP gS=bs.countP id
 |[],_,.nil=>rfl
 |b:: r,_,.cons h q=>by
  have a:=Gu (bs:=r) q;have e:_=Value.bool b:=h;subst e;rw[List.countP_cons,List.countP_cons,a];rfl
theorem Gs{bs:List Bool}{its:LW}(r:Vals (bs.map V.bl) its){A:Around}{s:Shared}:∀y,y∈its.toArray->PySem.SeqAt.EqAt A s y (.bool true) (gS y):=λy a=>by
 obtain⟨i,hi⟩:=xP (List.mem_toArray.mp a);obtain⟨b,_,rfl⟩:=dY r i y hi;have:=PySem.SeqAt.EqAt.bool_bool (A:=A) (s:=s) b true;have e:(b == true)=gS (.bool b):=by cases b <;> rfl
 rw[e]at this;exact this
section
variable {X:Cx}
def Rr:V->List V->Hp->VK->Prop:=λx vs H Q=>∃(l:Addr)(bs:List Bool),x=.ref l/\vs=[.bl true]/\H l=some (.lst (bs.map V.bl))/\Q (.int ((bs.countP id:Nat):Int)) H
theorem Rq:MtM X "list.count" Rr:=by
 intro f s g H x vs v us Q I d a h;obtain⟨l,bs,rfl,rfl,c,q⟩:=h;cases d;obtain⟨u,rfl,b⟩:=a.one;cases b;obtain⟨z,its,n,r,hl,e⟩:=I.lstM c;refine rN F.slot_list_count ⟨_,e,rfl⟩ F.entry_list_count (F.args_list_count_2 _ _) (PySem.SeqAt.list_countAt l its.toArray n _ _ (.bool true) gS) ⟨e,Gs r,?_⟩;rw[List.toList_toArray,Gu r];exact⟨.int _,H,I.tok _,⟨_,rfl⟩,q⟩
def Rp:V->List V->Hp->VK->Prop:=λx vs H Q=>∃(l:Addr)(bs:List Bool)(j:Nat),x=.ref l/\vs=[.bl true]/\H l=some (.lst (bs.map V.bl))/\bs[j]?=some true/\(∀i,i<j->bs[i]?=some false)/\j<1000/\Q (.int (j:Nat)) H
theorem Ro:MtM X "list.index" Rp:=by
 intro J s K H x vs v us Q I t o h;obtain⟨l,bs,j,rfl,rfl,C,a,y,L,q⟩:=h;cases t;obtain⟨u,rfl,p⟩:=o.one;cases p;obtain⟨z,its,n,r,hl,e⟩:=I.lstM C;have D:its.length=bs.length:=by have:=r.length;simpa using this.symm
 have f:j<its.toArray.size:=by
  rw[zT,D];exact(pB.mp a).1
 have get:∀(i:Nat)(hi:i<its.toArray.size)(b:Bool),bs[i]?=some b->gS its.toArray[i]=b:=λi hi b G=>by
  have g:its[i]?=some its.toArray[i]:=by
   rw[List.getElem_toArray];exact vF _
  obtain⟨c,d,w⟩:=dY r i _ g;rw[G]at d;cases d;rw[w];rfl
 refine rN F.slot_list_index ⟨_,e,rfl⟩ F.entry_list_index (F.args_list_index_2 _ _) (PySem.SeqAt.list_indexAt l its.toArray n _ _ (.bool true) gS j f ⋯ (get j f true a) λm k h=>get m k false (y m h)) ⟨e,Gs r,?_⟩;exact⟨.int _,H,I.tok _,⟨_,rfl⟩,q⟩
end
mutual
theorem Dt.upS{K:Frag}{H H':Hp}(s:Same H H'):∀{x:V}{d:PyData},Dt K H x d->Dt K H' x d
 |_,_,.non=>.non
 |_,_,.bl b=>.bl b
 |_,_,.int i=>.int i
 |_,_,.str x=>.str x
 |_,_,.lst h a=>.lst (s.seq h) (Dts.upS s a)
 |_,_,.tup h a=>.tup (s.tup h) (Dts.upS s a)
theorem Dts.upS{K:Frag}{H H':Hp}(s:Same H H'):∀{xs:List V}{ds:List PyData},Dts K H xs ds->Dts K H' xs ds
 |_,_,.nil=>.nil
 |_,_,.cons h t=>.cons (Dt.upS s h) (Dts.upS s t)
end
theorem Dts.len{K:Frag}{H:Hp}:∀{xs:List V}{ds:List PyData},Dts K H xs ds->xs.length=ds.length
 |_,_,.nil=>rfl
 |_,_,.cons _ t=>wE (·+1) (Dts.len t)
theorem Dts.app{K:Frag}{H:Hp}{ys:List V}{es:List PyData}(k:Dts K H ys es):∀{xs:List V}{ds:List PyData},Dts K H xs ds->Dts K H (xs++ys) (ds++es)
 |_,_,.nil=>k
 |_,_,.cons h t=>.cons h (Dts.app k t)
theorem Dts.at{K:Frag}{H:Hp}:∀{xs:List V}{ds:List PyData}{i:Nat}{d:PyData},Dts K H xs ds->ds[i]?=some d->∃x,xs[i]?=some x/\Dt K H x d
 |_,_,i,d,.nil,e=>by simp at e
 |_,_,0,d,.cons h _,e=>by cases e;exact⟨_,rfl,h⟩
 |_,_,i+1,d,.cons _ t,e=>by simpa using Dts.at t (by simpa using e)
abbrev nO:=List (Str×Nat×PyData)
def litA(f:Expr->Option PyData):List Expr->Option (List PyData)
 |[]=>some []
 |e:: es=>match f e,litA f es with|some d,some ds=>some (d:: ds)|_,_=>none
def litN(ρ:nO)(x:Str):Option (Nat×PyData):=(ρ.find? λe=>decide (e.1=x)).map (·.2)
def litW(ρ:nO)(f:Expr->Option PyData):Expr->Option PyData
 |.Name x _=>(litN ρ x).map (·.2)
 |.Tuple es _ _=>(litA f es).bind λds=>if ds.length<=100 then some (.tuple ds) else none
 |.List es _=>(litA f es).bind λds=>if ds.length<=100 then some (.list ds) else none
 |e=>(litI e).map PyData.int
def litD(ρ:nO):Nat->Expr->Option PyData
 |0=>λ_=>none
 |n+1=>litW ρ (litD ρ n)
section
variable {X:Cx}
def DtE(K:Frag)(σ:St)(H:Hp)(ρ:nO):Prop:=∀e∈ρ,∃v,σ[e.2.1]?=some (some v)/\Dt K H v e.2.2
theorem DtE.up{K:Frag}{c:St}{H H':Hp}{d:nO}(h:DtE K c H d)(s:Same H H'):DtE K c H' d:=λe f=>let ⟨v,a,b⟩:=h e f;⟨v,a,b.upS s⟩
abbrev Ns24(X:Cx)(ρ:nO):Prop:=∀e∈ρ,X.N[e.2.1]?=some e.1/\Vis X.env.scope e.1/\(e.1 == ("__debug__" :Str))=false/\(e.1 == ("__classdict__" :Str))=false
def tLit(K:Frag)(ρ:nO)(d:PyData):TE:=λσ H Q=>DtE K σ H ρ/\∀v H',Same H H'->Dt K H' v d->Q v H'
def Rn(K:Frag)(ρ:nO)(ds:List PyData):TA:=λσ H Q=>DtE K σ H ρ/\∀vs H',Same H H'->Dts K H' vs ds->Q vs H'
abbrev Pe24(X:Cx)(ρ:nO)(e:Expr)(d:PyData):Prop:=PE X e (tLit X.K ρ d)/\∀es,starEach (e:: es) X.env=(false,eval e X.env):: starEach es X.env
theorem cJ{a:nO}{f:Expr->Option PyData}(b:∀e d,f e=some d->Pe24 X a e d):∀{es:List Expr}{ds:List PyData},litA f es=some ds->PA X es (Rn X.K a ds)
 |[],ds,h=>by
  cases h;exact pK.weak λk H Q q=>q.2 [] H (Same.refl _) .nil
 |e:: es,ds,h=>by
  unfold litA at h;split at h
  ·rename_i d n i m;cases h;obtain⟨p,st⟩:=b e d i;refine(pJ p (cJ b m) (st es)).weak λk H Q q=>?_;refine⟨q.1,λv o g j=>⟨q.1.up g,λvs l c dvs=>?_⟩⟩;exact q.2 (v:: vs) l (g.trans c) (.cons (j.upS c) dvs)
  ·cases h
theorem Rm{a:nO}{x:Str}{r:Nat×PyData}(h:litN a x=some r):(x,r)∈a:=by
 unfold litN at h;cases hf:a.find? (λe=>decide (e.1=x)) with
 |none=>rw[hf]at h;cases h
 |some e =>
  rw[hf]at h;have b:=List.mem_of_find?_eq_some hf;have c:e.1=x:=xF (List.find?_some (p:=λe:Str×Nat×PyData=>decide (e.1=x)) hf);cases h;rw[←c];exact b
theorem Gr{f:nO}(ns:Ns24 X f):∀(n:Nat)(e:Expr)(d:PyData),litD f n e=some d->Pe24 X f e d:=by
 intro n
 induction n with
 |zero=>intro e d h;cases h
 | succ n m =>
  intro e d h;replace h:litW f (litD f n) e=some d:=h;unfold litW at h;split at h
  ·rename_i x p;cases hl:litN f x with
   |none=>rw[hl]at h;cases h
   |some r =>
    rw[hl]at h;cases h;have o:=Rm hl;obtain⟨a,b,c,d'⟩:=ns _ o;refine⟨(pv r.1 a b c d').weak λk H Q q=>?_,λ_=>rfl⟩;obtain⟨v,e1,t⟩:=q.1 _ o;exact⟨v,e1,q.2 v H (Same.refl _) t⟩
  ·rename_i es u y;cases hl:litA (litD f n) es with
   |none=>rw[hl]at h;cases h
   | some ds =>
    rw[hl]at h;dsimp only[Option.bind_some]at h;split at h
    ·cases h;refine⟨(oX (cJ m hl)).weak λk H Q q=>⟨q.1,λvs w l g=>⟨?_,λp j=>?_⟩⟩,λ_=>rfl⟩
     ·rw[g.len];exact zR ‹_› ∅
     ·exact q.2 _ _ (l.trans (Same.new j)) (.tup (SqT.of pN) (g.upS (Same.new j)))
    ·cases h
  ·rename_i es u;cases hl:litA (litD f n) es with
   |none=>rw[hl]at h;cases h
   | some ds =>
    rw[hl]at h;dsimp only[Option.bind_some]at h;split at h
    ·cases h;refine⟨(nW (cJ m hl)).weak λk H Q q=>⟨q.1,λvs w l g=>⟨?_,λp j=>?_⟩⟩,λ_=>rfl⟩
     ·rw[g.len];exact zR ‹_› ∅
     ·exact q.2 _ _ (l.trans (Same.new j)) (.lst (SqL.of pN) (g.upS (Same.new j)))
    ·cases h
  ·cases hl:litI e with
   |none=>rw[hl]at h;cases h
   |some i =>
    rw[hl]at h;cases h;obtain⟨p,st⟩:=Fy (X:=X) hl;exact⟨p.weak λk H Q q=>q.2 _ H (Same.refl _) (.int i),st⟩
def cK(K:Frag)(ρ:nO)(ds:List PyData):TE:=λσ H Q=>DtE K σ H ρ/\∀l xs H',Same H H'->H' l=some (.lst xs)->Dts K H' xs ds->Q (.ref l) H'
def litL(ρ:nO):Expr->Option (List PyData)
 |.List es _=>(litA (litD ρ 9) es).bind λds=>if ds.length<=100 then some ds else none
 |_=>none
theorem Au{a:nO}(ns:Ns24 X a){e:Expr}{ds:List PyData}(h:litL a e=some ds):PE X e (cK X.K a ds):=by
 unfold litL at h;split at h
 ·rename_i es p;cases hl:litA (litD a 9) es with
  |none=>rw[hl]at h;cases h
  | some g =>
   rw[hl]at h;dsimp only[Option.bind_some]at h;split at h
   ·cases h;refine(nW (cJ (Gr ns 9) hl)).weak λf H Q q=>⟨q.1,λvs i d b=>⟨?_,λp c=>?_⟩⟩
    ·rw[b.len];exact zR ‹_› ∅
    ·exact q.2 _ _ _ (d.trans (Same.new c)) pN (b.upS (Same.new c))
   ·cases h
 ·cases h
def isTu:Expr->Bool
 |.Tuple _ _ _=>true
 |_=>false
theorem Rl{es:List Expr}{k:Nat}{a:Pos}{b:Option Expr}{l:Nat}{env:Env}(c:∀es k a,b≠some (.Tuple es k a)):swapsWith (.Tuple es k a) b l env=pure false:=by
 cases b with
 |none=>rfl
 |some x=>cases x <;> first|rfl|exact absurd rfl (c _ _ _)
def asgT(ρ:nO):Stmt->Option (Str×PyData)
 |.Assign [.Name y _] e _=>if isTu e=true then(litD ρ 9 e).map λd=>(y,d) else none
 |_=>none
def asgL(ρ:nO):Stmt->Option (Str×List PyData)
 |.Assign [.Name y _] e _=>if isList e=true then(litL ρ e).map λd=>(y,d) else none
 |_=>none
def asgC(ρ:nO):Stmt->Option (Str×Str×List PyData)
 |.Assign [.Name y _] (.BinOp (.Name z _) .Add e _) _=>(litL ρ e).map λd=>(y,z,d)
 |_=>none
def retC(ρ:nO):Stmt->Option (Str×Str×Int×List PyData)
 |.Return (some (.Subscript (.BinOp (.Name z _) .Add e _) (.BinOp (.Name m _) .Mod o _) _)) _=>match litI o,litL ρ e with|some k,some d=>some (z,m,k,d)|_,_=>none
 |_=>none
variable {st:Stmt} {ρ:nO} {i j:Nat} {x n:Str}
theorem gU{d:PyData}(h:asgT ρ st=some (x,d))(ns:Ns24 X ρ)(b:X.N.Nodup)(hi:X.N[i]?=some x)(a:X.env.scope.names.lookup x=some .local):PS X st (tAsg (tLit X.K ρ d) (pY i)):=by
 unfold asgT at h;split at h
 ·rename_i y p e q;split at h
  ·rename_i hl;cases he:litD ρ 9 e with
   |none=>rw[he]at h;cases h
   |some d' =>
    rw[he]at h;cases h;unfold isTu at hl;split at hl
    ·exact pW b hi (.inl a) (Gr ns 9 _ _ he).1 (Rl λ_ _ _ z=>by cases z) (.inr a)
    ·cases hl
  ·cases h
 ·cases h
theorem Gq{ds:List PyData}(h:asgL ρ st=some (x,ds))(ns:Ns24 X ρ)(b:X.N.Nodup)(hi:X.N[i]?=some x)(a:X.env.scope.names.lookup x=some .local):PS X st (tAsg (cK X.K ρ ds) (pY i)):=by
 unfold asgL at h;split at h
 ·rename_i y p e q;split at h
  ·rename_i hl;cases he:litL ρ e with
   |none=>rw[he]at h;cases h
   |some d' =>
    rw[he]at h;cases h;unfold isList at hl;split at hl
    ·exact pW b hi (.inl a) (Au ns he) Oj (.inr a)
    ·cases hl
  ·cases h
 ·cases h
theorem gB{ds:List PyData}(h:asgC ρ st=some (x,x,ds))(ns:Ns24 X ρ)(b:X.N.Nodup)(hi:X.N[i]?=some x)(a:X.env.scope.names.lookup x=some .local)(v2:(x == ("__debug__" :Str))=false)(v3:(x == ("__classdict__" :Str))=false):PS X st (tAsg (tOp rCat (tVar i) (cK X.K ρ ds)) (pY i)):=by
 unfold asgC at h;split at h
 ·rename_i y p z c e d q;cases he:litL ρ e with
  |none=>rw[he]at h;cases h
  |some d' =>
   rw[he]at h;cases h;exact pW b hi (.inl a) (pQ jO (pv i hi (.inl a) v2 v3) (Au ns he)) Oi (.inr a)
 ·cases h
theorem Gp{ds:List PyData}{k:Int}(h:retC ρ st=some (x,n,k,ds))(ns:Ns24 X ρ)(hi:X.N[i]?=some x)(a:X.N[j]?=some n)(f:Vis X.env.scope x)(v2:(x == ("__debug__" :Str))=false)(v3:(x == ("__classdict__" :Str))=false)(c:Vis X.env.scope n)(l:(n == ("__debug__" :Str))=false)(d:(n == ("__classdict__" :Str))=false):PS X st (tRet (tOp (rIxB X.K) (tOp rCat (tVar i) (cK X.K ρ ds)) (tOp (rI (λ_ j=>j≠0) λi j=>.int (i.fmod j)) (tVar j) (tC (.int k))))):=by
 unfold retC at h;split at h
 ·rename_i z p e u m t o v r w;split at h
  ·rename_i q d' b g;cases h;exact oB (nN ix_B (pQ jO (pv i hi f v2 v3) (Au ns g)) (pQ nZ (pv j a c l d) (Fy b).1) λ_ _=>rfl)
  ·cases h
 ·cases h
end
end L2
namespace Cw
open PySem L2
abbrev pa':List Str:=["_law_n","_law_one","_law_spot","_law_way","_law_other"]
abbrev pb':List Str:=["_law_one","_law_i","_law_j","_law_by"]
abbrev pc':List Str:=["_law_group","_law_way","_law_most"]
abbrev pd':List Str:=["self","d","makers","most"]
abbrev pe':List Str:=["_law_tops","_law_under"]
abbrev pf':List Str:=["_law_one","_law_other"]
abbrev pg':List Str:=["_law_script","_law_k"]
abbrev ph':List Str:=["_law_one","_law_spot"]
abbrev pi':List Str:=["rows","tops","under"]
abbrev pj':List Str:=["group","way","most"]
abbrev pk':List Str:=["d","makers","most"]
abbrev pl':List Str:=["_law_d","_law_by"]
abbrev pm':List Str:=["group","vectors"]
abbrev pn':List Str:=["count","vectors"]
abbrev po':List Str:=["_law_d","_law_k"]
abbrev pp':List Str:=["vectors","spot"]
abbrev pq':List Str:=["_law_cell_here"]
abbrev pr':List Str:=["self","apart"]
abbrev pt':List Str:=["rows","i","k"]
abbrev pu':List Str:=["rows","count"]
abbrev pv':List Str:=["table","spot"]
abbrev pw':List Str:=["one","other"]
abbrev px':List Str:=["rows","spot"]
abbrev py':List Str:=["_law_number"]
abbrev pz':List Str:=["_law_script"]
abbrev pA':List Str:=["axes","one"]
abbrev pB':List Str:=["spot","one"]
abbrev pC':List Str:=["self","one"]
abbrev pD':List Str:=["rows"]
abbrev pE':List Str:=["self"]
abbrev pF':List Str:=["one"]
open PySem.W (nsIn keepIn codeIn findIn fnOf mg_of kitOne)
open PyProof.Rows (mulOk_of_bits)
theorem zqe{a b:Type}{l:List a}{f:a->b}:(l.map f).length=l.length:=yN ..
theorem zqa{b:Type}{l:List b}{i:Nat}{a:b}(h:l[i]?=some a):∃h:i<l.length,l[i]=a:=pB.mp h
theorem zqb{b:Type}{l:List b}{i:Nat}{a:b}(h:l[i]?=some a):a∈l:=vB h
theorem zqc{b:Type}{l:List b}{i:Nat}{a:b}:l.getD i a=l[i]?.getD a:=uL
theorem zqd{a:Type}{l:List a}{i:Nat}(h:i<l.length):l[i]?=some l[i]:=vF h
open PySem.W (Frag)
abbrev LM:=List (LI')
def top(i:Nat):Stmt:=PySem.Challenge.pw_crystalwords_k58_refused_in_order.main.body.getD i (.Pass ⟨0,0,0,0⟩)
abbrev s_1h:Stmt:=top 2
abbrev N_1h:List Str:=["thing"]
abbrev s_6:Stmt:=gL (top 8) 0
abbrev N_6:List Str:=pr'
abbrev s_15:Stmt:=top 20
abbrev N_15:List Str:=["one","other","greater","lesser","remainder"]
abbrev s_16:Stmt:=top 21
abbrev N_16:List Str:=["numbers","least","number"]
abbrev s_12:Stmt:=top 23
abbrev N_12:List Str:=["tops","under","common","top"]
abbrev cL:Stmt:=top 24
abbrev N_w:List Str:=["one","under"]
abbrev s_13:Stmt:=top 25
abbrev N_13:List Str:=["one","other","tops"]
abbrev s_19:Stmt:=top 26
abbrev N_19:List Str:=pF'
abbrev s_11:Stmt:=top 27
abbrev N_11:List Str:=pw'
abbrev cN:Stmt:=top 29
abbrev N_l:List Str:=["size"]
abbrev s_20:Stmt:=top 30
abbrev N_20:List Str:=pw'
abbrev s_1e:Stmt:=top 31
abbrev N_1e:List Str:=pD'
abbrev s_1t:Stmt:=top 32
abbrev N_1t:List Str:=["one","other","columns"]
abbrev s_1b:Stmt:=top 33
abbrev N_1b:List Str:=pt'
abbrev s_1:Stmt:=top 34
abbrev N_1:List Str:=["rows","total","sign","k","number"]
abbrev s_18:Stmt:=top 35
abbrev N_18:List Str:=["rows","i","k","sign"]
abbrev s_1g:Stmt:=top 36
abbrev N_1g:List Str:=["rows","size"]
abbrev s_1n:Stmt:=top 37
abbrev N_1n:List Str:=pu'
abbrev s_1a:Stmt:=top 39
abbrev N_1a:List Str:=px'
abbrev s_1v:Stmt:=top 40
abbrev N_1v:List Str:=["rows","tops","under","axes"]
abbrev s_1w:Stmt:=top 41
abbrev N_1w:List Str:=["d"]
abbrev s_23:Stmt:=top 42
abbrev N_23:List Str:=pF'
abbrev s_1r:Stmt:=top 43
abbrev N_1r:List Str:=["one","spot","tops"]
abbrev s_1l:Stmt:=top 44
abbrev N_1l:List Str:=["one","other","columns","rows"]
abbrev s_1x:Stmt:=top 45
abbrev N_1x:List Str:=pF'
abbrev s_1c:Stmt:=top 47
abbrev N_1c:List Str:=["vectors","spot","axes"]
abbrev s_2:Stmt:=top 48
abbrev N_2:List Str:=pA'
abbrev s_1o:Stmt:=top 49
abbrev N_1o:List Str:=["one","under","columns"]
abbrev s_22:Stmt:=top 50
abbrev N_22:List Str:=["one","table"]
abbrev s_26:Stmt:=top 51
abbrev N_26:List Str:=pv'
abbrev s_9:Stmt:=top 52
abbrev N_9:List Str:=["one","other","table"]
abbrev s_14:Stmt:=top 53
abbrev N_14:List Str:=pB'
abbrev At:Stmt:=top 54
abbrev N_u:List Str:=pB'
abbrev eL:Stmt:=top 55
abbrev N_k:List Str:=["one","way","old","new","rows","under","whole"]
abbrev As:Stmt:=top 58
abbrev N_n:List Str:=["most"]
abbrev s_10:Stmt:=top 59
abbrev N_10:List Str:=["d","makers","maker"]
abbrev s_1f:Stmt:=top 60
abbrev N_1f:List Str:=["d","makers","most","steps","found","words","at","number","step","reached"]
abbrev s_0:Stmt:=gL (top 61) 0
abbrev N_0:List Str:=["self","d","makers","most","words"]
abbrev Ar:Stmt:=gL (top 61) 1
abbrev N_h:List Str:=pE'
abbrev Aq:Stmt:=gL (top 61) 2
abbrev N_d:List Str:=pE'
abbrev s_3:Stmt:=gL (top 61) 3
abbrev N_3:List Str:=pE'
abbrev Ap:Stmt:=gL (top 61) 5
abbrev N_y:List Str:=pC'
abbrev s_17:Stmt:=top 62
abbrev N_17:List Str:=["d","deeds","group","one"]
abbrev Ao:Stmt:=top 64
abbrev N_p:List Str:=["group","vectors","vector"]
abbrev s_1s:Stmt:=top 65
abbrev N_1s:List Str:=["count","vectors","top","under","vector"]
abbrev s_5:Stmt:=top 66
abbrev N_5:List Str:=["group","way","most","deeds","units"]
abbrev An:Stmt:=top 68
abbrev N_x:List Str:=pg'
abbrev Am:Stmt:=top 69
abbrev N_t:List Str:=["_law_one","_law_other","_law_left"]
abbrev cO:Stmt:=top 70
abbrev N_m:List Str:=["_law_tops","_law_under","_law_by","_law_top"]
abbrev cP:Stmt:=top 71
abbrev N_j:List Str:=["_law_d"]
abbrev iH:Stmt:=top 72
abbrev N_r:List Str:=["_law_number","_law_turn","_law_flip","_law_swap","_law_four","_law_three","_law_same_rows","_law_some"]
abbrev iI:Stmt:=top 73
abbrev N_s:List Str:=["_law_number","_law_half","_law_same_rows","_law_some"]
abbrev gW:Stmt:=top 74
abbrev N_e:List Str:=["_law_one","_law_i","_law_j","_law_by","_law_rows","_law_k","_law_tops"]
abbrev cQ:Stmt:=top 75
abbrev N_i:List Str:=["_law_one","_law_spot","_law_tops","_law_i","_law_far","_law_low"]
abbrev gX:Stmt:=top 76
abbrev N_b:List Str:=["_law_script","_law_start","_law_d","_law_makers_here","_law_cell_here","_law_spot","_law_most","_law_k","_law_i","_law_j"]
abbrev Al:Stmt:=top 77
abbrev N_g:List Str:=["_law_e","_law_some"]
abbrev Ak:Stmt:=top 78
abbrev N_f:List Str:=["_law_group","_law_way","_law_most","_law_word","_law_e"]
abbrev Aj:Stmt:=top 79
abbrev N_v:List Str:=["_law_n","_law_one","_law_spot","_law_way","_law_other","_law_word","_law_e"]
abbrev eM:Stmt:=top 80
abbrev N_z:List Str:=["_law_d","_law_by","_law_vectors"]
abbrev eN:Stmt:=top 81
abbrev N_q:List Str:=["_law_d","_law_k","_law_vectors"]
abbrev Ai:Stmt:=top 82
abbrev N_o:List Str:=pq'
abbrev s_24:Stmt:=top 83
abbrev N_24:List Str:=["_law_script","_law_d","_law_makers_here","_law_group","_law_members","_law_cell_here","_law_k","_law_half","_law_flat_here","_law_odd","_law_way","_law_n","_law_least","_law_once_more"]
local macro_rules | `(tactic| walk_at "s")=>`(tactic| exact ⟨rfl,rfl,rfl,by decide +kernel,rfl,by decide +kernel,by decide +kernel⟩)
local macro_rules | `(tactic| walk_at "v")=>`(tactic| (intro _ _ _ _ h; first | (obtain ⟨_,hh,_⟩:=h; subst hh; rfl) | (obtain ⟨_,_,hh,_⟩:=h; subst hh; rfl) | (obtain ⟨_,_,_,hh,_⟩:=h; subst hh; rfl) | (obtain ⟨_,_,_,_,hh,_⟩:=h; subst hh; rfl) | (obtain ⟨_,_,_,_,_,hh,_⟩:=h; subst hh; rfl) | (obtain ⟨_,_,_,_,_,_,hh,_⟩:=h; subst hh; rfl) | (obtain ⟨_,_,_,_,_,_,_,hh,_⟩:=h; subst hh; rfl) | (obtain ⟨_,_,_,_,_,_,_,_,hh,_⟩:=h; subst hh; rfl) | (obtain ⟨_,_,_,_,_,_,_,_,_,hh,_⟩:=h; subst hh; rfl) | (obtain ⟨_,_,_,_,_,_,_,_,_,_,_,_,hh,_⟩:=h; subst hh; rfl)))
theorem sc_1h:pX N_1h ["thing"] (pM s_1h):=by walk_at "s"
theorem sc_6:pX N_6 pr' (pM s_6):=by walk_at "s"
theorem sc_15:pX N_15 pw' (pM s_15):=by walk_at "s"
theorem sc_16:pX N_16 ["numbers"] (pM s_16):=by walk_at "s"
theorem sc_12:pX N_12 ["tops","under"] (pM s_12):=by walk_at "s"
theorem sc_w:pX N_w pF' (pM cL):=by walk_at "s"
theorem sc_13:pX N_13 pw' (pM s_13):=by walk_at "s"
theorem sc_19:pX N_19 pF' (pM s_19):=by walk_at "s"
theorem sc_11:pX N_11 pw' (pM s_11):=by walk_at "s"
theorem sc_l:pX N_l ["size"] (pM cN):=by walk_at "s"
theorem sc_20:pX N_20 pw' (pM s_20):=by walk_at "s"
theorem sc_1e:pX N_1e pD' (pM s_1e):=by walk_at "s"
theorem sc_1t:pX N_1t pw' (pM s_1t):=by walk_at "s"
theorem sc_1b:pX N_1b pt' (pM s_1b):=by walk_at "s"
theorem sc_1:pX N_1 pD' (pM s_1):=by walk_at "s"
theorem sc_18:pX N_18 pt' (pM s_18):=by walk_at "s"
theorem sc_1g:pX N_1g pD' (pM s_1g):=by walk_at "s"
theorem sc_1n:pX N_1n pu' (pM s_1n):=by walk_at "s"
theorem sc_1a:pX N_1a px' (pM s_1a):=by walk_at "s"
theorem sc_1v:pX N_1v pi' (pM s_1v):=by walk_at "s"
theorem sc_1w:pX N_1w ["d"] (pM s_1w):=by walk_at "s"
theorem sc_23:pX N_23 pF' (pM s_23):=by walk_at "s"
theorem sc_1r:pX N_1r ["one","spot"] (pM s_1r):=by walk_at "s"
theorem sc_1l:pX N_1l pw' (pM s_1l):=by walk_at "s"
theorem sc_1x:pX N_1x pF' (pM s_1x):=by walk_at "s"
theorem sc_1c:pX N_1c pp' (pM s_1c):=by walk_at "s"
theorem sc_2:pX N_2 pA' (pM s_2):=by walk_at "s"
theorem sc_1o:pX N_1o pF' (pM s_1o):=by walk_at "s"
theorem sc_22:pX N_22 pF' (pM s_22):=by walk_at "s"
theorem sc_26:pX N_26 pv' (pM s_26):=by walk_at "s"
theorem sc_9:pX N_9 pw' (pM s_9):=by walk_at "s"
theorem sc_14:pX N_14 pB' (pM s_14):=by walk_at "s"
theorem sc_u:pX N_u pB' (pM At):=by walk_at "s"
theorem sc_k:pX N_k ["one","way"] (pM eL):=by walk_at "s"
theorem sc_n:pX N_n ["most"] (pM As):=by walk_at "s"
theorem sc_10:pX N_10 ["d","makers"] (pM s_10):=by walk_at "s"
theorem sc_1f:pX N_1f pk' (pM s_1f):=by walk_at "s"
theorem sc_0:pX N_0 pd' (pM s_0):=by walk_at "s"
theorem sc_h:pX N_h pE' (pM Ar):=by walk_at "s"
theorem sc_d:pX N_d pE' (pM Aq):=by walk_at "s"
theorem sc_3:pX N_3 pE' (pM s_3):=by walk_at "s"
theorem sc_y:pX N_y pC' (pM Ap):=by walk_at "s"
theorem sc_17:pX N_17 ["d","deeds"] (pM s_17):=by walk_at "s"
theorem sc_p:pX N_p pm' (pM Ao):=by walk_at "s"
theorem sc_1s:pX N_1s pn' (pM s_1s):=by walk_at "s"
theorem sc_5:pX N_5 pj' (pM s_5):=by walk_at "s"
theorem sc_x:pX N_x pg' (pM An):=by walk_at "s"
theorem sc_t:pX N_t pf' (pM Am):=by walk_at "s"
theorem sc_m:pX N_m pe' (pM cO):=by walk_at "s"
theorem sc_j:pX N_j ["_law_d"] (pM cP):=by walk_at "s"
theorem sc_r:pX N_r py' (pM iH):=by walk_at "s"
theorem sc_s:pX N_s py' (pM iI):=by walk_at "s"
theorem sc_e:pX N_e pb' (pM gW):=by walk_at "s"
theorem sc_i:pX N_i ph' (pM cQ):=by walk_at "s"
theorem sc_b:pX N_b pz' (pM gX):=by walk_at "s"
theorem sc_g:pX N_g ["_law_e"] (pM Al):=by walk_at "s"
theorem sc_f:pX N_f pc' (pM Ak):=by walk_at "s"
theorem sc_v:pX N_v pa' (pM Aj):=by walk_at "s"
theorem sc_z:pX N_z pl' (pM eM):=by walk_at "s"
theorem sc_q:pX N_q po' (pM eN):=by walk_at "s"
theorem sc_o:pX N_o pq' (pM Ai):=by walk_at "s"
theorem sc_24:pX N_24 pz' (pM s_24):=by walk_at "s"
set_option genInjectivity false in
structure Adr where
 (a_1h a_6 a_15 a_16 a_12 a_w a_13 a_19 a_11 a_l a_20 a_1e a_1t a_1b a_1 a_18 a_1g a_1n a_1a a_1v a_1w a_23 a_1r a_1l a_1x a_1c a_2 a_1o a_22 a_26 a_9 a_14 a_u a_k a_n a_10 a_1f a_0 a_h a_d a_3 a_y a_17 a_p a_1s a_5 a_x a_t a_m a_j a_r a_s a_e a_i a_b a_g a_f a_v a_z a_q a_o a_24:Addr)
 (d_1h d_6 d_15 d_16 d_12 d_w d_13 d_19 d_11 d_l d_20 d_1e d_1t d_1b d_1 d_18 d_1g d_1n d_1a d_1v d_1w d_23 d_1r d_1l d_1x d_1c d_2 d_1o d_22 d_26 d_9 d_14 d_u d_k d_n d_10 d_1f d_0 d_h d_d d_3 d_y d_17 d_p d_1s d_5 d_x d_t d_m d_j d_r d_s d_e d_i d_b d_g d_f d_v d_z d_q d_o d_24:FuncData)
 a_1d:Addr
 a_1i:Addr
 a_1m:Addr
 a_7:Addr
 a_1z:Addr
 a_8:Addr
 a_4:Addr
 a_a:Addr
 a_1y:Addr
 a_1j:Addr
 a_1q:Addr
 a_1k:Addr
 a_1p:Addr
 a_1u:Addr
 a_25:Addr
 a_21:Addr
 a_c:Addr
 k_0:Tok
 k_5:Tok
structure Txt(K:Frag)(mg:MT)(t:Adr):Prop where
 F_1h:FunT K mg "copied" s_1h t.a_1h t.d_1h ["thing"]
 F_6:Fun K "__init__" "TooMany.__init__" s_6 t.a_6 t.d_6
 b_6:nD K t.d_6 pr' []
 F_15:FunT K mg "divisor" s_15 t.a_15 t.d_15 pw'
 F_16:FunT K mg "multiple" s_16 t.a_16 t.d_16 ["numbers"]
 F_12:FunT K mg "place" s_12 t.a_12 t.d_12 ["tops","under"]
 F_w:FunT K mg "rest_place" cL t.a_w t.d_w pF'
 F_13:FunT K mg "place_sum" s_13 t.a_13 t.d_13 pw'
 F_19:FunT K mg "opposite" s_19 t.a_19 t.d_19 pF'
 F_11:FunT K mg "place_less" s_11 t.a_11 t.d_11 pw'
 F_l:FunT K mg "still_rows" cN t.a_l t.d_l ["size"]
 F_20:FunT K mg "dot" s_20 t.a_20 t.d_20 pw'
 F_1e:FunT K mg "turned" s_1e t.a_1e t.d_1e pD'
 F_1t:FunT K mg "times" s_1t t.a_1t t.d_1t pw'
 F_1b:FunT K mg "without" s_1b t.a_1b t.d_1b pt'
 F_1:FunT K mg "determinant" s_1 t.a_1 t.d_1 pD'
 F_18:FunT K mg "cofactor" s_18 t.a_18 t.d_18 pt'
 F_1g:FunT K mg "crossed" s_1g t.a_1g t.d_1g pD'
 F_1n:FunT K mg "scaled" s_1n t.a_1n t.d_1n pu'
 F_1a:FunT K mg "joined" s_1a t.a_1a t.d_1a px'
 F_1v:FunT K mg "deed" s_1v t.a_1v t.d_1v pi'
 F_1w:FunT K mg "still" s_1w t.a_1w t.d_1w ["d"]
 F_23:FunT K mg "move" s_23 t.a_23 t.d_23 pF'
 F_1r:FunT K mg "moved" s_1r t.a_1r t.d_1r ["one","spot"]
 F_1l:FunT K mg "behind" s_1l t.a_1l t.d_1l pw'
 F_1x:FunT K mg "rest" s_1x t.a_1x t.d_1x pF'
 F_1c:FunT K mg "change" s_1c t.a_1c t.d_1c pp'
 F_2:FunT K mg "check_beside" s_2 t.a_2 t.d_2 pA'
 F_1o:FunT K mg "forth" s_1o t.a_1o t.d_1o pF'
 F_22:FunT K mg "home" s_22 t.a_22 t.d_22 pF'
 F_26:FunT K mg "led" s_26 t.a_26 t.d_26 pv'
 F_9:FunT K mg "change_behind" s_9 t.a_9 t.d_9 pw'
 F_14:FunT K mg "old_place" s_14 t.a_14 t.d_14 pB'
 F_u:FunT K mg "new_place" At t.a_u t.d_u pB'
 F_k:FunT K mg "new_deed" eL t.a_k t.d_k ["one","way"]
 F_n:FunT K mg "check_most" As t.a_n t.d_n ["most"]
 F_10:FunT K mg "check_axes" s_10 t.a_10 t.d_10 ["d","makers"]
 F_1f:FunT K mg "closed" s_1f t.a_1f t.d_1f pk'
 F_0:FunD K "__init__" "Group.__init__" s_0 t.a_0 t.d_0 [.int 200 t.k_0]
 bd_Group___init__:nD K t.d_0 pd' [.int 200 t.k_0]
 b_0:nD K t.d_0 pd' []
 F_h:Fun K "axes" "Group.axes" Ar t.a_h t.d_h
 b_h:nD K t.d_h pE' []
 F_d:Fun K "makers" "Group.makers" Aq t.a_d t.d_d
 b_d:nD K t.d_d pE' []
 F_3:Fun K "members" "Group.members" s_3 t.a_3 t.d_3
 b_3:nD K t.d_3 pE' []
 F_y:Fun K "at" "Group.at" Ap t.a_y t.d_y
 b_y:nD K t.d_y pC' []
 F_17:FunT K mg "group_of" s_17 t.a_17 t.d_17 ["d","deeds"]
 F_p:FunT K mg "check_moves" Ao t.a_p t.d_p pm'
 F_1s:FunT K mg "grown" s_1s t.a_1s t.d_1s pn'
 F_5:FunD K "changed" "changed" s_5 t.a_5 t.d_5 [.int 200 t.k_5]
 bd_changed:nD K t.d_5 pj' [.int 200 t.k_5]
 m_5:mg "changed"=some (.ref t.a_5)
 b_5:nD K t.d_5 pj' []
 F_x:FunT K mg "_law_cell" An t.a_x t.d_x pg'
 F_t:FunT K mg "_law_divides" Am t.a_t t.d_t pf'
 F_m:FunT K mg "_law_lowest" cO t.a_m t.d_m pe'
 F_j:FunT K mg "_law_units" cP t.a_j t.d_j ["_law_d"]
 F_r:FunT K mg "_law_plane" iH t.a_r t.d_r py'
 F_s:FunT K mg "_law_space" iI t.a_s t.d_s py'
 F_e:FunT K mg "_law_sheared" gW t.a_e t.d_e pb'
 F_i:FunT K mg "_law_at_spot" cQ t.a_i t.d_i ph'
 F_b:FunT K mg "_law_makers" gX t.a_b t.d_b pz'
 F_g:FunT K mg "_law_class" Al t.a_g t.d_g ["_law_e"]
 F_f:FunT K mg "_law_refused" Ak t.a_f t.d_f pc'
 F_v:FunT K mg "_law_beside" Aj t.a_v t.d_v pa'
 F_z:FunT K mg "_law_flat" eM t.a_z t.d_z pl'
 F_q:FunT K mg "_law_halved" eN t.a_q t.d_q po'
 F_o:FunT K mg "_law_bad_most" Ai t.a_o t.d_o pq'
 F_24:FunT K mg "law" s_24 t.a_24 t.d_24 pz'
 z_any:mg "any"=none
 z_sum:mg "sum"=none
 z_zip:mg "zip"=none
 z_enumerate:mg "enumerate"=none
 z_range:mg "range"=none
 z_len:mg "len"=none
 z_abs:mg "abs"=none
 z_isinstance:mg "isinstance"=none
 z_int:mg "int"=none
 z_list:mg "list"=none
 z_tuple:mg "tuple"=none
 z_sorted:mg "sorted"=none
 z_dict:mg "dict"=none
 z_min:mg "min"=none
 z_ValueError:mg "ValueError"=none
 m_1d:mg "CrystalError"=some (.ref t.a_1d)
 m_1i:mg "NoPlace"=some (.ref t.a_1i)
 m_1m:mg "NoDeed"=some (.ref t.a_1m)
 m_7:mg "NoNumber"=some (.ref t.a_7)
 m_1z:mg "NoText"=some (.ref t.a_1z)
 m_8:mg "TooMany"=some (.ref t.a_8)
 m_4:mg "NoChange"=some (.ref t.a_4)
 m_a:mg "NotKept"=some (.ref t.a_a)
 m_1y:mg "NoForm"=some (.ref t.a_1y)
 m_1j:mg "NotWithin"=some (.ref t.a_1j)
 m_1q:mg "NotLeast"=some (.ref t.a_1q)
 m_1k:mg "NoDrawing"=some (.ref t.a_1k)
 m_1p:mg "OffSheet"=some (.ref t.a_1p)
 m_1u:mg "NoSheet"=some (.ref t.a_1u)
 m_25:mg "NoRow"=some (.ref t.a_25)
 m_21:mg "NoName"=some (.ref t.a_21)
 m_c:mg "Group"=some (.ref t.a_c)
 g_MOST_MEMBERS:∃u,mg "MOST_MEMBERS"=some u/\RelV (.int 200) u
 k_ll:kitOne K (.type "list") (.type "list")=some true
 x_1i:PySem.W.excIn K t.a_1i [.type "ValueError",.type "Exception",.type "BaseException",.type "object"] "ValueError.__new__"=true
 x_1m:PySem.W.excIn K t.a_1m [.type "ValueError",.type "Exception",.type "BaseException",.type "object"] "ValueError.__new__"=true
 cl_c:L2.Cls K t.a_c
 mk_c:L2.Mk K t.a_c t.a_0
 me_3:L2.Meth K t.a_c "members" t.a_3
 h_3:findIn K (.ref t.a_c) "dimension"=some none
 h_1m:findIn K (.ref t.a_c) "given"=some none
 h_e:findIn K (.ref t.a_c) "ordered"=some none
 h_4:findIn K (.ref t.a_c) "shortest"=some none
 h_f:findIn K (.ref t.a_c) "numbers"=some none
 me_d:L2.Meth K t.a_c "makers" t.a_d
 k_il:kitOne K (.type "int") (.type "list")=some false
 k_it:kitOne K (.type "int") (.type "tuple")=some false
 h_g:L2.XIn K t.a_8 t.a_1d t.a_6
 h_h:L2.XSt K t.a_8 "apart"
 x_7:PySem.W.excIn K t.a_7 [.type "ValueError",.type "Exception",.type "BaseException",.type "object"] "ValueError.__new__"=true
 e_cg:PySem.W.specialIn K (.builtin "object.__class__") "__get__"=some (some (.builtin "getset_descriptor.__get__"))
 e_tk:PySem.W.takesIn K (.builtin "object.__class__")=some true
 h_1n:findIn K (.ref t.a_8) "apart"=some none
 h_j:PySem.W.hasDictIn K t.a_8=true
 me_h:L2.Meth K t.a_c "axes" t.a_h
 me_y:L2.Meth K t.a_c "at" t.a_y
 x_4:PySem.W.excIn K t.a_4 [.type "ValueError",.type "Exception",.type "BaseException",.type "object"] "ValueError.__new__"=true
 x_a:PySem.W.excIn K t.a_a [.type "ValueError",.type "Exception",.type "BaseException",.type "object"] "ValueError.__new__"=true
 nm:PySem.W.exmOne K (.ref t.a_7) (.ref t.a_1d)=some true
 n_ga:findIn K (.ref t.a_7) "__getattribute__"=some (some (.builtin "BaseException.__getattribute__"))
 n_gt:findIn K (.ref t.a_7) "__getattr__"=some none
 n_ca:findIn K (.ref t.a_7) "__class__"=some (some (.builtin "object.__class__"))
 n_ob:PySem.W.mroIn K t.a_7 (.type "object")=some true
 n_bx:PySem.W.mroIn K t.a_7 (.type "BaseException")=some true
 n_VE:kitOne K (.ref t.a_7) (.type "ValueError")=some true
 n_7:kitOne K (.ref t.a_7) (.ref t.a_7)=some true
 n_4:kitOne K (.ref t.a_7) (.ref t.a_4)=some false
 n_a:kitOne K (.ref t.a_7) (.ref t.a_a)=some false
 n_8:kitOne K (.ref t.a_7) (.ref t.a_8)=some false
 n_1m:kitOne K (.ref t.a_7) (.ref t.a_1m)=some false
 n_1k:kitOne K (.ref t.a_7) (.ref t.a_1k)=some false
 n_1y:kitOne K (.ref t.a_7) (.ref t.a_1y)=some false
 n_21:kitOne K (.ref t.a_7) (.ref t.a_21)=some false
 n_1i:kitOne K (.ref t.a_7) (.ref t.a_1i)=some false
 n_25:kitOne K (.ref t.a_7) (.ref t.a_25)=some false
 n_1u:kitOne K (.ref t.a_7) (.ref t.a_1u)=some false
 n_1z:kitOne K (.ref t.a_7) (.ref t.a_1z)=some false
 n_1q:kitOne K (.ref t.a_7) (.ref t.a_1q)=some false
 n_1j:kitOne K (.ref t.a_7) (.ref t.a_1j)=some false
 n_1p:kitOne K (.ref t.a_7) (.ref t.a_1p)=some false
 cm:PySem.W.exmOne K (.ref t.a_4) (.ref t.a_1d)=some true
 c_ga:findIn K (.ref t.a_4) "__getattribute__"=some (some (.builtin "BaseException.__getattribute__"))
 c_gt:findIn K (.ref t.a_4) "__getattr__"=some none
 c_ca:findIn K (.ref t.a_4) "__class__"=some (some (.builtin "object.__class__"))
 c_ob:PySem.W.mroIn K t.a_4 (.type "object")=some true
 c_bx:PySem.W.mroIn K t.a_4 (.type "BaseException")=some true
 c_VE:kitOne K (.ref t.a_4) (.type "ValueError")=some true
 c_7:kitOne K (.ref t.a_4) (.ref t.a_7)=some false
 c_4:kitOne K (.ref t.a_4) (.ref t.a_4)=some true
 c_a:kitOne K (.ref t.a_4) (.ref t.a_a)=some false
 c_8:kitOne K (.ref t.a_4) (.ref t.a_8)=some false
 c_1m:kitOne K (.ref t.a_4) (.ref t.a_1m)=some false
 c_1k:kitOne K (.ref t.a_4) (.ref t.a_1k)=some false
 c_1y:kitOne K (.ref t.a_4) (.ref t.a_1y)=some false
 c_21:kitOne K (.ref t.a_4) (.ref t.a_21)=some false
 c_1i:kitOne K (.ref t.a_4) (.ref t.a_1i)=some false
 c_25:kitOne K (.ref t.a_4) (.ref t.a_25)=some false
 c_1u:kitOne K (.ref t.a_4) (.ref t.a_1u)=some false
 c_1z:kitOne K (.ref t.a_4) (.ref t.a_1z)=some false
 c_1q:kitOne K (.ref t.a_4) (.ref t.a_1q)=some false
 c_1j:kitOne K (.ref t.a_4) (.ref t.a_1j)=some false
 c_1p:kitOne K (.ref t.a_4) (.ref t.a_1p)=some false
 km:PySem.W.exmOne K (.ref t.a_a) (.ref t.a_1d)=some true
 k_ga:findIn K (.ref t.a_a) "__getattribute__"=some (some (.builtin "BaseException.__getattribute__"))
 k_gt:findIn K (.ref t.a_a) "__getattr__"=some none
 k_ca:findIn K (.ref t.a_a) "__class__"=some (some (.builtin "object.__class__"))
 k_ob:PySem.W.mroIn K t.a_a (.type "object")=some true
 k_bx:PySem.W.mroIn K t.a_a (.type "BaseException")=some true
 k_VE:kitOne K (.ref t.a_a) (.type "ValueError")=some true
 k_7:kitOne K (.ref t.a_a) (.ref t.a_7)=some false
 k_4:kitOne K (.ref t.a_a) (.ref t.a_4)=some false
 k_a:kitOne K (.ref t.a_a) (.ref t.a_a)=some true
 k_8:kitOne K (.ref t.a_a) (.ref t.a_8)=some false
 k_1m:kitOne K (.ref t.a_a) (.ref t.a_1m)=some false
 k_1k:kitOne K (.ref t.a_a) (.ref t.a_1k)=some false
 k_1y:kitOne K (.ref t.a_a) (.ref t.a_1y)=some false
 k_21:kitOne K (.ref t.a_a) (.ref t.a_21)=some false
 k_1i:kitOne K (.ref t.a_a) (.ref t.a_1i)=some false
 k_25:kitOne K (.ref t.a_a) (.ref t.a_25)=some false
 k_1u:kitOne K (.ref t.a_a) (.ref t.a_1u)=some false
 k_1z:kitOne K (.ref t.a_a) (.ref t.a_1z)=some false
 k_1q:kitOne K (.ref t.a_a) (.ref t.a_1q)=some false
 k_1j:kitOne K (.ref t.a_a) (.ref t.a_1j)=some false
 k_1p:kitOne K (.ref t.a_a) (.ref t.a_1p)=some false
 ym:PySem.W.exmOne K (.ref t.a_8) (.ref t.a_1d)=some true
 y_ga:findIn K (.ref t.a_8) "__getattribute__"=some (some (.builtin "BaseException.__getattribute__"))
 y_gt:findIn K (.ref t.a_8) "__getattr__"=some none
 y_ca:findIn K (.ref t.a_8) "__class__"=some (some (.builtin "object.__class__"))
 y_ob:PySem.W.mroIn K t.a_8 (.type "object")=some true
 y_bx:PySem.W.mroIn K t.a_8 (.type "BaseException")=some true
 y_VE:kitOne K (.ref t.a_8) (.type "ValueError")=some true
 y_7:kitOne K (.ref t.a_8) (.ref t.a_7)=some false
 y_4:kitOne K (.ref t.a_8) (.ref t.a_4)=some false
 y_a:kitOne K (.ref t.a_8) (.ref t.a_a)=some false
 y_8:kitOne K (.ref t.a_8) (.ref t.a_8)=some true
 y_1m:kitOne K (.ref t.a_8) (.ref t.a_1m)=some false
 y_1k:kitOne K (.ref t.a_8) (.ref t.a_1k)=some false
 y_1y:kitOne K (.ref t.a_8) (.ref t.a_1y)=some false
 y_21:kitOne K (.ref t.a_8) (.ref t.a_21)=some false
 y_1i:kitOne K (.ref t.a_8) (.ref t.a_1i)=some false
 y_25:kitOne K (.ref t.a_8) (.ref t.a_25)=some false
 y_1u:kitOne K (.ref t.a_8) (.ref t.a_1u)=some false
 y_1z:kitOne K (.ref t.a_8) (.ref t.a_1z)=some false
 y_1q:kitOne K (.ref t.a_8) (.ref t.a_1q)=some false
 y_1j:kitOne K (.ref t.a_8) (.ref t.a_1j)=some false
 y_1p:kitOne K (.ref t.a_8) (.ref t.a_1p)=some false
 bl:∀(s:Shared)(u:Value),BindsTo s t.d_24 ⟨[u],[]⟩ [("_law_script",u)]
local macro_rules | `(tactic| walk_at "r")=>`(tactic| simp only [tSeq,tAsg,pY,tVar,qVar,tC,tOp,r_W,t_i,t_j,tUn,dC,tB,tIfS,tIf,tAnd,tOr,tNot,Kf,tOrV,t_f,tRet,t_g,Kc,Kb,oV,Nx,pZ,tNil,tCB,tTup,tLst,tPar,Ez,tBM,tBM0,tSl,aF,aE,List.getElem?_cons_zero,List.getElem?_cons_succ,Option.some.injEq,exists_eq_left',exists_eq_left,List.set_cons_zero,List.set_cons_succ,List.cons.injEq,V.int.injEq,V.bl.injEq,V.ref.injEq,and_true,true_and,List.append_nil,ne_eq,exists_and_left,and_assoc,↓reduceIte,Bool.not_true,Bool.not_false,Bool.false_eq_true])
set_option hygiene false in
local macro_rules | `(tactic|apply $e:term)=>`(tactic|refine $e (by walk_at "v") (λcdv A outer s H vs Q E hr h=>?_))
set_option hygiene false in
local macro_rules | `(tactic|left)=>`(tactic|(subst e1;refine st λN1 e1=>?_;ext))
set_option hygiene false in
local macro_rules | `(tactic|right)=>`(tactic|(refine st λN1 e1=>?_;ext))
set_option hygiene false in
local macro_rules | `(tactic|symm)=>`(tactic|(subst e1;ext))
set_option hygiene false in
local macro_rules | `(tactic|exfalso)=>`(tactic|(refine oC λB eB=>?_;simp only[iSeq];ext))
def gcdI(a b:Int):Int:=(Int.gcd a b:Int)
def absI(u:Int):Int:=if u<0 then -u else u
def gl(u:Int)(ns:LI'):Int:=ns.foldl gcdI (absI u)
theorem Rk(u:Int):0<=absI u:=by unfold absI;split <;> omega
theorem Rj{d u:Int}:d∣absI u↔d∣u:=by
 unfold absI;split
 ·exact qY
 ·exact Iff.rfl
theorem Go{d:Int}:∀(ns:LI')(c:Int),d∣ns.foldl gcdI c↔d∣c/\∀f∈ns,d∣f
 |[],c=>by simp
 | f:: r,c=>by
  rw[wG,Go r];unfold gcdI;rw[Int.dvd_coe_gcd_iff];constructor
  ·rintro⟨⟨b,a⟩,i⟩;refine⟨b,λx g=>?_⟩;rcases yQ.mp g with e|e
   ·rw[e];exact a
   ·exact i x e
  ·rintro⟨b,a⟩;exact⟨⟨b,a f zQ⟩,λx g=>a x (zM _ g)⟩
theorem iJ{d u:Int}{ns:LI'}:d∣gl u ns↔d∣u/\∀t∈ns,d∣t:=by
 unfold gl;rw[Go,Rj]
theorem Gn:∀(ns:LI')(c:Int),0<=c->0<=ns.foldl gcdI c
 |[],_,h=>h
 |t:: r,c,_=>Gn r _ (Int.natCast_nonneg _)
theorem eO(u:Int)(ns:LI'):0<=gl u ns:=Gn ns _ (Rk u)
theorem gl_u(u:Int)(ns:LI'):gl u ns∣u:=(iJ.mp (vK _)).1
theorem eP{u t:Int}{ns:LI'}(h:t∈ns):gl u ns∣t:=(iJ.mp (vK _)).2 t h
theorem Ah{u:Int}(ns:LI')(h:u≠0):0<gl u ns:=by
 have:=eO u ns;rcases Int.lt_or_eq_of_le this with q|q
 ·exact q
 ·obtain⟨k,e⟩:=gl_u u ns;rw[←q,vJ]at e;exact absurd e h
theorem Gm{u v:Int}{ns ms:LI'}(h:∀d:Int,(d∣u/\∀t∈ns,d∣t)↔(d∣v/\∀t∈ms,d∣t)):gl u ns=gl v ms:=
 Int.dvd_antisymm (eO _ _) (eO _ _) (iJ.mpr ((h _).mp (iJ.mp (vK _)))) (iJ.mpr ((h _).mpr (iJ.mp (vK _))))
theorem Gk(u:Int)(ns:LI')(t:Int):gl u (ns++[t])=gcdI (gl u ns) t:=by unfold gl;rw[tG];rfl
def cs(u:Int)(ns:LI'):Int:=if u<0 then -(gl u ns) else gl u ns
theorem gC{u:Int}(ns:LI')(h:u≠0):cs u ns≠0:=by
 have:=Ah ns h;unfold cs;split <;> omega
theorem kF{u x:Int}{ns:LI'}(h:gl u ns∣x):cs u ns∣x:=by
 unfold cs;split
 ·exact Int.neg_dvd.mpr h
 ·exact h
theorem jG{c x:Int}(a:c≠0)(h:c∣x):x.fdiv c*c=x:=by
 obtain⟨k,e⟩:=h;subst e;rw[xT c k,Int.mul_fdiv_cancel _ a]
theorem Ag{u:Int}(ns:LI')(h:u≠0):0<u.fdiv (cs u ns):=by
 have e:=jG (gC ns h) (kF (gl_u u ns));have g:=Ah ns h;rcases Int.lt_trichotomy (u.fdiv (cs u ns)) 0 with q|q|q
 ·refine False.elim ?_;unfold cs at e q;split at e
  ·rename_i a;rw[zG a]at q;have:=Int.mul_nonneg_of_nonpos_of_nonpos (wT q) (show -(gl u ns)<=0 by omega);omega
  ·rename_i a;rw[zE a]at q;have:=Int.mul_neg_of_neg_of_pos q g;omega
 ·rw[q,vJ]at e;exact absurd e.symm h
 ·exact q
theorem Gj{u:Int}{ns:LI'}(h:u≠0):gl (u.fdiv (cs u ns)) (ns.map λa=>a.fdiv (cs u ns))=1:=by
 have c:=gC ns h;have e1:=jG c (kF (gl_u u ns));have n:=eO (u.fdiv (cs u ns)) (ns.map λa=>a.fdiv (cs u ns));have d:=iJ.mp (vK (gl (u.fdiv (cs u ns)) (ns.map λa=>a.fdiv (cs u ns))));generalize gl (u.fdiv (cs u ns)) (ns.map λa=>a.fdiv (cs u ns))=g at*
 have b:g*cs u ns∣gl u ns:=by
  refine iJ.mpr ⟨?_,λa f=>?_⟩
  ·have:=qC d.1 (vK (cs u ns));rw[e1]at this;exact this
  ·have:=qC (d.2 _ (pI.mpr ⟨a,f,rfl⟩)) (vK (cs u ns));rw[jG c (kF (eP (u:=u) f))]at this;exact this
 have i:g*cs u ns∣1*cs u ns:=by
  rw[uO];unfold cs at b ⊢;split at b
  ·rename_i e;rw[zG e];exact qY.mpr b
  ·rename_i e;rw[zE e];exact b
 have:g∣1:=Int.dvd_of_mul_dvd_mul_right c i;have:=Int.le_of_dvd ∅ this;rcases(show g=0\/g=1 by omega) with q|q
 ·subst q;have z:=d.1;rw[Int.zero_dvd]at z;rw[z,vJ]at e1;exact absurd e1.symm h
 ·exact q
theorem Gi{u:Int}{ns:LI'}(h:0<u)(g:gl u ns=1):cs u ns=1:=by
 unfold cs;rw[zE ⋯,g]
theorem Ri{u:Int}{ns:LI'}(h:0<u)(g:gl u ns=1):(ns.map λt=>t.fdiv (cs u ns))=ns/\u.fdiv (cs u ns)=u:=by
 rw[Gi h g];refine⟨?_,sP u⟩;rw[show(λt:Int=>t.fdiv 1)=id from funext λt=>sP t,vX]
theorem Gh{d u t:Int}(h:d∣u):d∣t.fmod u↔d∣t:=by
 rw[Int.fmod_def];have q:d∣u*t.fdiv u:=Int.dvd_mul_of_dvd_left h;constructor
 ·intro z;have:=qP z q
  rwa[Int.sub_add_cancel]at this
 ·intro z;exact qO z q
theorem Rh(u:Int)(ns:LI'):gl u (ns.map λb=>b.fmod u)=gl u ns:=by
 refine Gm λd=>?_;constructor
 ·rintro⟨a,f⟩;exact⟨a,λb c=>(Gh a).mp (f _ (pI.mpr ⟨b,c,rfl⟩))⟩
 ·rintro⟨a,f⟩;refine⟨a,λx g=>?_⟩;obtain⟨b,c,e⟩:=pI.mp g;subst e;exact(Gh a).mpr (f b c)
theorem Rg{u:Int}(b:0<u)(a:Int):(a.fmod u-a).fmod u=0:=by
 rw[xR a (wT b),xR _ (wT b)];exact Int.emod_eq_zero_of_dvd (by
  have:=Int.emod_add_mul_ediv a u;exact⟨-(a/u),by rw[Int.mul_neg];omega⟩)
theorem Gg(g l:Int):Int.gcd l (Int.fmod g l)=Int.gcd g l:=by
 rw[Int.fmod_def,Int.gcd_sub_mul_left_right,Int.gcd_comm]
theorem Gf(a b:Int):Int.gcd (if a<0 then -a else a) (if b<0 then -b else b)=Int.gcd a b:=by
 split <;> split <;> simp
theorem cR(a:Int):0<=(if a<0 then -a else a):=by split <;> omega
theorem Ge{g l a b:Int}(h:Int.gcd g l=Int.gcd a b)(c:0<=g)(z:l=0):g=gcdI a b:=by
 rw[z,Int.gcd_zero_right]at h;unfold gcdI;rw[←h];omega
def Gc:Sp:=λvs H Q _=>∃a b,vs=[.int a,.int b]/\Q (.int (gcdI a b)) H
abbrev sp_15:Sp:=Gc
def oA(H:Hp)(p:Addr)(ns:LI')(u:Int):Prop:=∃q,H p=some (.tup [.ref q,.int u])/\H q=some (.tup (ns.map V.int))
theorem oA.up{H H':Hp}{p:Addr}{ns:LI'}{u:Int}(h:oA H p ns u)(s:Same H H'):oA H' p ns u:=let ⟨q,a,b⟩:=h;⟨q,s _ _ a,s _ _ b⟩
def lQ(n:Int):Prop:=n.natAbs<2^8990
theorem Gb{c:Int}(h:lQ c)(z:c≠0):c.natAbs.log2<9000:=zI ((qU ⋯).mpr h) ∅
theorem Ga{c u:Int}(h:lQ u)(z:u≠0)(d:c∣u):lQ c:=by
 have:=Int.natAbs_dvd_natAbs.mpr d;have:=Nat.le_of_dvd ⋯ this;unfold lQ at*
 omega
def redT(u:Int)(ns:LI'):LI':=ns.map λt=>t.fdiv (cs u ns)
def redU(u:Int)(ns:LI'):Int:=u.fdiv (cs u ns)
def nK(u:Int)(ns:LI'):LI':=ns.map λt=>t.fmod u
def sp_12(K:Frag)(C:Addr):Sp:=λvs H Q E=>E4 λ(b:Bool)(a:Addr)(ns:LI')(u:Int)=>A6 (vs=[.ref a,.int u]) (SqB b K H a (ns.map V.int)) (ns.length<=100) (lQ u) (((u=0\/ns=[])->E (.ref C) none H)) ((u≠0->ns≠[]->∀p H',Same H H'->oA H' p (redT u ns) (redU u ns)->Q (.ref p) H'))
theorem Hz{a:Type}{ns:List a}{i:Nat}{n:a}(h:ns[i]?=some n):ns.take (i+1)=ns.take i++[n]:=by
 rw[vY,h];rfl
def sp_20(K:Frag):Sp:=λvs H Q _=>E6 λ(b1 b2:Bool)(p q:Addr)(ms ns:LI')=>A7 (vs=[.ref p,.ref q]) (SqB b1 K H p (ms.map V.int)) (SqB b2 K H q (ns.map V.int)) (ms.length=ns.length) (ms.length<=1000) ((∀(i:Nat) m n,ms[i]?=some m->ns[i]?=some n->IntMulOk m n)) (∀H',Same H H'->Q (.int (dotI ms ns)) H')
def sp_1e(K:Frag):Sp:=λvs H Q _=>E5 λ(b1 b2:Bool)(a:Addr)(rows:LM)(w:Nat)=>A7 (vs=[.ref a]) (MatB b1 b2 K H a rows) (rows≠[]) ((∀r∈rows,r.length=w)) (w<=1000) (rows.length<=1000) (∀r H',H r=none->Same H H'->MatL H' r (jZ w rows)->Q (.ref r) H')
def Rf(A B:LM):Prop:=∀r∈A,∀x∈r,∀r'∈B,∀y∈r',IntMulOk x y
def sp_1t(K:Frag):Sp:=λvs H Q _=>E9 λ(b1 b2 b3 b4:Bool)(a b:Addr)(A B:LM)(w:Nat)=>A11 (vs=[.ref a,.ref b]) (MatB b1 b2 K H a A) (MatB b3 b4 K H b B) (B≠[]) ((∀r∈B,r.length=w)) ((∀r∈A,r.length=B.length)) (w<=1000) (A.length<=1000) (B.length<=1000) (Rf A B) (∀r H',H r=none->Same H H'->MatL H' r (mulM w A B)->Q (.ref r) H')
def kP(i k:Nat)(rows:LM):LM:=(rows.eraseIdx i).map λr=>r.eraseIdx k
def sg(k:Nat):Int:=if k%2=0 then 1 else -1
def altS(f:Nat->Int):Nat->Int
 |0=>0
 |k+1=>altS f k+sg k*f k
def detM:Nat->LM->Int
 |0,_=>1
 |1,rows=>(rows.getD 0 []).getD 0 0
 |n+2,rows=>altS (λk=>(rows.getD 0 []).getD k 0*detM (n+1) (kP 0 k rows)) (n+2)
def Sq(n:Nat)(rows:LM):Prop:=rows.length=n/\∀r∈rows,r.length=n
def nA(B:Nat)(rows:LM):Prop:=∀r∈rows,∀x∈r,x.natAbs<2^B
theorem Re(k:Nat):-sg k=sg (k+1):=by
 unfold sg
 by_cases h:k%2=0
 ·rw[zG h,zE ⋯]
 ·rw[zE h,zG ⋯];rfl
theorem Hy(k:Nat):(sg k).natAbs=1:=by unfold sg;split <;> rfl
theorem Sq.minor{n i k:Nat}{a:LM}(h:Sq (n+1) a)(hi:i<n+1)(b:k<n+1):Sq n (kP i k a):=by
 refine⟨?_,λr hr=>?_⟩
 ·unfold kP;rw[zqe,sI,h.1,zG hi];rfl
 ·obtain⟨z,c,rfl⟩:=pI.mp hr;have hl:=h.2 z (uV c);rw[sI,hl,zG b];rfl
theorem nA.minor{B i k:Nat}{a:LM}(h:nA B a):nA B (kP i k a):=λr hr x c=>by
 obtain⟨z,b,rfl⟩:=pI.mp hr;exact h z (uV b) x (uV c)
theorem Hx{f:Nat->Int}{M:Nat}:∀n:Nat,(∀k<n,(f k).natAbs<=M)->(altS f n).natAbs<=n*M
 |0,_=>by simp[altS]
 |n+1,h=>by
  have c:=Hx n λk b=>h k ⋯;have d:=h n ⋯;show(altS f n+sg n*f n).natAbs<=_;have a:=tH (altS f n) (sg n*f n);rw[xD,Hy,Nat.one_mul]at a;rw[rR];omega
theorem row0{n:Nat}{a:LM}(h:Sq (n+1) a):a[0]?=some (a.getD 0 [])/\a.getD 0 []∈a:=by
 have hl:0<a.length:=by have:=h.1;omega
 have e:a.getD 0 []=a[0]:=by simp[hl]
 rw[e];exact⟨by simp[hl],wA hl⟩
theorem Hw{B:Nat}:∀(n:Nat)(a:LM),1<=n->n<=4->Sq n a->nA B a->(detM n a).natAbs<=2^(n*(B+2))
 |0,_,h,_,_,_=>⋯
 |1,a,_,_,b,c=>by
  have hr:=row0 b;have hl:0<(a.getD 0 []).length:=by rw[b.2 _ hr.2];decide
  have:=c _ hr.2 _ (L2.getD_mem hl);show((a.getD 0 []).getD 0 0).natAbs<=_;have:2^B<=2^(1*(B+2)):=yC ∅ ⋯;omega
 | n+2,a,_,j,b,c=>by
  have hr:=row0 b;have i:∀k<n+2,((a.getD 0 []).getD k 0*detM (n+1) (kP 0 k a)).natAbs<=2^B*2^((n+1)*(B+2)):=λk d=>by
   have hl:k<(a.getD 0 []).length:=by rw[b.2 _ hr.2];exact d
   have f:=c _ hr.2 _ (L2.getD_mem hl);have g:=Hw (n+1) (kP 0 k a) ⋯ ⋯ (b.minor ⋯ d) c.minor;rw[xD];exact uF (vL f) g
  have:=Hx (n+2) i;have e:2^((n+2)*(B+2))=4*(2^B*2^((n+1)*(B+2))):=by
   rw[←vE,show(4:Nat)=2^2 from rfl,←vE];congr 1;rw[Nat.add_mul,Nat.add_mul];omega
  show(altS _ (n+2)).natAbs<=_;rw[e];refine zR this (xI _ ⋯)
theorem oN{x:Int}{B:Nat}(h:x.natAbs<2^B):Builtin.Int.intBits x<=B:=intBits_le_iff.mpr h
def sp_1b(K:Frag):Sp:=λvs H Q _=>E7 λ(b1 b2:Bool)(a:Addr)(rows:LM)(i k w:Nat)=>A7 (vs=[.ref a,.int i,.int k]) (MatB b1 b2 K H a rows) ((∀r∈rows,r.length=w)) (k<w) (w<=1000) (rows.length<=1000) (∀r H',H r=none->Same H H'->MatL H' r (kP i k rows)->Q (.ref r) H')
def sp_1(K:Frag):Nat->Sp
 |0=>λ_ _ _ _=>False
 |n+1=>λvs H Q _=>∃(b1 b2:Bool)(a:Addr)(rows:LM)(B:Nat),vs=[.ref a]/\MatB b1 b2 K H a rows/\Sq (n+1) rows/\n<=3/\nA B rows/\B<=1000000/\∀H',Same H H'->Q (.int (detM (n+1) rows)) H'
section
variable {g:TG} {tt:TOx} {fr:List (Str×Nat)} {σ:St} {a:Addr} {H:Hp} {Q:VK} {K:Frag}
theorem Rc{b:Bool}{l:Addr}{xs:List V}(P:Nat->List V->Hp->Prop)(u:H a=none)(e:SqB b K H l xs)(z:xs.length<=1000)(k:P 0 [] (upd H a (.lst [])))
  (hl:∀i zs c,P i zs c->zs.length<=i)(mono:∀i zs c d,P i zs c->lY a c d->P i zs d)
  (v:∀i x c zs,xs[i]?=some x->Same H c->c a=some (.lst zs)->P i zs c->∀C:Option V->Hp->Prop,
   (∀y d,Same c d->P (i+1) (zs++[y]) d->C (some y) d)->(∀d,Same c d->P (i+1) zs d->C none d)->tt (some (.int i):: some x:: mE fr σ) c C)
  (J:∀c ys,Same H c->c a=some (.lst ys)->P xs.length ys c->Q (.ref a) c):
  lO (Ite K b l) (gTup K 2 (nB (pY 0) (nB (pY 1) gNil))) tt 2 fr σ a H Q:=by
 refine aP xs.length P u z k hl mono (λi c hi s=>⟨xs,xs[i],e.up s,by simp[hi]⟩) (λc s=>⟨xs,e.up s,rfl⟩) ?_ J;intro i c zs hi j G p D x M m t C F w;obtain⟨q,x,rfl,I,rfl,n⟩:=t;refine⟨q,[.int i,x],rfl,SqT.of pN,rfl,_,[x],rfl,x,[],rfl,rfl,?_⟩;have sn:Same c (upd c q (.tup [.int i,x])):=Same.new I
 match D,m with
 |[o,L],_ =>
  exact⟨⟨[some (.int i),some x],rfl,rfl⟩,v i x _ zs (n xs (e.up j)) (j.trans sn) (sn _ _ G) (mono _ _ _ _ p sn.x) C (λy d f r=>F y d (sn.trans f) r) λd f r=>w d (sn.trans f) r⟩
end
theorem SqB.cut{b:Bool}{K:Frag}{H:Hp}{p:Addr}{xs:List V}:SqB b K (upd H p (seqO b xs)) p xs:=by
 cases b
 ·exact SqB.lst pN
 ·exact SqB.tup pN
theorem Rb{d:Type}{b:List d}{c a:Nat}{r:d}(e:b[a]?=some r):(b.take (a+1)).eraseIdx c=if a=c then(b.take a).eraseIdx c else(b.take a).eraseIdx c++[r]:=by
 have f:a<b.length:=(zqa e).1;have hl:(b.take a).length=a:=by rw[wP];omega
 rw[vY,e];show(b.take a++[r]).eraseIdx c=_
 by_cases h:a=c
 ·rw[zG h,List.eraseIdx_append_of_length_le ⋯,hl,h,Nat.sub_self,uK (l:=b.take c) (by rw[wP];omega)];simp
 ·rw[zE h]
  by_cases g:c<a
  ·rw[List.eraseIdx_append_of_lt_length ⋯]
  ·rw[List.eraseIdx_append_of_length_le ⋯,hl,uK (l:=b.take a) ⋯];congr 1;rw[uK];simp;omega
theorem Hv{B C:Nat}:∀(ms ns:LI'),(∀x∈ms,x.natAbs<2^B)->(∀y∈ns,y.natAbs<2^C)->(dotI ms ns).natAbs<=ms.length*2^(B+C)
 |[],ns,_,_=>by simp[dotI]
 |m:: ms,[],_,_=>by simp[dotI]
 | m:: ms,n:: ns,a,b=>by
  have k:=Hv ms ns (λx f=>a x (zM _ f)) (λy c=>b y (zM _ c));have e:dotI (m:: ms) (n:: ns)=m*n+dotI ms ns:=by simp[dotI]
  have g:=a m zQ;have d:=b n zQ;have j:(m*n).natAbs<=2^(B+C):=by
   rw[xD,vE];exact uF (vL g) (vL d)
  have i:=tH (m*n) (dotI ms ns);rw[e,zX,rR];omega
def idM(d:Nat):LM:=(List.range d).map λi=>(List.range d).map λk=>if i=k then(1:Int) else 0
def sp_l:Sp:=λvs H Q _=>E1 λ(n:Nat)=>A3 (vs=[.int n]) (n<=1000) (∀r H',H r=none->Same H H'->MatL H' r (idM n)->Q (.ref r) H')
def nV(K:Frag)(H:Hp)(p:Addr)(M:LM)(ts:LI')(u:Int):Prop:=∃pr pt,H p=some (.tup [.ref pr,.ref pt,.int u])/\MatB true true K H pr M/\H pt=some (.tup (ts.map V.int))
theorem nV.up{K:Frag}{H H':Hp}{p:Addr}{M:LM}{ts:LI'}{u:Int}(h:nV K H p M ts u)(s:Same H H'):nV K H' p M ts u:=let ⟨b,pt,a,d,c⟩:=h;⟨b,pt,s _ _ a,d.up s,s _ _ c⟩
def sp_1a(K:Frag):Sp:=λvs H Q _=>E7 λ(b1 b2:Bool)(a p:Addr)(M:LM)(ts:LI')(u:Int)=>A5 (vs=[.ref a,.ref p]) (MatB b1 b2 K H a M) (oA H p ts u) (M.length<=100) (∀q H',Same H H'->nV K H' q M ts u->Q (.ref q) H')
def PlS(K:Frag)(H:Hp)(p:Addr)(ns:LI')(u:Int):Prop:=∃q,SqT K H p [.ref q,.int u]/\SqT K H q (ns.map V.int)
theorem oA.s{K:Frag}{H:Hp}{p:Addr}{ns:LI'}{u:Int}(h:oA H p ns u):PlS K H p ns u:=let ⟨q,a,b⟩:=h;⟨q,SqT.of a,SqT.of b⟩
theorem PlS.up{K:Frag}{H H':Hp}{p:Addr}{ns:LI'}{u:Int}(h:PlS K H p ns u)(s:Same H H'):PlS K H' p ns u:=let ⟨q,a,b⟩:=h;⟨q,nX s _ _ a,nX s _ _ b⟩
theorem Hu{K:Frag}{H:Hp}{p:Addr}{ns:LI'}{u:Int}{Q:VK}(h:PlS K H p ns u)(k:∀q,SqT K H q (ns.map V.int)->Q (.ref q) H):rIxB K (.ref p) (.int 0) H Q:=let ⟨q,a,b⟩:=h;⟨true,p,_,_,_,rfl,rfl,(a:SqB true K H p _),rfl,k q b⟩
theorem Af{K:Frag}{H:Hp}{p:Addr}{ns:LI'}{u:Int}{Q:VK}(h:PlS K H p ns u)(k:Q (.int u) H):rIxB K (.ref p) (.int 1) H Q:=let ⟨q,a,b⟩:=h;⟨true,p,_,_,_,rfl,rfl,(a:SqB true K H p _),rfl,k⟩
def sp_w(K:Frag):Sp:=λvs H Q _=>E3 λ(p:Addr)(ns:LI')(u:Int)=>A5 (vs=[.ref p]) (PlS K H p ns u) (ns.length<=100) (0<u) (∀p' H',Same H H'->oA H' p' (nK u ns) u->Q (.ref p') H')
def lU(K:Frag)(H:Hp)(p:Addr)(M:LM)(ts:LI')(u:Int):Prop:=∃v0 v1,SqT K H p [.ref v0,.ref v1,.int u]/\MatB true true K H v0 M/\SqT K H v1 (ts.map V.int)
theorem lU.up{K:Frag}{H H':Hp}{p:Addr}{M:LM}{ts:LI'}{u:Int}(h:lU K H p M ts u)(s:Same H H'):lU K H' p M ts u:=let ⟨b,e,a,d,c⟩:=h;⟨b,e,nX s _ _ a,d.up s,nX s _ _ c⟩
theorem nV.s{K:Frag}{H:Hp}{p:Addr}{M:LM}{ts:LI'}{u:Int}(h:nV K H p M ts u):lU K H p M ts u:=let ⟨b,e,a,d,c⟩:=h;⟨b,e,SqT.of a,d,SqT.of c⟩
theorem jH{K:Frag}{H:Hp}{p:Addr}{M:LM}{ts:LI'}{u:Int}{Q:VK}(h:lU K H p M ts u)(q:∀x,MatB true true K H x M->Q (.ref x) H):rIxB K (.ref p) (.int 0) H Q:=let ⟨x,y,a,b,c⟩:=h;⟨true,p,_,_,_,rfl,rfl,(a:SqB true K H p _),rfl,q x b⟩
theorem gY{K:Frag}{H:Hp}{p:Addr}{M:LM}{ts:LI'}{u:Int}{Q:VK}(h:lU K H p M ts u)(q:∀x,SqT K H x (ts.map V.int)->Q (.ref x) H):rIxB K (.ref p) (.int 1) H Q:=let ⟨x,y,a,c,b⟩:=h;⟨true,p,_,_,_,rfl,rfl,(a:SqB true K H p _),rfl,q y b⟩
theorem gD{K:Frag}{H:Hp}{p:Addr}{M:LM}{ts:LI'}{u:Int}{Q:VK}(h:lU K H p M ts u)(q:Q (.int u) H):rIxB K (.ref p) (.int 2) H Q:=let ⟨x,y,a,c,b⟩:=h;⟨true,p,_,_,_,rfl,rfl,(a:SqB true K H p _),rfl,q⟩
def movT(M:LM)(ts:LI')(u:Int)(ns:LI')(v:Int):LI':=List.zipWith (λr t=>dotI r ns*u+t*v) M ts
def kA(B:Nat)(ns:LI'):Prop:=∀x∈ns,x.natAbs<2^B
structure Fine(d:Nat)(M:LM)(ts:LI')(u:Int):Prop where
 sq:Sq d M
 len:ts.length=d
 pos:0<u
 bm:nA 200000 M
 bt:kA 200000 ts
 bu:u<2^1500
def sp_1r(K:Frag):Sp:=λvs H Q _=>E8 λ(p q:Addr)(M:LM)(ts ns:LI')(u v:Int)(d:Nat)=>A11 (vs=[.ref p,.ref q]) (lU K H p M ts u) (PlS K H q ns v) (Fine d M ts u) (1<=d) (d<=4) (ns.length=d) (kA 200000 ns) (0<v) (v<2^1500) (∀r H',Same H H'->oA H' r (redT (u*v) (movT M ts u ns v)) (redU (u*v) (movT M ts u ns v))->Q (.ref r) H')
def sp_1l(K:Frag):Sp:=λvs H Q _=>E9 λ(p q:Addr)(M N:LM)(ts ns:LI')(u v:Int)(d:Nat)=>A8 (vs=[.ref p,.ref q]) (lU K H p M ts u) (lU K H q N ns v) (Fine d M ts u) (Fine d N ns v) (1<=d) (d<=4) (∀r H',Same H H'->nV K H' r (mulM d N M) (redT (v*u) (movT N ns v ts u)) (redU (v*u) (movT N ns v ts u))->Q (.ref r) H')
def sp_1x(K:Frag):Sp:=λvs H Q _=>E4 λ(p:Addr)(M:LM)(ts:LI')(u:Int)=>A6 (vs=[.ref p]) (lU K H p M ts u) (M.length<=100) (ts.length<=100) (0<u) (∀r H',Same H H'->nV K H' r M (nK u ts) u->Q (.ref r) H')
theorem gZ{u:Int}(a:0<u)(b:u<2^1500):u.natAbs<2^1500:=by
 have e:((2^1500:Nat):Int)=(2:Int)^1500:=nofun
 omega
theorem jI{u:Int}{B:Nat}(h:u.natAbs<2^B)(a:B<=8990):lQ u:=zI h (yC ∅ a)
theorem Ra{u v:Int}(a:0<u)(d:u<2^1500)(b:0<v)(c:v<2^1500):lQ (u*v)/\0<u*v:=by
 refine⟨jI (B:=1500+1500) ?_ ∅,xC a b⟩;rw[xD,vE];exact tU (gZ a d) (gZ b c)
theorem nA.le{B C:Nat}{M:LM}(h:nA B M)(a:B<=C):nA C M:=λr hr x b=>zI (h r hr x b) (yC ∅ a)
section
variable {P:Program} {w:World} {K:Frag} {mg:MT} {base:Heap} {t:Adr}
theorem Sz{ns:LI'}{k:Int}(a:0<=k)(b:k<ns.length):atI (ns.map V.int) k=some (.int (ns.getD k.toNat 0)):=by
 obtain⟨j,rfl⟩:=vN a;exact mL (iZ (getD_at ⋯)) rfl
theorem Sy{a b:Int}{H:Hp}{Q:VK}{E:XK}:Gc [.int a,.int b] H Q E=Q (.int (gcdI a b)) H:=propext ⟨λ⟨_,_,e,q⟩=>by cases e;exact q,λq=>⟨_,_,rfl,q⟩⟩
theorem ok_15(T:Txt K mg t):FnOk P w K mg base CX0 1 t.a_15 t.d_15 pw' sp_15:=by
 apply T.F_15.ok sc_15
 ·obtain⟨a,b,rfl,k⟩:=h;refine⟨_,(pL (pW (i:=2) sc_15.nd rfl (Or.inl rfl) (oP iR rfl T.z_abs (nofun) (pJ (pq 0) pK)))
   (pL (pW (i:=3) sc_15.nd rfl (Or.inl rfl) (oP iR rfl T.z_abs (nofun) (pJ (pq 1) pK)))
   (pL (bW yR (oJ mJ (pq 3) pP (oG _))
   (pL (pW (i:=4) sc_15.nd rfl (Or.inl rfl) (pQ nZ (pq 2) (pq 3)))
   (pL (pW (i:=2) sc_15.nd rfl (Or.inl rfl) (pq 3))
   (pO (pW (i:=3) sc_15.nd rfl (Or.inl rfl) (pq 4))))))
   (pO (oB (pq 2)))))),?_⟩
  show tSeq _ _ _ [some (.int a),some (.int b),none,none,none] H;ext;refine⟨λm d c=>∃g l r,d=[some (.int a),some (.int b),some (.int g),some (.int l),r]/\c=H/\0<=g/\0<=l/\Int.gcd g l=Int.gcd a b/\m=l.toNat,
   ⟨_,_,_,_,rfl,rfl,cR a,cR b,Gf a b,rfl⟩,?_⟩
  rintro m d c ⟨g,l,r,rfl,rfl,i,hl,e,rfl⟩;ext
  by_cases z:l=0
  ·rw[zJ z];refine iteF ?_;rw[Ge e i z];exact k
  ·rw[zK z];refine iteT ⟨λf H'=>f=[some (.int a),some (.int b),some (.int l),some (.int (g.fmod l)),some (.int (g.fmod l))]/\H'=c,?_,z,rfl,rfl⟩;rintro f H' ⟨rfl,rfl⟩;have l1:=rB g (show 0<l by omega);have l2:=tP g (show 0<l by omega);exact⟨(g.fmod l).toNat,⋯,_,_,_,rfl,rfl,hl,l2,by rw[Gg];exact e,rfl⟩
theorem ok_12(T:Txt K mg t):FnOk P w K mg base (CX1 P w) 2 t.a_12 t.d_12 ["tops","under"] (sp_12 K t.a_1i):=by
 have L:=@ok_15 P w K mg base t T;refine T.F_12.okX sc_12 (λvs H Q E h=>?_) (λcdv A outer s H vs Q E hr h=>?_)
 ·obtain⟨b,a,ns,u,rfl,_⟩:=h;rfl
 ·obtain⟨b,a,ns,u,rfl,c,hl,su,v,Z⟩:=h;refine⟨_,(pL (oO (oJ lK (pq 1) pP (oG _))
   (pO (jR rfl jP rfl T.m_1i T.x_1i yE (pJ kX pK)))
   oS)
   (pL (oO (oJ lK (nH T.z_len (pq 0)) pP (oG _))
   (pO (jR rfl jP rfl T.m_1i T.x_1i yE (pJ kX pK)))
   oS)
   (pL (pW (i:=2) sc_12.nd rfl (Or.inr rfl) (oP iR rfl T.z_abs (nofun) (pJ (pq 1) pK)))
   (pL (PS.nox (lI yR rfl (oF (pq 0)) (nP (i:=3) sc_12.nd rfl (Or.inl rfl))
   (pO (pW (i:=2) sc_12.nd rfl (Or.inr rfl) (pU L hr.mo T.F_15 (pJ (pq 2) (pJ (pq 3) pK)))))))
   (pL (oO (oJ dB (pq 1) pP (oG _))
   (pO (pW (i:=2) sc_12.nd rfl (Or.inr rfl) (kJ kK (pq 2))))
   oS)
   (pO (oB (oX (pJ (oZ mK rfl T.z_tuple (nofun) (pJ (oQ (sc:=pM s_12) (N:=N_12) (fr:=[("common",2)]) (te:=(tOp (rI lX λi j=>.int (i.fdiv j)) (tVar 0) (tVar 1))) rfl rfl (nofun) rfl (nofun) (oF (pq 0)) (λ_ _ _ a1=>(pQ mF (pv 0) (pv 1)))) pK)) (pJ (pQ mF (pq 1) (pq 2)) pK)))))))))),?_⟩
  show tSeq _ _ _ [some (.ref a),some (.int u),none,none] H;refine st λN1 e1=>?_;simp only[jQ];ext;refine ite2 (λz=>⟨∅,v (.inl (xF z))⟩) (λz=>?_);have k:u≠0:=λq=>z (zJ q);subst e1;refine st λN1 e1=>?_;simp only[jQ];ext;refine jC c ?_;ext;refine ite2 (λz=>⟨∅,v (.inr ?_)⟩) (λz=>?_)
  ·have:=xF z;exact wL ⋯
  have J:ns≠[]:=λq=>z (zJ (by rw[q];rfl));left;subst e1;refine st λN1 e1=>lN λB eB=>?_;simp only[iSeq];ext;refine⟨b,⟨_,c⟩,?_⟩;refine iA (g:=pY 3) (tb:=B) (λi g f=>∃v3,g=[some (.ref a),some (.int u),some (.int (gl u (ns.take i))),v3]/\f=H) ⟨_,rfl,rfl⟩ (λi g f _⟨_,_,e⟩=>e ▸ c) ?_ ?_
  ·rintro i x g f hi ⟨v3,rfl,rfl⟩;obtain⟨n,m,rfl⟩:=nS hi;subst eB;ext;simp only[Sy];rw[Hz m,Gk]
   first|trivial|exact⟨_,rfl,rfl⟩
  ·rintro g f ⟨v3,rfl,rfl⟩;rw[zqe,tS];subst e1;refine st λX O=>?_;have d:X [some (.ref a),some (.int u),some (.int (cs u ns)),v3] f:=by
    subst O;have W:lQ (cs u ns):=Ga su k (kF (gl_u u ns));have D:∀x,lX x (cs u ns):=λx=>⟨gC ns k,Gb W (gC ns k)⟩;ext;exfalso;refine⟨b,⟨_,c⟩,λa0 F=>oM (λj y _=>∃n,ns[j]?=some n/\y=.int (n.fdiv (cs u ns))) F c (by rw[zqe];omega) (λ_ _ _ _ r _=>r) ?_ ?_⟩
    ·intro i x o zs I _ _ Y R;obtain⟨n,m,rfl⟩:=nS I;subst eB;show tOp _ _ _ [some (.int n),some (.int (cs u ns))] o Y;ext;exact⟨D n,R _ o (Same.refl _) ⟨n,m,rfl⟩⟩
    ·intro o ys S e1 U G;have M:ys=(redT u ns).map V.int:=by
      unfold redT;rw[yW];exact nE (by simpa using U) G
     subst M;refine⟨a0,_,rfl,.inl ⟨SqL.of e1,λl N=>?_⟩⟩;ext;refine⟨D u,(by show 2<=sizeLine;decide),λp C=>Z k J p _ ((S.trans (Same.new N)).trans (Same.new C)) ⟨l,pN,?_⟩⟩;rw[pR (oY pN C)];exact pN
   ext;unfold cs at d;refine ite2 (λz=>?_) (λz=>?_)
   ·rw[zG (xF z)]at d;exact d
   ·rw[zE (λq=>z (zJ q))]at d;exact d
theorem mT{H:Hp}{p:Addr}{ns:LI'}{u:Int}{Q:VK}(h:oA H p ns u)(q:∀x,H x=some (.tup (ns.map V.int))->Q (.ref x) H):rIxB K (.ref p) (.int 0) H Q:=let ⟨x,a,b⟩:=h;⟨true,p,_,_,_,rfl,rfl,SqB.tup a,rfl,q x b⟩
theorem kG{H:Hp}{p:Addr}{ns:LI'}{u:Int}{Q:VK}(h:oA H p ns u)(q:Q (.int u) H):rIxB K (.ref p) (.int 1) H Q:=let ⟨x,a,b⟩:=h;⟨true,p,_,_,_,rfl,rfl,SqB.tup a,rfl,q⟩
theorem ok_w(T:Txt K mg t):FnOk P w K mg base CX0 1 t.a_w t.d_w pF' (sp_w K):=by
 apply T.F_w.ok sc_w
 ·obtain⟨p,ns,u,rfl,c,hl,G,v⟩:=h;refine⟨_,(pL (pW (i:=1) sc_w.nd rfl (Or.inr rfl) (pS (pq 0)))
   (pO (oB (oX (pJ (oZ mK rfl T.z_tuple (nofun) (pJ (oQ (sc:=pM cL) (N:=N_w) (fr:=[("under",1)]) (te:=(tOp (rI (λ_ j=>j≠0) λi j=>.int (i.fmod j)) (tVar 0) (tVar 1))) rfl rfl (nofun) rfl (nofun) (oF (pS (pq 0))) (λ_ _ _ I=>(pQ nZ (pv 0) (pv 1)))) pK)) (pJ (pq 1) pK)))))),?_⟩
  show tSeq _ _ _ [some (.ref p),none] H;right;refine Af c ?_;symm;exfalso;refine Hu c λx a=>⟨true,x,rfl,⟨_,(show SqB true K H x _ from a)⟩,λC k=>oM (λj y _=>∃n,ns[j]?=some n/\y=.int (n.fmod u)) k ((show SqB true K H x _ from a)) (by rw[zqe];omega) (λ_ _ _ _ r _=>r) ?_ ?_⟩
  ·intro i x b zs a _ _ m e;obtain⟨n,o,rfl⟩:=nS a;subst eB;show tOp _ _ _ [some (.int n),some (.int u)] b m;ext;exact⟨⋯,e _ b (Same.refl _) ⟨n,o,rfl⟩⟩
  ·intro b ys F e1 f D;have q:ys=(nK u ns).map V.int:=by
    unfold nK;rw[yW];exact nE (by simpa using f) D
   subst q;refine⟨C,_,rfl,.inl ⟨SqL.of e1,λl z=>?_⟩⟩;refine⟨(by show 2<=sizeLine;decide),λg d=>v g _ ((F.trans (Same.new z)).trans (Same.new d)) ⟨l,pN,?_⟩⟩;rw[pR (oY pN d)];exact pN
theorem ok_20(T:Txt K mg t):FnOk P w K mg base CX0 1 t.a_20 t.d_20 pw' (sp_20 K):=by
 apply T.F_20.ok sc_20
 ·obtain⟨b1,b2,p,q,ms,ns,rfl,k,l,hl,I,L,G⟩:=h;refine⟨_,(pO (oB (oP (Eg rfl) rfl T.z_sum (nofun) (pJ (kN (xs:=["left","right"]) (fr:=[]) (g:=(gTup K 2 (nB (pY 0) (nB (pY 1) gNil)))) (tt:=(tEl (tOp (rI (λi j=>IntMulOk i j) λi j=>.int (i*j)) (tVar 0) (tVar 1)))) (mQ (sc:=pM s_20) (N:=N_20) rfl rfl (nofun)) rfl (fX rfl T.z_zip (pJ (pq 0) (pJ (pq 1) pK))) (λ_ _ _ g=>(kY rfl (nQ (mS (N:=["left","right"]) (i:=0) g rfl (nofun)) (nQ (mS (N:=["left","right"]) (i:=1) g rfl (nofun)) kI)))) (λ_ _ _ g=>(lE (pQ oW (pv 0) (pv 1))))) pK)))),?_⟩;show tRet _ _ [some (.ref p),some (.ref q)] H;ext;refine oC λB eB=>?_;simp only[iZip];ext;refine⟨b1,⟨_,k⟩,b2,⟨_,l⟩,λa F=>?_⟩;refine eA (λj y _=>∃m n,ms[j]?=some m/\ns[j]?=some n/\y=.int (m*n)) F k l (by simpa using hl) (by simpa using I) (λ_ _ _ _ r _=>r) ?_ ?_
  ·intro i x y f zs v d u o D z;obtain⟨m,c,rfl⟩:=nS v;obtain⟨n,b,rfl⟩:=nS d;subst eB;show tOp _ _ _ [some (.int m),some (.int n)] f D;ext;exact⟨L i m n c b,z _ _ (Same.refl _) ⟨m,n,c,b,rfl⟩⟩
  ·intro f zs u o C J;have d:zs=(List.zipWith (·*·) ms ns).map V.int:=by
    refine nE (by simp at C ⊢;omega) λj y e=>?_;obtain⟨m,n,c,b,rfl⟩:=J j y e;exact⟨m*n,by rw[yX,c,b],rfl⟩
   subst d;exact⟨_,rfl,_,SqL.of o,G f u⟩
theorem ok_1e(T:Txt K mg t):FnOk P w K mg base CX0 1 t.a_1e t.d_1e pD' (sp_1e K):=by
 apply T.F_1e.ok sc_1e
 ·obtain⟨b1,b2,a,b,w,rfl,C,N,z,R,a9,a1⟩:=h;refine⟨_,(pO (oB (kN (xs:=["k"]) (fr:=[("rows",0)]) (g:=(pY 0)) (tt:=(tEl (nF (iSeq K (tVar 1)) (pY 0) (tEl (tOp (rIxB K) (tVar 0) (tVar 1))) 1 [("k",0)]))) (mQ (sc:=pM s_1e) (N:=N_1e) rfl rfl (nofun)) rfl (lH rfl T.z_range (pJ (nH T.z_len (pS (pq 0))) pK)) (λ_ _ _ f=>(iV (N:=["k","rows"]) (i:=0) f rfl (nofun) rfl)) (λ_ _ _ f=>(lE (oQ (N:=["k","rows"]) (fr:=[("k",0)]) (te:=(tOp (rIxB K) (tVar 0) (tVar 1))) f rfl (nofun) rfl (nofun) (oF (pv 1)) (λ_ _ _ a5=>(nN ix_B (pv 0) (pv 1) (λ_ _=>rfl))))))))),?_⟩;show tRet _ _ [some (.ref a)] H;ext;refine oC λB eB=>?_;simp only[mD];ext;obtain⟨d,v⟩:∃d,b[0]?=some d:=by cases b with|nil=>exact absurd rfl N|cons r _=>exact⟨r,rfl⟩
  have L:d.length=w:=z d (zqb v);obtain⟨ps,p,k1,k2,k3,J⟩:=C.row v;refine⟨b1,a,_,0,_,rfl,rfl,k1,mL k2 rfl,b2,p,_,rfl,J,?_⟩;rw[zqe,L];refine⟨_,rfl,⋯,⋯,λn q=>?_⟩;rw[zW];refine kO (RowR n λk=>colI k b) q R (RowR.mono (a:=n)) ?_ ?_
  ·intro i g zs hi l a2 a0 U;subst eB;show nF _ _ _ _ _ [some (.int (0+(i:Int))),some (.ref a)] g a0;exfalso;obtain⟨xs,o,a6,Z⟩:=(C.up l).walk;refine⟨b1,⟨_,o⟩,λX D=>?_⟩;refine oM (λj y _=>∃r,b[j]?=some r/\y=.int (r.getD i 0)) D o ⋯ (λ_ _ _ _ r _=>r) ?_ ?_
   ·intro j x u a7 G m a8 S a4;obtain⟨p,r,rfl,c,a3⟩:=Z j x G;subst eB;show tOp _ _ _ [some (.ref p),some (.int (0+(i:Int)))] u S;ext;have I:i<r.length:=by rw[z r (zqb c)];exact hi
    exact⟨b2,p,_,_,_,rfl,rfl,a3.up m,mL (iZ (getD_at I)) ⋯,a4 _ _ (Same.refl _) ⟨r,c,rfl⟩⟩
   ·intro u ys m W F M;have O:ys=(colI i b).map V.int:=by
     refine nE (by simp[colI];omega) λj y e=>?_;obtain⟨r,c,rfl⟩:=M j y e;exact⟨r.getD i 0,by unfold colI;rw[zD,c];rfl,rfl⟩
    subst O;exact U _ _ m ⟨X,rfl,zS (oY a2 D),W⟩
  ·intro g ys l e1 F Y;have:=MatL.of e1 Y;rw[F]at this;exact a1 n g q l this
theorem ok_1t(T:Txt K mg t):FnOk P w K mg base CX0 2 t.a_1t t.d_1t pw' (sp_1t K):=by
 have b0:=@ok_1e P w K mg base t T;have b5:=@ok_20 P w K mg base t T;apply T.F_1t.ok sc_1t
 ·obtain⟨b1,b2,c7,a7,a,b,u,d,w,rfl,a1,b7,a6,O,b3,a8,e0,c3,c6,d0⟩:=h;refine⟨_,(pL (pW (i:=2) sc_1t.nd rfl (Or.inr rfl) (pU b0 hr.mo T.F_1e (pJ (pq 1) pK)))
   (pO (oB (kN (xs:=["row"]) (fr:=[("columns",2)]) (g:=(pY 0)) (tt:=(tEl (nF (iSeq K (tVar 1)) (pY 0) (tEl (oV (sp_20 K) [] E0 (pZ (tVar 1) (pZ (tVar 0) tNil)))) 1 [("row",0)]))) (mQ (sc:=pM s_1t) (N:=N_1t) rfl rfl (nofun)) rfl (oF (pq 0)) (λ_ _ _ J=>(iV (N:=["row","columns"]) (i:=0) J rfl (nofun) rfl)) (λ_ _ _ J=>(lE (oQ (N:=["row","columns"]) (fr:=[("row",0)]) (te:=(oV (sp_20 K) [] E0 (pZ (tVar 1) (pZ (tVar 0) tNil)))) J rfl (nofun) rfl (nofun) (oF (pv 1)) (λ_ _ _ d6=>(pU b5 hr.mo T.F_20 (pJ (pv 1) (pJ (pv 0) pK))))))))))),?_⟩
  show tSeq _ _ _ [some (.ref a),some (.ref b),none] H;right;refine⟨c7,a7,b,d,w,rfl,b7,a6,O,a8,c3,λc e3 e6 M a0=>?_⟩;symm;exfalso;obtain⟨xs,N,a4,c1⟩:=(a1.up M).walk;refine⟨b1,⟨_,N⟩,λl F=>?_⟩;refine oM (RowR l λj=>(List.range w).map λk=>dotI (u.getD j []) (colI k d)) F N ⋯ (RowR.mono (a:=l)) ?_ ?_
  ·intro i x I zs Z v d3 c9 b6;obtain⟨p,r,rfl,D,d4⟩:=c1 i x Z;have b8:u.getD i []=r:=by rw[zqc,D];rfl
   have a9:r.length=d.length:=b3 r (zqb D);subst eB;show nF _ _ _ _ _ [some (.ref p),some (.ref c)] I c9;exfalso;obtain⟨d8,R,e7,c5⟩:=((a0.up v).b (K:=K)).walk;refine⟨false,⟨_,R⟩,λb9 W=>?_⟩;have d7:(jZ w d).length=w:=by simp[jZ]
   refine oM (λj y _=>y=.int (dotI r (colI j d))/\j<w) W R ⋯ (λ_ _ _ _ r _=>r) ?_ ?_
   ·intro j y S e4 L z d9 b4 d5;obtain⟨q,col,rfl,C,c4⟩:=c5 j y L;have g:j<w:=by have:=(zqa C).1;omega
    have c8:col=colI j d:=by
     unfold jZ at C;rw[zD,yB g]at C;exact(zP C).symm
    subst eB c8;show oV _ _ _ _ [some (.ref q),some (.ref p)] S b4;ext;refine⟨b2,false,p,q,r,colI j d,rfl,(d4.up v).up z,c4.up z,by simp[colI,a9],⋯,λc0 m n e1 f=>?_,λe5 a2=>d5 _ _ a2 ⟨rfl,g⟩⟩;unfold colI at f;rw[zD]at f;cases eb:d[c0]? with
    |none=>rw[eb]at f;cases f
    |some G =>
     rw[eb]at f;have c2:G.getD j 0=n:=zP f;subst c2;have U:=zqb eb;exact c6 r (zqb D) m (zqb e1) G U _ (L2.getD_mem (by rw[O G U];exact g))
   ·intro S ys z d2 X d1;have L:ys=((List.range w).map λk=>dotI r (colI k d)).map V.int:=by
     refine nE (by simp;omega) λj y e=>?_;obtain⟨rfl,g⟩:=d1 j y e;exact⟨_,by rw[zD,yB g];rfl,rfl⟩
    subst L;exact b6 _ _ z ⟨b9,rfl,zS (oY d3 W),by dsimp only;rw[b8];exact d2⟩
  ·intro I ys v f X a5;have:=MatL.of f a5;have e:(List.range ys.length).map (λj=>(List.range w).map λk=>dotI (u.getD j []) (colI k d))=mulM w u d:=by
    rw[X,a4];unfold mulM;refine xQ (by simp) λi Y e2=>?_;simp at Y;simp[Y]
   rw[e]at this;have a3:H l=none:=by
    cases q:H l with
    |none=>rfl
    |some o=>rw[M _ _ q]at F;cases F
   exact d0 l I a3 (M.trans v) this
theorem ok_1b(T:Txt K mg t):FnOk P w K mg base CX0 1 t.a_1b t.d_1b pt' (sp_1b K):=by
 apply T.F_1b.ok sc_1b
 ·obtain⟨b1,b2,a,S,l,k,w,rfl,a6,a4,c0,b8,b9,b3⟩:=h;refine⟨_,(pO (oB (kN (xs:=["at","row"]) (fr:=[("i",1),("k",2)]) (g:=(gTup K 2 (nB (pY 0) (nB (pY 1) gNil)))) (tt:=(gO (dC (tOp (rI0 λi j=>.bl (!decide (i=j))) (tVar 0) (tVar 2))) (tOp rCat (tCB (fZ K) (pZ (tSl (rSlB K) (tVar 1) aE (aF (tVar 3))) tNil)) (tCB (fZ K) (pZ (tSl (rSlB K) (tVar 1) (aF (tOp (rI0 λi j=>.int (i+j)) (tVar 3) (tC (.int 1)))) aE) tNil))))) (mQ (sc:=pM s_1b) (N:=N_1b) rfl rfl (nofun)) rfl (dR rfl T.z_enumerate (pJ (pq 0) pK)) (λ_ _ _ F=>(kY rfl (nQ (mS (N:=["at","row","i","k"]) (i:=0) F rfl (nofun)) (nQ (mS (N:=["at","row","i","k"]) (i:=1) F rfl (nofun)) kI)))) (λ_ _ _ F=>(Nl (oJ mJ (pv 0) (pv 2) (oG _)) (pQ jO (oZ iX rfl T.z_list (nofun) (pJ (Dl sl_B (pv 1) Do (Dm (pv 3))) pK)) (oZ iX rfl T.z_list (nofun) (pJ (Dl sl_B (pv 1) (Dm (pQ mW (pv 3) pP)) Do) pK)))))))),?_⟩;show tRet _ _ [some (.ref a),some (.int l),some (.int k)] H;ext;refine Os λb6 b5 a3 eB=>?_;simp only[fY];ext;obtain⟨xs,N,a2,a8⟩:=a6.walk;refine⟨b1,⟨_,N⟩,λX R=>?_⟩;refine Rc (λt zs b=>lF X b zs (((S.take t).eraseIdx l).map λ(r:LI')=>r.eraseIdx k)) R N ⋯ lF.nil ?_ (λ_ _ _ _ r s=>r.mono s) ?_ ?_
  ·intro i zs b p;rw[p.len,zqe,sI];have:=List.length_take_le i S;split <;> omega
  ·intro i x b zs Z J a1 p C L I;obtain⟨G,r,rfl,O,y⟩:=a8 i x Z;have b7:r.length=w:=a4 r (zqb O);replace y:=y.up J;rw[Rb O]at L I;subst a3 eB;show gO _ _ [some (.int i),some (.ref G),some (.int l),some (.int k)] b C;simp only[gO];ext
   by_cases z:i=l
   ·subst z;rw[zG rfl]at I;rw[zJ rfl];exact I b (Same.refl _) p
   ·rw[zE z]at L;rw[zK (show¬ (i:Int)=l by omega)];refine iteT ?_;refine⟨b2,G,_,rfl,y,λ_=>by rw[zqe,HT.sIx_none,HT.sIx_nat];omega,λd b0=>?_⟩;have sq1:SqB b2 K (upd b d (seqO b2 (cutV (r.map V.int) none (some (k:Int))))) d (cutV (r.map V.int) none (some (k:Int))):=SqB.cut;have u:Same b (upd b d (seqO b2 (cutV (r.map V.int) none (some (k:Int))))):=Same.new b0;generalize upd b d _=m at sq1 u;rw[Op ⋯]at sq1;refine⟨b2,d,_,rfl,sq1,λf a5=>?_⟩;have U:(upd m f (.lst ((r.take k).map V.int))) f=some (.lst ((r.take k).map V.int)):=pN;have v:Same m (upd m f (.lst ((r.take k).map V.int))):=Same.new a5;generalize upd m f _=n at U v;refine⟨b2,G,_,rfl,(y.up u).up v,λ_=>by rw[zqe,HT.sIx_none,show(k:Int)+1=((k+1:Nat):Int) by omega,HT.sIx_nat];omega,λc a7=>?_⟩;have sq3:SqB b2 K (upd n c (seqO b2 (cutV (r.map V.int) (some ((k:Int)+1)) none))) c (cutV (r.map V.int) (some ((k:Int)+1)) none):=SqB.cut;have D:Same n (upd n c (seqO b2 (cutV (r.map V.int) (some ((k:Int)+1)) none))):=Same.new a7;generalize upd n c _=o at sq3 D;rw[show(k:Int)+1=((k+1:Nat):Int) by omega,Oo ⋯]at sq3;refine⟨b2,c,_,rfl,sq3,λg a0=>?_⟩;have q:Same o (upd o g (.lst ((r.drop (k+1)).map V.int))):=Same.new a0;have W:(upd o g (.lst ((r.drop (k+1)).map V.int))) g=some (.lst ((r.drop (k+1)).map V.int)):=pN;generalize upd o g _=a9 at W q;refine⟨f,g,_,_,rfl,rfl,q _ _ (D _ _ U),W,by rw[zqe,zqe,wP,rV];exact vL (aJ ⋯),λb4 M=>?_⟩;have Y:Same b (upd a9 b4 (.lst ((r.take k).map V.int++(r.drop (k+1)).map V.int))):=(((u.trans v).trans D).trans q).trans (Same.new M);refine L _ _ Y ?_;rw[xK];refine(p.mono Y.x).snoc (λe=>?_) ?_
    ·subst e;rw[q _ _ (D _ _ (v _ _ (u _ _ a1)))]at M;cases M
    ·rw[pN];dsimp only;rw[List.eraseIdx_eq_take_drop_succ,xK]
  ·intro b ys J e1 p;rw[a2,tS]at p;exact b3 X b R J (lF.mat e1 p)
theorem ok_1(T:Txt K mg t):∀n:Nat,FnOk P w K mg base CX0 (n+1) t.a_1 t.d_1 pD' (sp_1 K n)
 |0=>⟨λ_ _ _ _ h=>h.elim,λ_ _ _ _ _ _ _ _ _ _ _ _ _ h=>h.elim⟩
 | n+1=>by
  have V:FnOk P w K mg base CX0 (n+1) t.a_1 t.d_1 pD' (sp_1 K n):=ok_1 T n;have Y:=@ok_1b P w K mg base t T;apply T.F_1.ok sc_1
  ·obtain⟨b1,b2,a,c,B,rfl,i,d,a7,C,a0,O⟩:=h;refine⟨_,(pL (oO (oJ lK (nH T.z_len (pq 0)) pP (oG _))
   (pO (oB (pS (pS (pq 0)))))
   oS)
   (pL (pW (i:=1) sc_1.nd rfl (Or.inl rfl) pP)
   (pL (pW (i:=2) sc_1.nd rfl (Or.inl rfl) pP)
   (pL (lI yR rfl (dR rfl T.z_enumerate (pJ (pS (pq 0)) pK)) (kY rfl (nQ (nP (i:=3) sc_1.nd rfl (Or.inl rfl)) (nQ (nP (i:=4) sc_1.nd rfl (Or.inl rfl)) kI)))
   (pL (oO (oJ mJ (pq 4) pP (oG _))
   (pO (Cm (i:=1) sc_1.nd rfl (Or.inl rfl) (pQ oW (pQ oW (pq 2) (pq 4)) (pU V hr.mo T.F_1 (pJ (pU Y hr.mo T.F_1b (pJ (pq 0) (pJ pP (pJ (pq 3) pK)))) pK))) Cl))
   oS)
   (pO (pW (i:=2) sc_1.nd rfl (Or.inl rfl) (kJ kK (pq 2))))))
   (pO (oB (pq 1))))))),?_⟩
   show tSeq _ _ _ [some (.ref a),none,none,none,none] H;obtain⟨D,L⟩:=row0 d;have X:(c.getD 0 []).length=n+1:=d.2 _ L;right;refine gP i ?_;ext;rw[d.1]
   by_cases z:n=0
   ·subst z;rw[zJ (by rfl)];exact iteT (aT i D (getD_at (k:=0) ⋯) rfl rfl (O H (Same.refl _)))
   ·rw[zK (show¬ ((n+1:Nat):Int)=1 by omega)];refine iteF ?_;obtain⟨n,rfl⟩:∃m,n=m+1:=⟨n-1,⋯⟩;left;left;subst e1;refine st λN1 e1=>lN λa8 eB=>?_;simp only[fY];ext;refine dX i D rfl λp R=>⟨b2,_,rfl,⟨_,R⟩,?_⟩;generalize hf:(λk=>(c.getD 0 []).getD k 0*detM (n+1) (kP 0 k c))=f;refine Ea (nx:=N1) (rt:=Q) (λk j e=>∃v3 l,j=[some (.ref a),some (.int (altS f k)),some (.int (sg k)),v3,l]/\Same H e) ⟨_,_,rfl,Same.refl _⟩ (λ_ _ _ _⟨_,_,_,b⟩=>R.up b) ?_ ?_
    ·rintro k x q j e U ⟨v3,l,rfl,b⟩ a2;obtain⟨x,J,rfl⟩:=nS U;have G:k<n+2:=by have:=(zqa J).1;omega
     refine⟨q,[.int k,.int x],rfl,SqT.of pN,rfl,_,_,rfl,_,_,rfl,rfl,?_⟩;replace b:=b.trans (Same.new (o:=.tup [.int k,.int x]) a2);generalize upd e q (.tup [.int k,.int x])=y at b;subst eB;show tSeq _ _ _ [some (.ref a),some (.int (altS f k)),some (.int (sg k)),some (.int k),some (.int x)] y;refine st λa3 Z=>?_;have M:∀g(o:Int),Same H g->o=altS f (k+1)->a3 [some (.ref a),some (.int o),some (.int (sg k)),some (.int k),some (.int x)] g:=by
      intro g o v a4;subst Z a4;ext;rw[Re];exact⟨rfl,v⟩
     ext;have S:(c.getD 0 []).getD k 0=x:=Oq J;have I:f k=x*detM (n+1) (kP 0 k c):=by rw[←hf];dsimp only;rw[S]
     have F:=d.minor (i:=0) (k:=k) ⋯ G;have N:nA B (kP 0 k c):=C.minor
     by_cases u:x=0
     ·rw[zJ u];refine iteF (M y _ b ?_);show _=altS f k+sg k*f k;rw[I,u];simp
     ·rw[zK u];refine iteT ?_;simp only[tAug,ipI];ext;refine⟨IntMulOk.of_left (by unfold sg;split <;> decide),b1,b2,a,c,0,k,_,rfl,i.up b,d.2,G,⋯,by rw[d.1];omega,λr g _ v W=>?_⟩;refine⟨false,false,r,_,B,rfl,W.b,F,⋯,N,a0,λa1 a5=>?_⟩;ext;have a6:=C _ L x (by rw[←S];exact L2.getD_mem ⋯);have a9:=Hw (n+1) _ ⋯ ⋯ F N;refine⟨yG (m:=B+1) (n:=(n+1)*(B+2)+1) (oN ?_) (oN ?_) ?_,?_⟩
      ·rw[xD,Hy,Nat.one_mul,qK];omega
      ·rw[qK];have:=tZ ((n+1)*(B+2));omega
      ·have:(n+1)*(B+2)<=4*1000002:=uF ⋯ ⋯;omega
      ·refine M a1 _ ((b.trans v).trans a5) ?_;show _=altS f k+sg k*f k;rw[I,rF]
    ·rintro j e ⟨v3,l,rfl,b⟩;symm;rw[zqe,X];have:altS f (n+2)=detM (n+2) c:=by rw[←hf];rfl
     rw[this];exact O e b
theorem ok_l(T:Txt K mg t):FnOk P w K mg base CX0 1 t.a_l t.d_l ["size"] sp_l:=by
 apply T.F_l.ok sc_l
 ·obtain⟨n,rfl,f,M⟩:=h;refine⟨_,(pO (oB (kN (xs:=["i"]) (fr:=[("size",0)]) (g:=(pY 0)) (tt:=(tEl (nF (mD (pZ (tVar 1) tNil)) (pY 0) (tEl (tIf (dC (tOp (rI0 λi j=>.bl (decide (i=j))) (tVar 1) (tVar 0))) (tC (.int 1)) (tC (.int 0)))) 1 [("i",0)]))) (mQ (sc:=pM cN) (N:=N_l) rfl rfl (nofun)) rfl (lH rfl T.z_range (pJ (pq 0) pK)) (λ_ _ _ b=>(iV (N:=["i","size"]) (i:=0) b rfl (nofun) rfl)) (λ_ _ _ b=>(lE (oQ (N:=["i","size"]) (fr:=[("i",0)]) (te:=(tIf (dC (tOp (rI0 λi j=>.bl (decide (i=j))) (tVar 1) (tVar 0))) (tC (.int 1)) (tC (.int 0)))) b rfl (nofun) rfl (nofun) (lH rfl T.z_range (pJ (pv 1) pK)) (λ_ _ _ S=>(bU (oJ lK (pv 1) (pv 0) (oG _)) pP pP)))))))),?_⟩;show tRet _ _ [some (.int n)] H;ext;refine oC λB eB=>?_;simp only[mD];ext;refine⟨⋯,⋯,λc g=>?_⟩;rw[zW];refine kO (RowR c λi=>(List.range n).map λk=>if i=k then(1:Int) else 0) g f (RowR.mono (a:=c)) ?_ ?_
  ·intro i a zs hi q R L F;subst eB;show nF _ _ _ _ _ [some (.int (0+(i:Int))),some (.int n)] a L;refine oC λB eB=>?_;simp only[mD];ext;refine⟨⋯,⋯,λJ p=>?_⟩;rw[zW];refine kO (λk y _=>k<n/\y=.int (if i=k then 1 else 0)) p f (λ_ _ _ _ r _=>r) ?_ ?_
   ·intro k l W m u U D v;subst eB;show tIf _ _ _ [some (.int (0+(k:Int))),some (.int (0+(i:Int)))] l D;ext
    by_cases z:i=k
    ·rw[zJ ⋯];exact iteT (v _ _ (Same.refl _) ⟨m,by rw[zG z]⟩)
    ·rw[zK ⋯];exact iteF (v _ _ (Same.refl _) ⟨m,by rw[zE z]⟩)
   ·intro l ys u O d N;have C:ys=((List.range n).map λk=>if i=k then(1:Int) else 0).map V.int:=by
     refine nE (by simpa using d) λj y e=>?_;obtain⟨I,rfl⟩:=N j y e;exact⟨_,by rw[zD,yB I];rfl,rfl⟩
    subst C;exact F _ _ u ⟨J,rfl,zS (oY R p),O⟩
  ·intro a ys q G d x;have o:=MatL.of G x;rw[d]at o;exact M c a g q o
theorem Ht{H:Hp}{a f:Addr}{M:LM}{N:St}{Q:VK}{b1 b2:Bool}(n:MatB b1 b2 K H a M)(hl:M.length<=1000)(m:H f=none)
  (C:∀b zs,Same H b->b f=some (.lst zs)->(∀l,b l=none->MatB true true K (upd b l (.tup zs)) l M)->Q (.ref f) b):lO (Its K b1 a) (pY 0) (tEl (tCB (jY K) (pZ (tVar 0) tNil))) 1 [] N f H Q:=by
 cases b2 with
 |false =>
  refine On n hl m λb c D=>?_;obtain⟨zs,d,_⟩:=id D;refine C b _ c d λl g=>?_;obtain⟨a0,o,S⟩:=D.tuple (K:=K) g;rw[d]at o;cases o;exact S
 | true =>
  obtain⟨xs,J,a1,U⟩:=n.walk;refine oM (λj y _=>∃p r,y=.ref p/\M[j]?=some r/\SqB true K H p (r.map V.int)) m J ⋯ (λ_ _ _ _ r _=>r) ?_ ?_
  ·intro i x b zs I c a4 a3 R;obtain⟨p,r,rfl,L,F⟩:=U i x I;exact⟨_,rfl,p,_,rfl,.inr ⟨F.up c,R _ _ (Same.refl _) ⟨p,r,rfl,L,F⟩⟩⟩
  ·intro b ys c e1 v u;have X:∃ps:LA,ys=ps.map V.ref:=by
    clear e1 v;have:∀(zs:List V),(∀(j:Nat) y,zs[j]?=some y->∃p:Addr,y=.ref p)->∃ps:LA,zs=ps.map V.ref:=by
     intro zs
     induction zs with
     |nil=>intro _;exact⟨[],rfl⟩
     |cons z r O =>
      intro d;obtain⟨p,e⟩:=d 0 z rfl;obtain⟨ps,k⟩:=O λj y q=>d (j+1) y (by simpa using q);exact⟨p:: ps,by rw[e,k];rfl⟩
    exact this ys λj y e=>let ⟨p,r,e1,_⟩:=u j y e;⟨p,e1⟩
   obtain⟨ps,rfl⟩:=X;refine C b _ c e1 λl g=>⟨ps,SqB.tup pN,by simp at v;omega,λi p r k Y=>?_⟩;obtain⟨Z,a2,W,G,T⟩:=u i (.ref p) (by simp[k]);cases W;rw[Y]at G;cases G;exact T.up (c.trans (Same.new g))
theorem ok_1a(T:Txt K mg t):FnOk P w K mg base CX0 1 t.a_1a t.d_1a px' (sp_1a K):=by
 apply T.F_1a.ok sc_1a
 ·obtain⟨b1,b2,a,p,M,ts,u,rfl,e,f,hl,n⟩:=h;refine⟨_,(pO (oB (oX (pJ (oZ mK rfl T.z_tuple (nofun) (pJ (oQ (sc:=pM s_1a) (N:=N_1a) (fr:=[]) (te:=(tCB (jY K) (pZ (tVar 0) tNil))) rfl rfl (nofun) rfl (nofun) (oF (pq 0)) (λ_ _ _ z=>(oZ mK rfl T.z_tuple (nofun) (pJ (pv 0) pK)))) pK)) (pJ (pS (pq 1)) (pJ (pS (pq 1)) pK)))))),?_⟩;show tRet _ _ [some (.ref a),some (.ref p)] H;ext;exfalso;obtain⟨xs,j,_⟩:=e.walk;refine⟨b1,⟨_,j⟩,λr k=>?_⟩;subst eB;refine Ht e ⋯ k λi zs v o b=>?_;refine⟨r,_,rfl,.inl ⟨SqL.of o,λl g=>?_⟩⟩;have c:Same H (upd i l (.tup zs)):=v.trans (Same.new g);replace b:=b l g;generalize upd i l (.tup zs)=y at c b;refine mT (f.up c) λx m=>kG (f.up c) ⟨(by show 3<=sizeLine;decide),λq d=>n q _ (c.trans (Same.new d)) ⟨l,x,pN,b.up (Same.new d),Same.new d _ _ m⟩⟩
theorem ok_1x(T:Txt K mg t):FnOk P w K mg base CX0 2 t.a_1x t.d_1x pF' (sp_1x K):=by
 have g:=@ok_1a P w K mg base t T;have e:=@ok_w P w K mg base t T;apply T.F_1x.ok sc_1x
 ·obtain⟨p,M,ts,u,rfl,a,hl,j,o,m⟩:=h;refine⟨_,(pO (oB (pU g hr.mo T.F_1a (pJ (pS (pq 0)) (pJ (pU e hr.mo T.F_w (pJ (oX (pJ (pS (pq 0)) (pJ (pS (pq 0)) pK))) pK)) pK))))),?_⟩;show tRet _ _ [some (.ref p)] H;ext;refine jH a λx v=>gY a λy d=>gD a ⟨(by show 2<=sizeLine;decide),λl n=>?_⟩;have b:Same H (upd H l (.tup [.ref y,.int u])):=Same.new n;refine⟨l,ts,u,rfl,⟨y,SqT.of pN,nX b _ _ d⟩,j,o,λf C c k=>?_⟩;exact⟨true,true,x,f,M,_,u,rfl,v.up (b.trans c),k,hl,λq i r z=>m q i ((b.trans c).trans r) z⟩
theorem ok_1r(T:Txt K mg t):FnOk P w K mg base CX0 3 t.a_1r t.d_1r ["one","spot"] (sp_1r K):=by
 have a4:=@ok_20 P w K mg base t T;have a2:=@ok_12 P w K mg base t T;apply T.F_1r.ok sc_1r
 ·obtain⟨p,q,M,ts,ns,u,v,d,rfl,f,I,a,c1,c3,c0,U,o,G,b3⟩:=h;refine⟨_,(pL (fW (i:=2) (xs:=["row","top"]) (fr:=[("one",0),("spot",1)]) (g:=(gTup K 2 (nB (pY 0) (nB (pY 1) gNil)))) (tt:=(tEl (tOp (rI0 λi j=>.int (i+j)) (tOp (rI (λi j=>IntMulOk i j) λi j=>.int (i*j)) (oV (sp_20 K) [] E0 (pZ (tVar 0) (pZ (tOp (rIxB K) (tVar 3) (tC (.int 0))) tNil))) (tOp (rIxB K) (tVar 2) (tC (.int 2)))) (tOp (rI (λi j=>IntMulOk i j) λi j=>.int (i*j)) (tVar 1) (tOp (rIxB K) (tVar 3) (tC (.int 1))))))) (mQ (sc:=pM s_1r) (N:=N_1r) rfl rfl (nofun)) rfl sc_1r.nd rfl rfl (fX rfl T.z_zip (pJ (pS (pq 0)) (pJ (pS (pq 0)) pK))) (λ_ _ _ l=>(kY rfl (nQ (mS (N:=["row","top","one","spot"]) (i:=0) l rfl (nofun)) (nQ (mS (N:=["row","top","one","spot"]) (i:=1) l rfl (nofun)) kI)))) (λ_ _ _ l=>(lE (pQ mW (pQ oW (pU a4 hr.mo T.F_20 (pJ (pv 0) (pJ (pS (pv 3)) pK))) (pS (pv 2))) (pQ oW (pv 1) (pS (pv 3)))))))
   (pO (oB (mX a2 hr.mo rfl T.F_12.m T.F_12.kp T.F_12.b .nil lJ (pJ (pq 2) (pJ (pQ oW (pS (pq 0)) (pS (pq 1))) pK)))))),?_⟩
  show tSeq _ _ _ [some (.ref p),some (.ref q),none] H;right;refine oC λB eB=>?_;simp only[iZip];ext;refine jH f λx Z=>gY f λy N=>?_;obtain⟨xs,J,k,a9⟩:=Z.walk;refine⟨true,true,x,rfl,y,rfl,⟨_,J⟩,⟨_,(N:SqB true K H y _)⟩,λb5 X=>?_⟩;have Y:∀(i:Nat)(r:LI')(tt:Int),M[i]?=some r->ts[i]?=some tt->(movT M ts u ns v)[i]?=some (dotI r ns*u+tt*v):=λi r tt e1 D=>by
   unfold movT;rw[yX,e1,D]
  refine eA (λj z _=>∃n,(movT M ts u ns v)[j]?=some n/\z=.int n) X J ((N:SqB true K H y _)) (by rw[k,a.sq.1,zqe,a.len]) (by rw[k,a.sq.1];omega) (λ_ _ _ _ r _=>r) ?_ ?_
  ·intro i b1 c4 C zs W b7 b c5 b2 a5;obtain⟨R,r,rfl,F,b6⟩:=a9 i b1 W;obtain⟨tt,S,rfl⟩:=nS b7;have b9:r.length=d:=a.sq.2 r (zqb F);have O:=a.bm r (zqb F);subst eB;show tOp _ _ _ [some (.ref R),some (.int tt),some (.ref p),some (.ref q)] C b2;ext;refine Hu (I.up b) λz b0=>?_;refine⟨true,true,R,z,r,ns,rfl,b6.up b,(b0:SqB true K C z _),⋯,⋯,λc2 m n e1 D=>yG (oN (O m (zqb e1))) (oN (U n (zqb D))) ∅,λL c=>?_⟩;refine gD (f.up (b.trans c)) ?_;ext;have b8:=Hv r ns O U;have b4:(dotI r ns).natAbs<2^400010:=by
    have:r.length*2^(200000+200000)<=4*2^(200000+200000):=xI _ ⋯;have e:(2:Nat)^400010=1024*2^(200000+200000):=by rw[show(400010:Nat)=10+(200000+200000) from rfl,vE]
    have:=tZ (200000+200000);omega
   refine⟨yG (oN b4) (oN (gZ a.pos a.bu)) ∅,?_⟩;refine Af (I.up (b.trans c)) ?_;ext;refine⟨yG (oN (a.bt tt (zqb S))) (oN (gZ o G)) ∅,?_⟩;exact a5 _ _ c ⟨_,Y i r tt F S,rfl⟩
  ·intro C zs b a0 a6 a8;have g:(movT M ts u ns v).length=d:=by unfold movT;rw[yA,a.sq.1,a.len];omega
   have a3:zs=(movT M ts u ns v).map V.int:=nE (by rw[a6,k,a.sq.1,g]) a8;subst a3;symm;refine gD (f.up b) ?_;refine Af (I.up b) ?_;ext;have a7:=Ra a.pos a.bu o G;refine⟨yG (oN (gZ a.pos a.bu)) (oN (gZ o G)) ∅,?_⟩;refine⟨false,b5,_,_,rfl,SqB.lst a0,⋯,a7.1,λz=>?_,λ_ _ r L c a1=>b3 r L (b.trans c) a1⟩;rcases z with z|z
   ·omega
   ·rw[z]at g;simp at g;omega
theorem ok_1l(T:Txt K mg t):FnOk P w K mg base CX0 4 t.a_1l t.d_1l pw' (sp_1l K):=by
 have b2:=@ok_20 P w K mg base t T;have c6:=@ok_1e P w K mg base t T;have e3:=@ok_1r P w K mg base t T;have d5:=@ok_1a P w K mg base t T;apply T.F_1l.ok sc_1l
 ·obtain⟨p,q,M,N,ts,ns,u,v,d,rfl,X,a4,a,g,b3,c8,e6⟩:=h;refine⟨_,(pL (pW (i:=2) sc_1l.nd rfl (Or.inr rfl) (pU c6 hr.mo T.F_1e (pJ (pS (pq 0)) pK)))
   (pL (fW (i:=3) (xs:=["row"]) (fr:=[("columns",2)]) (g:=(pY 0)) (tt:=(tEl (nF (iSeq K (tVar 1)) (pY 0) (tEl (oV (sp_20 K) [] E0 (pZ (tVar 1) (pZ (tVar 0) tNil)))) 1 [("row",0)]))) (mQ (sc:=pM s_1l) (N:=N_1l) rfl rfl (nofun)) rfl sc_1l.nd rfl rfl (oF (pS (pq 1))) (λ_ _ _ W=>(iV (N:=["row","columns"]) (i:=0) W rfl (nofun) rfl)) (λ_ _ _ W=>(lE (oQ (N:=["row","columns"]) (fr:=[("row",0)]) (te:=(oV (sp_20 K) [] E0 (pZ (tVar 1) (pZ (tVar 0) tNil)))) W rfl (nofun) rfl (nofun) (oF (pv 1)) (λ_ _ _ f6=>(pU b2 hr.mo T.F_20 (pJ (pv 1) (pJ (pv 0) pK))))))))
   (pO (oB (pU d5 hr.mo T.F_1a (pJ (pq 3) (pJ (pU e3 hr.mo T.F_1r (pJ (pq 1) (pJ (oX (pJ (pS (pq 0)) (pJ (pS (pq 0)) pK))) pK))) pK))))))),?_⟩
  show tSeq _ _ _ [some (.ref p),some (.ref q),none,none] H;right;have d3:M≠[]:=λz=>by have:=a.sq.1;rw[z]at this;simp at this;omega
  refine jH X λx b1=>⟨true,true,x,M,d,rfl,b1,d3,a.sq.2,⋯,by rw[a.sq.1];omega,λc f5 f4 a6 b0=>?_⟩;left;exfalso;refine jH (a4.up a6) λy c4=>?_;obtain⟨xs,a2,a8,d9⟩:=c4.walk;refine⟨true,y,rfl,⟨_,a2⟩,λL d2=>?_⟩;refine oM (RowR L λj=>(List.range d).map λk=>dotI (N.getD j []) (colI k M)) d2 a2 (by rw[a8,g.sq.1];omega) (RowR.mono (a:=L)) ?_ ?_
  ·intro i x F zs d1 I c9 e5 d7;obtain⟨R,r,rfl,S,d0⟩:=d9 i x d1;have b9:N.getD i []=r:=by rw[zqc,S];rfl
   have d6:r.length=d:=g.sq.2 r (zqb S);have d4:=g.bm r (zqb S);subst eB;show nF _ _ _ _ _ [some (.ref R),some (.ref c)] F e5;exfalso;obtain⟨f7,Y,f2,b5⟩:=((b0.up I).b (K:=K)).walk;refine⟨false,⟨_,Y⟩,λc0 a1=>?_⟩;have f3:(jZ d M).length=d:=by simp[jZ]
   refine oM (λj y _=>y=.int (dotI r (colI j M))/\j<d) a1 Y ⋯ (λ_ _ _ _ r _=>r) ?_ ?_
   ·intro j y a3 f1 O b e9 c7 c3;obtain⟨a0,col,rfl,D,J⟩:=b5 j y O;have o:j<d:=by have:=(zqa D).1;omega
    have b6:col=colI j M:=by
     unfold jZ at D;rw[zD,yB o]at D;exact(zP D).symm
    subst eB b6;show oV _ _ _ _ [some (.ref a0),some (.ref R)] a3 c7;ext;refine⟨true,false,R,a0,r,colI j M,rfl,(d0.up I).up b,J.up b,by simp[colI,d6,a.sq.1],⋯,λc1 m n e1 f=>?_,λb4 G=>c3 _ _ G ⟨rfl,o⟩⟩;unfold colI at f;rw[zD]at f;cases eb:M[c1]? with
    |none=>rw[eb]at f;cases f
    |some U =>
     rw[eb]at f;have e0:U.getD j 0=n:=zP f;subst e0;have a9:=zqb eb;exact yG (oN (d4 m (zqb e1))) (oN (a.bm U a9 _ (L2.getD_mem (by rw[a.sq.2 U a9];exact o)))) ∅
   ·intro a3 ys b e7 a7 b7;have O:ys=((List.range d).map λk=>dotI r (colI k M)).map V.int:=by
     refine nE (by simp;omega) λj y e=>?_;obtain⟨rfl,o⟩:=b7 j y e;exact⟨_,by rw[zD,yB o];rfl,rfl⟩
    subst O;exact d7 _ _ b ⟨c0,rfl,zS (oY c9 a1),by dsimp only;rw[b9];exact e7⟩
  ·intro F ys I f a7 b8;have Z:=MatL.of f b8;have e:(List.range ys.length).map (λj=>(List.range d).map λk=>dotI (N.getD j []) (colI k M))=mulM d N M:=by
    rw[a7,a8];unfold mulM;refine xQ (by simp) λi a5 f0=>?_;simp at a5;simp[a5]
   rw[e]at Z;have C:=a6.trans I;symm;refine gY (X.up C) λz e2=>gD (X.up C) ⟨(by show 2<=sizeLine;decide),λl c5=>?_⟩;have b:Same F (upd F l (.tup [.ref z,.int u])):=Same.new c5;refine⟨q,l,N,ns,ts,v,u,d,rfl,(a4.up C).up b,⟨z,SqT.of pN,nX b _ _ e2⟩,g,b3,c8,a.len,a.bt,a.pos,a.bu,λr b4 G e8=>?_⟩;exact⟨false,false,L,r,_,_,_,rfl,((Z.up b).up G).b,e8,by simp[mulM,g.sq.1];omega,λc2 e4 d8 J=>e6 c2 e4 (((C.trans b).trans G).trans d8) J⟩
def Ae(rows:LM)(tops:LI')(u:Int):Prop:=(rows.length=2\/rows.length=3)/\(∀r∈rows,r.length=rows.length)/\tops.length=rows.length/\u≠0/\(detM rows.length rows=1\/detM rows.length rows=-1)
def sp_1v(K:Frag)(C:Addr):Sp:=λvs H Q E=>E9 λ(b1 b2 b3:Bool)(a p:Addr)(rows:LM)(tops:LI')(u:Int)(B:Nat)=>A10 (vs=[.ref a,.ref p,.int u]) (MatB b1 b2 K H a rows) (SqB b3 K H p (tops.map V.int)) (rows.length<=100) (tops.length<=100) (nA B rows) (B<=1000000) (lQ u) ((¬ Ae rows tops u->∀H',Same H H'->E (.ref C) none H')) ((Ae rows tops u->∀q H',Same H H'->nV K H' q rows (redT u tops) (redU u tops)->Q (.ref q) H'))
theorem inV2(L x y:Int):inV (.int L) [.int x,.int y]=decide (L=x\/L=y):=by
 have e:inV (.int L) [.int x,.int y]=(eqV (.int x) (.int L) || (eqV (.int y) (.int L) || false)):=rfl;have f:∀a b:Int,eqV (.int a) (.int b)=decide (a=b):=λa b=>by
  first|rfl|(unfold eqV;rfl)|(simp only[eqV];by_cases h:a=b <;> simp[h])
 rw[e,f,f,Bool.or_false]
 by_cases c:x=L
 ·rw[zJ c,zJ (p:=L=x\/L=y) (Or.inl c.symm)];rfl
 ·rw[zK c]
  by_cases d:y=L
  ·rw[zJ d,zJ (p:=L=x\/L=y) (Or.inr d.symm)];rfl
  ·rw[zK d,zK (p:=L=x\/L=y) ⋯];rfl
theorem cS{H:Hp}{Q:VK}{E:XK}{b1 b2:Bool}{a:Addr}{b:LM}{n B:Nat}(f:1<=n)(d:n<=4)(e:MatB b1 b2 K H a b)(c:Sq n b)(i:nA B b)(g:B<=1000000)(q:∀H',Same H H'->Q (.int (detM n b)) H'):sp_1 K n [.ref a] H Q E:=by
 match n,f,d,c,q with
 |m+1,_,d,c,q=>exact⟨b1,b2,a,b,B,rfl,e,c,⋯,i,g,q⟩
theorem ok_1v(T:Txt K mg t):FnOk P w K mg base (CX1 P w) 6 t.a_1v t.d_1v pi' (sp_1v K t.a_1m):=by
 have b4:=@ok_12 P w K mg base t T;have a7:=@ok_1a P w K mg base t T;refine T.F_1v.okX sc_1v (λvs H Q E h=>?_) (λcdv A outer s H vs Q E hr h=>?_)
 ·obtain⟨b1,b2,Z,a,p,c,M,u,B,rfl,_⟩:=h;rfl
 ·obtain⟨b1,b2,Z,a,p,c,M,u,B,rfl,l,U,b6,b0,b9,a9,su,e,c8⟩:=h;obtain⟨n,d4,F⟩:∃n:Nat,n<=3/\((c.length=2\/c.length=3)->n=c.length):=by
   by_cases z:c.length=2\/c.length=3
   ·exact⟨c.length,⋯,λ_=>rfl⟩
   ·exact⟨0,⋯,λh=>absurd h z⟩
  have a8:FnOk P w K mg base CX0 (n+1) t.a_1 t.d_1 pD' (sp_1 K n):=ok_1 T n;refine⟨_,(pL (pW (i:=3) sc_1v.nd rfl (Or.inr rfl) (nH T.z_len (pq 0)))
   (pL (oO (oJ dI (pq 3) (oX (pJ pP (pJ pP pK))) rfl)
   (pO (jR rfl jP rfl T.m_1m T.x_1m yE (pJ kX pK)))
   oS)
   (pL (oO (PW.pt (fM (jV (oP (dZ rfl) rfl T.z_any (nofun) (pJ (oQ (sc:=pM s_1v) (N:=N_1v) (fr:=[("axes",3)]) (te:=(tOp (rI0 λi j=>.bl (!decide (i=j))) (tCB (iW K) (pZ (tVar 0) tNil)) (tVar 1))) rfl rfl (nofun) rfl (nofun) (oF (pq 0)) (λ_ _ _ d5=>(iQ mJ (nH T.z_len (pv 0)) (pv 1) (oG _)))) pK))) (fK (oJ mJ (nH T.z_len (pq 1)) (pq 3) (oG _)))))
   (pO (jR rfl jP rfl T.m_1m T.x_1m yE (pJ kX pK)))
   oS)
   (pL (oO (oJ lK (pq 2) pP (oG _))
   (pO (jR rfl jP rfl T.m_1m T.x_1m yE (pJ kX pK)))
   oS)
   (pL (oO (oJ dI (pU a8 hr.mo T.F_1 (pJ (pq 0) pK)) (oX (pJ pP (pJ (kJ kK pP) pK))) rfl)
   (pO (jR rfl jP rfl T.m_1m T.x_1m yE (pJ kX pK)))
   oS)
   (pO (oB (pU a7 hr.mo T.F_1a (pJ (pq 0) (pJ (mX b4 hr.mo rfl T.F_12.m T.F_12.kp T.F_12.b .nil lJ (pJ (pq 1) (pJ (pq 2) pK))) pK)))))))))),?_⟩
  show tSeq _ _ _ [some (.ref a),some (.ref p),some (.int u),none] H;right;refine gP l ?_;subst e1;refine st λN1 e1=>?_;simp only[jQ];ext;refine⟨by show 2<=sizeLine;decide,λG c0=>?_⟩;have v:Same H (upd H G (.tup [.int 2,.int 3])):=Same.new c0;refine⟨G,_,rfl,.inr (SqT.of pN),rfl,rfl,_,rfl,?_⟩;generalize upd H G (.tup [.int 2,.int 3])=d6 at v;rw[inV2]
  by_cases L:c.length=2\/c.length=3
  case neg =>
   rw[zK ⋯];refine iteT ?_;simp only[jQ];ext;exact⟨∅,e (λg=>L g.1) _ v⟩
  rw[zJ ⋯];refine iteF ?_;replace F:=F L;subst F;left;refine oC λC a5=>?_;simp only[iSeq];ext;obtain⟨xs,R,d3,c3⟩:=(l.up v).walk;refine⟨b1,⟨_,R⟩,λd0 a3=>?_⟩;refine oM (λj y _=>∃r,c[j]?=some r/\y=.bl (!decide (r.length=c.length))) a3 R ⋯ (λ_ _ _ _ r _=>r) ?_ ?_
  ·intro i x S zs a1 O e0 c7 b8;obtain⟨c6,W,rfl,a2,d1⟩:=c3 i x a1;subst a5;show tOp _ _ _ [some (.ref c6),some (.int c.length)] S c7;ext;refine jC (d1.up O) ?_
   try ext
   refine b8 _ _ (Same.refl _) ⟨W,a2,?_⟩
   by_cases z:W.length=c.length
   ·rw[zJ z,zJ ⋯]
   ·rw[zK z,zK ⋯]
  ·intro S ys O b7 d8 I;have b5:ys=(c.map λr=>!decide (r.length=c.length)).map V.bl:=by
    rw[yW];exact nE ⋯ I
   subst b5;refine⟨d0,rfl,_,SqL.of b7,?_⟩
   try ext
   have d:=v.trans O
   by_cases f:∀r∈c,r.length=c.length
   case neg =>
    have D:(c.map λr=>!decide (r.length=c.length)).any id=true:=by
     rw[rW];obtain⟨r,hr⟩:=Classical.not_forall.mp f;obtain⟨c1,I⟩:=Classical.not_imp.mp hr;exact⟨true,pI.mpr ⟨r,c1,by rw[zK I];rfl⟩,rfl⟩
    rw[D];refine iteT ?_;simp only[jQ];ext;exact⟨∅,e (λg=>f g.2.1) _ d⟩
   have D:(c.map λr=>!decide (r.length=c.length)).any id=false:=by
    rw[tJ];intro b a4;obtain⟨r,hr,rfl⟩:=pI.mp a4;rw[zJ (f r hr)]
    decide
   rw[D];refine iteF ?_;refine jC (U.up d) ?_
   try ext
   by_cases m:M.length=c.length
   case neg =>
    rw[zK ⋯];refine iteT ?_;simp only[jQ];ext;exact⟨∅,e (λg=>m g.2.2.1) _ d⟩
   rw[zJ ⋯];refine iteF ?_;subst e1;refine st λN1 e1=>?_;simp only[jQ];ext;refine ite2 (λz=>⟨∅,e (λg=>g.2.2.2.1 (xF z)) _ d⟩) (λz=>?_);have Y:u≠0:=λq=>z (zJ q);left;refine cS ⋯ ⋯ (l.up d) ⟨rfl,f⟩ b9 a9 λJ c9=>?_
   try ext
   refine⟨by show 2<=sizeLine;decide,λN c2=>?_⟩;have a0:Same J (upd J N (.tup [.int 1,.int (-1)])):=Same.new c2;refine⟨N,_,rfl,.inr (SqT.of pN),rfl,rfl,_,rfl,?_⟩;generalize upd J N (.tup [.int 1,.int (-1)])=d7 at a0;have o:=(d.trans c9).trans a0;rw[inV2]
   by_cases k:detM c.length c=1\/detM c.length c=-1
   case neg =>
    rw[zK k];refine iteT ?_;simp only[jQ];ext;exact⟨∅,e (λg=>k g.2.2.2.2) _ o⟩
   rw[zJ k];refine iteF ?_;symm;refine⟨Z,p,M,u,rfl,U.up o,b0,su,λz=>?_,λ_ _ a6 d9 X d2=>⟨b1,b2,a,a6,c,_,_,rfl,l.up (o.trans X),d2,b6,λq c4 b3 c5=>c8 ⟨L,f,m,Y,k⟩ q c4 ((o.trans X).trans b3) c5⟩⟩;rcases z with z|z
   ·exact absurd z Y
   ·rw[z]at m;simp at m;omega
def sp_1w(K:Frag):Sp:=λvs H Q _=>E1 λ(d:Nat)=>A3 (vs=[.int d]) ((d=2\/d=3)) (∀q H',Same H H'->nV K H' q (idM d) (List.replicate d 0) 1->Q (.ref q) H')
theorem eV(ns:LI'):gl 1 ns=1:=Int.eq_one_of_dvd_one (eO 1 ns) (gl_u 1 ns)
theorem Hs{d:Nat}(a:d=2\/d=3):Ae (idM d) (List.replicate d 0) 1/\nA 1 (idM d):=by
 rcases a with rfl|rfl
 ·exact⟨⟨.inl rfl,∅,∅,∅,.inl ∅⟩,by intro r hr x b;revert r x;decide⟩
 ·exact⟨⟨.inr rfl,∅,∅,∅,.inl ∅⟩,by intro r hr x b;revert r x;decide⟩
theorem Sx:lQ 1:=jI (B:=1) ∅ ∅
theorem ok_1w(T:Txt K mg t):FnOk P w K mg base CX0 8 t.a_1w t.d_1w ["d"] (sp_1w K):=by
 have p:=@ok_1v P w K mg base t T;have u:=@ok_l P w K mg base t T;apply T.F_1w.ok sc_1w
 ·obtain⟨d,rfl,m,D⟩:=h;refine⟨_,(pO (oB (mX p hr.mo rfl T.F_1v.m T.F_1v.kp T.F_1v.b .nil lJ (pJ (pU u hr.mo T.F_l (pJ (pq 0) pK)) (pJ (pQ Mg (nW (pJ pP pK)) (pq 0)) (pJ pP pK)))))),?_⟩;show tRet _ _ [some (.int d)] H;ext;refine⟨d,rfl,⋯,λr b _ C x=>?_⟩
  try ext
  refine⟨by show 1<=sizeLine;decide,λl hl=>?_⟩;have c:Same b (upd b l (.lst [.int 0])):=Same.new hl;have i:(upd b l (.lst [.int 0])) l=some (.lst [.int 0]):=pN;generalize upd b l (.lst [.int 0])=a at c i;refine⟨l,d,_,rfl,rfl,i,⋯,⋯,?_,λl2 v=>?_⟩
  ·rw[zW];show 1*d<=sizeLine;have:3<=sizeLine:=∅
   omega
  have e:Same a (upd a l2 (.lst (List.replicate (d:Int).toNat [V.int 0]).flatten)):=Same.new v;have k:(upd a l2 (.lst (List.replicate (d:Int).toNat [V.int 0]).flatten)) l2=some (.lst ((List.replicate d (0:Int)).map V.int)):=by
   rw[pN,zW];rcases m with rfl|rfl <;> rfl
  generalize upd a l2 (.lst (List.replicate (d:Int).toNat [V.int 0]).flatten)=G at e k;obtain⟨g,o⟩:=Hs m;have f:=Ri (u:=1) ∅ (eV (List.replicate d 0));have e1:redT 1 (List.replicate d 0)=List.replicate d 0:=f.1;have y:redU 1 (List.replicate d 0)=1:=f.2;refine⟨false,false,false,r,l2,idM d,List.replicate d 0,1,1,rfl,((x.up c).up e).b,SqB.lst k,by simp[idM];omega,by simp;omega,o,∅,Sx,λn=>absurd g n,λ_ q z F j=>?_⟩;rw[e1,y]at j;exact D q z ((C.trans (c.trans e)).trans F) j
def sp_23(K:Frag):Sp:=λvs H Q _=>E4 λ(p:Addr)(ts:LI')(u:Int)(d:Nat)=>A7 (vs=[.ref p]) (oA H p ts u) (ts.length=d) ((d=2\/d=3)) (u≠0) (lQ u) (∀q H',Same H H'->nV K H' q (idM d) (redT u ts) (redU u ts)->Q (.ref q) H')
theorem ok_23(T:Txt K mg t):FnOk P w K mg base CX0 8 t.a_23 t.d_23 pF' (sp_23 K):=by
 have e:=@ok_1v P w K mg base t T;have f:=@ok_l P w K mg base t T;apply T.F_23.ok sc_23
 ·obtain⟨p,ts,u,d,rfl,b,hl,y,v,su,o⟩:=h;refine⟨_,(pO (oB (mX e hr.mo rfl T.F_1v.m T.F_1v.kp T.F_1v.b .nil lJ (pJ (pU f hr.mo T.F_l (pJ (nH T.z_len (pS (pq 0))) pK)) (pJ (pS (pq 0)) (pJ (pS (pq 0)) pK)))))),?_⟩;show tRet _ _ [some (.ref p)] H;ext;refine mT b λx l=>jC (b:=true) (SqB.tup l) ?_
  try ext
  rw[hl];refine⟨d,rfl,⋯,λr D _ a m=>?_⟩
  try ext
  refine mT (b.up a) λz k=>kG (b.up a) ?_;obtain⟨g,c⟩:=Hs y;refine⟨false,false,true,r,z,idM d,ts,u,1,rfl,m.b,SqB.tup k,by simp[idM];omega,⋯,c,∅,su,λn=>absurd ⟨g.1,g.2.1,by simp[idM,hl],v,g.2.2.2.2⟩ n,λ_ q i j C=>o q i (a.trans j) C⟩
def eW(M:LM)(ts:LI')(u:Int):PyData:=.tuple [matD true true M,iY true ts,.int u]
theorem Sw{M N:LM}{ts ns:LI'}{u v:Int}:eW M ts u=eW N ns v↔(M=N/\ts=ns/\u=v):=by
 unfold eW;simp only[PyData.tuple.injEq,List.cons.injEq,PyData.int.injEq,and_true,Ot,Eb]
theorem Dt.deed{K:Frag}{H:Hp}{p:Addr}{M:LM}{ts:LI'}{u:Int}(h:nV K H p M ts u):Dt K H (.ref p) (eW M ts u):=by
 obtain⟨d,pt,a,c,b⟩:=h;exact .tup (SqT.of a) (.cons (Dt.matB c) (.cons (Dt.intsB (SqB.tup b)) (.cons (.int u) .nil)))
abbrev Dd:=LM×List Int×Int
def dat(x:Dd):PyData:=eW x.1 x.2.1 x.2.2
theorem gE{x y:Dd}:dat x=dat y↔x=y:=by
 obtain⟨M,ts,u⟩:=x;obtain⟨N,ns,v⟩:=y;unfold dat;rw[Sw];simp
theorem cT{n:Nat}{ds:List PyData}:tT (n+1) (.tuple ds)=ds.all (tT n):=rfl
theorem kQ(x:Dd):tT 4 (dat x)=true:=by
 obtain⟨M,ts,u⟩:=x;have hi:∀(n:Nat)(l:LI'),(l.map PyData.int).all (tT n)=true:=λn l=>by
  rw[uJ];intro d a;obtain⟨i,_,rfl⟩:=pI.mp a;cases n <;> rfl
 show tT 4 (.tuple [.tuple (M.map λr=>.tuple (r.map PyData.int)),.tuple (ts.map PyData.int),.int u])=true;rw[cT,yZ,yZ,yZ,cT,cT,hi];have:(M.map λr=>PyData.tuple (r.map PyData.int)).all (tT 2)=true:=by
  rw[uJ];intro d a;obtain⟨r,_,rfl⟩:=pI.mp a;rw[cT];exact hi 1 r
 rw[this];rfl
def DdAt(K:Frag)(H:Hp)(p:Addr)(x:Dd):Prop:=nV K H p x.1 x.2.1 x.2.2
theorem DdAt.up{K:Frag}{H H':Hp}{p:Addr}{x:Dd}(h:DdAt K H p x)(s:Same H H'):DdAt K H' p x:=nV.up h s
abbrev DdS(K:Frag)(H:Hp)(p:Addr)(x:Dd):Prop:=lU K H p x.1 x.2.1 x.2.2
theorem DdS.up{K:Frag}{H H':Hp}{p:Addr}{x:Dd}(h:DdS K H p x)(s:Same H H'):DdS K H' p x:=lU.up h s
theorem DdAt.s{K:Frag}{H:Hp}{p:Addr}{x:Dd}(h:DdAt K H p x):DdS K H p x:=nV.s h
theorem DdAt.dt{K:Frag}{H:Hp}{p:Addr}{x:Dd}(h:DdAt K H p x):Dt K H (.ref p) (dat x):=Dt.deed h
def pV(x:Dd):Dd:=(x.1,nK x.2.2 x.2.1,x.2.2)
def behD(d:Nat)(x s:Dd):Dd:=(mulM d s.1 x.1,redT (s.2.2*x.2.2) (movT s.1 s.2.1 s.2.2 x.2.1 x.2.2),redU (s.2.2*x.2.2) (movT s.1 s.2.1 s.2.2 x.2.1 x.2.2))
def oE(d:Nat)(x s:Dd):Dd:=pV (behD d x s)
def oH(d:Nat):Dd:=(idM d,List.replicate d 0,1)
abbrev Tb:=List (Dd×List Nat)
def nxt(d:Nat)(x:Dd)(w:List Nat)(tb:Tb)(ks:Dd×Nat):Tb:=if oE d x ks.1∈tb.map (·.1) then tb else tb++[(oE d x ks.1,w++[ks.2])]
def lV(d:Nat)(ss:List Dd)(tb:Tb)(i:Nat):Tb:=match tb[i]? with
 |none=>tb
 |some xw=>ss.zipIdx.foldl (nxt d xw.1 xw.2) tb
def oR(d:Nat)(ss:List Dd):Nat->Nat->Tb->Tb
 |0,_,tb=>tb
 |n+1,i,tb=>if i<tb.length then oR d ss n (i+1) (lV d ss tb i) else tb
theorem Sv(d:Nat)(x:Dd)(w:List Nat)(tb:Tb)(a:Dd×Nat):∃r,nxt d x w tb a=tb++r:=by
 unfold nxt;split
 ·exact⟨[],by simp⟩
 ·exact⟨_,rfl⟩
theorem eX(d:Nat)(x:Dd)(w:List Nat):∀(l:List (Dd×Nat))(tb:Tb),∃r,l.foldl (nxt d x w) tb=tb++r
 |[],tb=>⟨[],by simp⟩
 |k:: l,tb=>by
  obtain⟨c,e1⟩:=Sv d x w tb k;obtain⟨b,a⟩:=eX d x w l (nxt d x w tb k);exact⟨c++b,by rw[wG,a,e1,wX]⟩
theorem Hr(d:Nat)(ss:List Dd)(tb:Tb)(i:Nat):∃r,lV d ss tb i=tb++r:=by
 unfold lV;split
 ·exact⟨[],by simp⟩
 ·exact eX ..
theorem cU(d:Nat)(ss:List Dd):∀(n i:Nat)(tb:Tb),∃r,oR d ss n i tb=tb++r
 |0,i,tb=>⟨[],by simp[oR]⟩
 |n+1,i,tb=>by
  unfold oR;split
  ·obtain⟨c,e1⟩:=Hr d ss tb i;obtain⟨b,a⟩:=cU d ss n (i+1) (lV d ss tb i);exact⟨c++b,by rw[a,e1,wX]⟩
  ·exact⟨[],by simp⟩
def mO(d:Nat)(x:Dd):Prop:=Fine d x.1 x.2.1 x.2.2
def TbAt(H:Hp)(tb:Tb)(kvs:List (PyData×V)):Prop:=Paired (λ(x:Dd×List Nat)(kv:PyData×V)=>kv.1=dat x.1/\∃p,kv.2=.ref p/\H p=some (.lst (x.2.map λn=>V.int (n:Nat)))) tb kvs
def sp_1f(K:Frag):Sp:=λvs H Q _=>E8 λ(b:Bool)(d:Nat)(a:Addr)(ps:LA)(ms:List Dd)(most:Nat)(G:Dd->Prop)(N:Nat)=>A14 (vs=[.int d,.ref a,.int most]) ((d=2\/d=3)) (SqB b K H a (ps.map V.ref)) (Paired (DdS K H) ps ms) (ms.length<=200) ((∀s∈ms,mO d s)) ((∀s∈ms,mO d (pV s))) ((∀x,G x->mO d x)) (G (oH d)) ((∀x s,G x->s∈ms->G (oE d x (pV s)))) (most<=200) ((oR d (ms.map pV) N 0 [(oH d,[])]).length<=most) ((oR d (ms.map pV) N 0 [(oH d,[])]).length<=N) (∀w kvs H',Same H H'->H w=none->DTr K H' w kvs->TbAt H' (oR d (ms.map pV) N 0 [(oH d,[])]) kvs->Q (.ref w) H')
def sp_n(C:Addr):Sp:=λvs H Q E=>E1 λ(n:Int)=>A3 (vs=[.int n]) (((1<=n/\n<=200)->Q .non H)) ((¬ (1<=n/\n<=200)->∀H',Same H H'->E (.ref C) none H'))
def sp_10(K:Frag):Sp:=λvs H Q _=>E5 λ(b:Bool)(d:Nat)(a:Addr)(ps:LA)(ms:List Dd)=>A6 (vs=[.int d,.ref a]) ((d=2\/d=3)) (SqB b K H a (ps.map V.ref)) (Paired (DdS K H) ps ms) ((∀s∈ms,s.1.length=d)) (∀H',Same H H'->Q .non H')
theorem Su{prog:Program}{w:World}:∀n,n<=63->gR prog w n:=λ_ h=>Pg ⋯
theorem Hq{K:Frag}{H:Hp}{a b:Addr}{kvs:List (PyData×V)}{k:PyData}{v:V}{Q:VK}(g:DTr K H a kvs)(t:tT 4 k=true)(d:Dt K H (.ref b) k)(e:vT kvs k=some v)(q:Q v H):aU K (.ref a) (.ref b) H Q:=⟨a,kvs,b,k,v,rfl,rfl,g,t,d,e,q⟩
theorem Ss{K:Frag}{H:Hp}{a b:Addr}{kvs:List (PyData×V)}{k:PyData}{c:Bool}{Q:VK}(g:DTr K H a kvs)(t:tT 4 k=true)(d:Dt K H (.ref b) k)(q:Q (.bl (if c=true then !(vT kvs k).isSome else(vT kvs k).isSome)) H):rInT K c (.ref b) (.ref a) H Q:=⟨a,kvs,b,k,rfl,rfl,g,t,d,q⟩
theorem nM{a b:Type}{f:a->b}{l:List a}{i:Nat}{y:b}(h:(l.map f)[i]?=some y):∃x,l[i]?=some x/\y=f x:=by
 rw[zD]at h;cases hx:l[i]? with
 |none=>rw[hx]at h;cases h
 |some x=>rw[hx]at h;exact⟨x,rfl,(zP h).symm⟩
def Apt(H:Hp)(dx:Addr)(n:Nat):Prop:=∃l ys,H dx=some (XDct dx "apart" (.ref l))/\H l=some (.lst ys)/\ys.length=n
def CpOk:Nat->V->Hp->Prop
 |0,x,_=>∃i,x=.int i
 |n+1,x,H=>∃a xs,x=.ref a/\H a=some (.lst xs)/\xs.length<=1000/\∀y∈xs,CpOk n y H
theorem CpOk.up{H H':Hp}(s:Same H H'):∀{n:Nat}{x:V},CpOk n x H->CpOk n x H'
 |0,_,h=>h
 |_+1,_,⟨a,xs,e,h,l,k⟩=>⟨a,xs,e,s _ _ h,l,λy b=>CpOk.up s (k y b)⟩
def sp_1h(n:Nat):Sp:=λvs H Q _=>∃x,vs=[x]/\CpOk n x H/\∀y H',Same H H'->(∀a xs,x=.ref a->H a=some (.lst xs)->∃l ys,y=.ref l/\H' l=some (.lst ys)/\ys.length=xs.length)->Q y H'
def Sr(C:Addr):Sp:=λvs H Q _=>E3 λ(e a:Addr)(xs:List V)=>A5 (vs=[.ref e,.ref a]) (H e=some (XObj e C none)) (H a=some (.lst xs)) (CpOk 2 (.ref a) H) (∀dx H',(∀b o,b≠e->H b=some o->H' b=some o)->H' e=some (XObj e C (some dx))->Apt (rmv H' e) dx xs.length->Q .non H')
structure TK(K:Frag)(H H':Hp):Prop where
 k:∀b xs,H b=some (.tup xs)->H' b=some (.tup xs)
 t:∀b xs,SqT K H b xs->SqT K H' b xs
theorem TK.trans{K:Frag}{H f d:Hp}(a:TK K H f)(b:TK K f d):TK K H d:=⟨λc xs e=>b.k _ _ (a.k _ _ e),λc xs e=>b.t _ _ (a.t _ _ e)⟩
theorem TK.off{K:Frag}{H H':Hp}{a:Addr}{o:HO}(e:H a=some o)(g:∀xs,o≠.tup xs)(f:∀d u,o≠.frz d u)(h:∀c,c≠a->H' c=H c):TK K H H':=by
 have k:∀b xs,H b=some (.tup xs)->H' b=some (.tup xs):=λb xs q=>by
  rw[h b λz=>g xs (by rw[z,e]at q;exact zP q)];exact q
 refine⟨k,λb xs q=>?_⟩;rcases q with(q|⟨d,q⟩)|q
 ·exact .inl (.inl (k _ _ q))
 ·exact .inl (.inr ⟨d,by rw[h b λz=>f _ _ (by rw[z,e]at q;exact zP q)];exact q⟩)
 ·exact .inr q
theorem MatB.tk{K:Frag}{H H':Hp}{a:Addr}{M:LM}(h:MatB true true K H a M)(s:TK K H H'):MatB true true K H' a M:=let ⟨ps,c,e,d⟩:=h;⟨ps,s.t _ _ c,e,λi p r e1 b=>s.t _ _ (d i p r e1 b)⟩
theorem DdAt.tk{K:Frag}{H H':Hp}{p:Addr}{x:Dd}(h:DdAt K H p x)(s:TK K H H'):DdAt K H' p x:=let ⟨b,pt,a,d,c⟩:=h;⟨b,pt,s.k _ _ a,MatB.tk d s,s.k _ _ c⟩
theorem DdS.tk{K:Frag}{H H':Hp}{p:Addr}{x:Dd}(h:DdS K H p x)(s:TK K H H'):DdS K H' p x:=let ⟨b,pt,a,d,c⟩:=h;⟨b,pt,s.t _ _ a,MatB.tk d s,s.t _ _ c⟩
theorem DTr.tk{K:Frag}{H H':Hp}{a:Addr}{kvs:List (PyData×V)}(h:DTr K H a kvs)(s:TK K H H')(e:H' a=H a):DTr K H' a kvs:=by
 obtain⟨l,y,xs,b,n,r⟩:=h;exact⟨l,y,xs,e.trans b,n,r.keeps s.t⟩
structure CI(K:Frag)(H0:Hp)(qs:LA)(ss:List Dd)(as af aw:Addr)(tb:Tb)(H:Hp):Prop where
 s:∀b o,H0 b=some o->H b=some o
 st:H as=some (.lst (qs.map V.ref))/\Paired (DdAt K H) qs ss
 fo:∃fs,H af=some (.lst (fs.map V.ref))/\Paired (λp(x:Dd×List Nat)=>DdAt K H p x.1) fs tb
 wo:∃kvs,DTr K H aw kvs/\Paired (λ(x:Dd×List Nat)(kv:PyData×V)=>kv.1=dat x.1/\∃p,kv.2=.ref p/\p≠af/\H p=some (.lst (x.2.map λn=>V.int (n:Nat)))) tb kvs
 n1:H0 as=none
 n2:H0 af=none
 n3:H0 aw=none
 x1:as≠af
theorem CI.up{K:Frag}{a H H':Hp}{c:LA}{ss:List Dd}{as d f:Addr}{tb:Tb}(h:CI K a c ss as d f tb H)(s:Same H H'):CI K a c ss as d f tb H':=by
 obtain⟨q,⟨b1,b2⟩,⟨fs,r,v⟩,⟨kvs,u,y⟩,n,k,m,i⟩:=h;exact⟨λb o e=>s _ _ (q _ _ e),⟨s _ _ b1,Paired.mapP b2 λ_ _ z=>z.up s⟩,⟨fs,s _ _ r,Paired.mapP v λ_ _ z=>z.up s⟩,⟨kvs,u.up s,Paired.mapP y λ_ _ z=>let ⟨g,p,j,x,l⟩:=z;⟨g,p,j,x,s _ _ l⟩⟩,n,k,m,i⟩
theorem Ho{H:Hp}{d:Addr}{x:Dd}:∀{tb:Tb}{kvs:List (PyData×V)},Paired (λ(x:Dd×List Nat)(a:PyData×V)=>a.1=dat x.1/\∃p,a.2=.ref p/\p≠d/\H p=some (.lst (x.2.map λn=>V.int (n:Nat)))) tb kvs ->
  (x∉tb.map (·.1)/\vT kvs (dat x)=none)\/∃w p,(x,w)∈tb/\vT kvs (dat x)=some (.ref p)/\p≠d/\H p=some (.lst (w.map λn=>V.int (n:Nat))):=by
 intro tb kvs h
 induction h with
 |nil=>exact .inl ⟨by simp,rfl⟩
 | @cons y a tb kvs e _ i =>
  obtain⟨e1,p,f,j,g⟩:=e
  by_cases z:y.1=x
  ·refine .inr ⟨y.2,p,by rw[←z];exact .head _,?_,j,g⟩;rw[eF (by rw[e1,z]),f]
  ·have k:¬ a.1=dat x:=λq=>z (gE.mp (e1.symm.trans q));rw[gQ k];rcases i with⟨c,b⟩|⟨w,p,c,b⟩
   ·exact .inl ⟨by rw[zH,yQ,not_or];exact⟨λq=>z q.symm,c⟩,b⟩
   ·exact .inr ⟨w,p,.tail _ c,b⟩
theorem Hn{d:Nat}{x:Dd}{w:List Nat}{tb:Tb}{c:Dd×Nat}(h:(tb.map (·.1)).Nodup):((nxt d x w tb c).map (·.1)).Nodup:=by
 unfold nxt;split
 ·exact h
 ·next q =>
  rw[xK,List.nodup_append];refine⟨h,by simp,λy b z a=>?_⟩;simp only[List.map_cons,List.map_nil,List.mem_singleton]at a;rw[a];exactλe=>q (e ▸ b)
theorem Hm{d:Nat}{x:Dd}{w:List Nat}:∀(l:List (Dd×Nat))(tb:Tb),(tb.map (·.1)).Nodup->((l.foldl (nxt d x w) tb).map (·.1)).Nodup
 |[],_,h=>h
 |k:: l,tb,h=>Hm l _ (Hn h)
theorem Hl{d:Nat}{x:Dd}{w:List Nat}{tb:Tb}{b:Dd×Nat}{G:Dd->Prop}(h:∀y∈tb,G y.1)(c:G (oE d x b.1)):∀y∈nxt d x w tb b,G y.1:=by
 unfold nxt;split
 ·exact h
 ·intro y a;rcases pA.mp a with a|a
  ·exact h y a
  ·rw[qX.mp a];exact c
theorem So{tb:Tb}(h:(tb.map (·.1)).Nodup){i:Nat}{x:Dd}{w b:List Nat}(e:tb[i]?=some (x,w))(m:(x,b)∈tb):w=b:=by
 obtain⟨j,a⟩:=xP m;have e1:(tb.map (·.1))[i]?=some x:=by rw[zD,e];rfl
 have c:(tb.map (·.1))[j]?=some x:=by rw[zD,a];rfl
 have hi:i<(tb.map (·.1)).length:=(zqa e1).1;have:i=j:=(List.getElem?_inj hi h).mp (e1.trans c.symm);subst this;rw[e]at a;cases a;rfl
theorem Sn{d:Nat}{ss:List Dd}{n i:Nat}{tb:Tb}(h:tb.length<=i):oR d ss n i tb=tb:=by
 cases n with
 |zero=>rfl
 |succ n=>unfold oR;rw[zE ⋯]
theorem Sl{d:Nat}{ss:List Dd}{n i:Nat}{tb:Tb}(h:i<tb.length)(a:0<n):oR d ss n i tb=oR d ss (n-1) (i+1) (lV d ss tb i):=by
 obtain⟨m,rfl⟩:∃m,n=m+1:=⟨n-1,⋯⟩;show(if i<tb.length then _ else _)=_;rw[zG h];rfl
theorem Sk{d:Nat}{ss:List Dd}{tb:Tb}{i:Nat}{x:Dd}{w:List Nat}(e:tb[i]?=some (x,w)):lV d ss tb i=ss.zipIdx.foldl (nxt d x w) tb:=by
 unfold lV;rw[e]
def part(d:Nat)(x:Dd)(w:List Nat)(ss:List Dd)(tb:Tb)(i:Nat):Tb:=(ss.zipIdx.take i).foldl (nxt d x w) tb
theorem cV{d:Nat}{x s:Dd}{w:List Nat}{ss:List Dd}{tb:Tb}{i:Nat}(e:ss[i]?=some s):part d x w ss tb (i+1)=nxt d x w (part d x w ss tb i) (s,i):=by
 unfold part;rw[vY,sL,e,tG];simp
theorem Sj{d:Nat}{x:Dd}{w:List Nat}{ss:List Dd}{tb:Tb}:part d x w ss tb ss.length=ss.zipIdx.foldl (nxt d x w) tb:=by
 unfold part;rw[wR (by simp)]
theorem Si{d:Nat}{x:Dd}{w:List Nat}{ss:List Dd}{tb:Tb}(i:Nat):∃r,part d x w ss tb i=tb++r:=eX ..
theorem Hk{d:Nat}{x:Dd}{w:List Nat}{ss:List Dd}{tb:Tb}(i:Nat):(part d x w ss tb i).length<=(ss.zipIdx.foldl (nxt d x w) tb).length:=by
 have e:ss.zipIdx.foldl (nxt d x w) tb=(ss.zipIdx.drop i).foldl (nxt d x w) (part d x w ss tb i):=by
  unfold part;rw[←tG,List.take_append_drop]
 obtain⟨r,a⟩:=eX d x w (ss.zipIdx.drop i) (part d x w ss tb i);rw[e,a,yI];omega
def ND(tb:Tb):Prop:=(tb.map (·.1)).Nodup/\∀y∈tb,y.2.length<tb.length
theorem Sh{d:Nat}{x:Dd}{w:List Nat}{tb:Tb}{b:Dd×Nat}(h:ND tb)(c:(x,w)∈tb):ND (nxt d x w tb b):=by
 refine⟨Hn h.1,?_⟩;have e:=h.2 _ c;unfold nxt;split
 ·exact h.2
 ·intro y a;rw[yI];rcases pA.mp a with a|a
  ·have:=h.2 y a;simp only[List.length_cons,List.length_nil];omega
  ·rw[qX.mp a];simp only[List.length_append,List.length_cons,List.length_nil];have f:w.length<tb.length:=e;omega
theorem ok_n(T:Txt K mg t):FnOk P w K mg base (CX1 P w) 2 t.a_n t.d_n ["most"] (sp_n t.a_7):=by
 refine T.F_n.okX sc_n (λvs H Q E h=>?_) (λcdv A outer s H vs Q E hr h=>?_)
 ·obtain⟨n,rfl,_⟩:=h;rfl
 ·obtain⟨n,rfl,d,c⟩:=h;refine⟨_,(pO (oO (PW.pt (fM (oJ dB (pq 0) pP (oG _)) (fK (oJ aA (pq 0) (Om (v:=(.int 200)) rfl T.g_MOST_MEMBERS) (oG _)))))
   (pO (jR rfl jP rfl T.m_7 T.x_7 yE (pJ kX pK)))
   oS)),?_⟩
  show tIfS _ _ _ _ [some (.int n)] H;ext
  by_cases b:n<1
  ·rw[zJ b];exact iteT ⟨by show 1<=sizeLine;decide,c (λz=>⋯) H (Same.refl _)⟩
  ·rw[zK b];refine iteF ?_
   by_cases a:200<n
   ·rw[zJ a];exact iteT ⟨by show 1<=sizeLine;decide,c (λz=>⋯) H (Same.refl _)⟩
   ·rw[zK a];exact iteF (d ⟨⋯,⋯⟩)
theorem nI{a b:Type}{F:a->b->Prop}{xs:List a}{ys:List b}(h:Paired F xs ys):∀{i:Nat}{x:a},xs[i]?=some x->∃y,ys[i]?=some y/\F x y:=by
 induction h with
 |nil=>intro i x e;simp at e
 |cons d _ c =>
  intro i x e;cases i with
  |zero=>cases e;exact⟨_,rfl,d⟩
  |succ i=>exact c (by simpa using e)
theorem ok_10(T:Txt K mg t):FnOk P w K mg base CX0 2 t.a_10 t.d_10 ["d","makers"] (sp_10 K):=by
 apply T.F_10.ok sc_10
 ·obtain⟨b,d,a,ps,ms,rfl,z,l,p,hl,o⟩:=h;refine⟨_,(pL (oO (oJ dI (pq 0) (oX (pJ pP (pJ pP pK))) rfl)
   (pO iO)
   oS)
   (pO (lI yR rfl (oF (pq 1)) (nP (i:=2) sc_10.nd rfl (Or.inl rfl))
   (pO (oO (oJ mJ (nH T.z_len (pS (pq 2))) (pq 0) (oG _))
   (pO iO)
   oS))))),?_⟩
  show tSeq _ _ _ [some (.int d),some (.ref a),none] H;right;refine⟨by show 2<=sizeLine;decide,λj n=>?_⟩;have k:Same H (upd H j (.tup [.int 2,.int 3])):=Same.new n;refine⟨j,_,rfl,.inr (SqT.of pN),rfl,rfl,_,rfl,?_⟩;generalize upd H j (.tup [.int 2,.int 3])=C at k;rw[inV2,zJ ⋯];refine iteF ?_;subst e1;refine lN λB eB=>?_;simp only[iSeq];ext;refine⟨b,⟨_,l.up k⟩,?_⟩;refine iA (g:=pY 2) (tb:=B) (nx:=λ_ H'=>Q .non H') (rt:=Q) (λi g c=>∃v,g=[some (.int d),some (.ref a),v]/\Same H c) ⟨_,rfl,k⟩ (λi g c _⟨_,_,e⟩=>l.up e) ?_ ?_
  ·rintro i x g c f ⟨v,rfl,e⟩;rw[zD]at f;cases hp':ps[i]? with
   |none=>rw[hp']at f;cases f
   |some q =>
    rw[hp']at f;cases f;obtain⟨m,y,u⟩:=nI p hp';subst eB;show tIfS _ _ _ _ [some (.int d),some (.ref a),some (.ref q)] c;ext;refine jH (DdS.up u e) λx r=>gP r ?_
    try ext
    rw[hl m (zqb y),zJ rfl];refine iteF ?_;exact e
  ·rintro g c ⟨v,rfl,e⟩;exact o c e
def offH(a:Addr)(H:Hp):Hp:=λb=>if b=a then none else H b
theorem gF{a:Addr}{H:Hp}:Same (offH a H) H:=λb o e=>by
 unfold offH at e
 by_cases z:b=a
 ·rw[zG z]at e;cases e
 ·rw[zE z]at e;exact e
theorem gG{a:Addr}{d c:Hp}(s:lY a d c):Same (offH a d) (offH a c):=λb o e=>by
 unfold offH at e ⊢
 by_cases z:b=a
 ·rw[zG z]at e;cases e
 ·rw[zE z]at e ⊢;exact s _ _ z e
theorem jJ{K:Frag}{a:Addr}{H:Hp}{xs:List V}(e:H a=some (.lst xs)):TK K H (offH a H):=TK.off e (λ_ z=>by cases z) (λ_ _ z=>by cases z) λc b=>by unfold offH;rw[zE b]
def DdR(K:Frag)(a:Addr)(ms:List Dd)(j:Nat)(y:V)(H:Hp):Prop:=∃q m,y=.ref q/\ms[j]?=some m/\DdAt K (offH a H) q m
theorem DdR.mono{K:Frag}{a:Addr}{ms:List Dd}(i:Nat)(y:V)(c b:Hp)(h:DdR K a ms i y c)(s:lY a c b):DdR K a ms i y b:=let ⟨q,m,e,f,d⟩:=h;⟨q,m,e,f,d.up (gG s)⟩
theorem jS{a:Type}{F:Addr->a->Prop}{D:List a}{ys:List V}(hl:ys.length=D.length)(h:∀(j:Nat) y,ys[j]?=some y->∃p e,y=V.ref p/\D[j]?=some e/\F p e):∃ps:LA,ys=ps.map V.ref/\Paired F ps D:=by
 induction D generalizing ys with
 |nil =>
  obtain rfl:=wL hl;exact⟨[],rfl,.nil⟩
 |cons m ms g =>
  obtain⟨y,ys,rfl⟩:=List.exists_cons_of_length_eq_add_one hl;obtain⟨q,l,rfl,k,d⟩:=h 0 y rfl;cases k;obtain⟨f,rfl,c⟩:=g (sB hl) λj i b=>h (j+1) i b;exact⟨q:: f,rfl,.cons d c⟩
theorem Ad{K:Frag}{a:Addr}{H:Hp}{ms:List Dd}{ys:List V}(hl:ys.length=ms.length)(h:∀j y,ys[j]?=some y->DdR K a ms j y H):∃c:LA,ys=c.map V.ref/\Paired (DdAt K H) c ms:=jS hl λj y e=>by
 obtain⟨q,m,a,b,d⟩:=h j y e;exact⟨q,m,a,b,d.up gF⟩
theorem Ac{H:Hp}{p:Addr}{x:V}{xs:List V}{i:Nat}{I:Int}{Q:VK}(e:H p=some (.lst xs))(a:xs[i]?=some x)(hi:I=i)(q:Q x H):rIxB K (.ref p) (.int I) H Q:=⟨false,p,_,_,_,rfl,rfl,SqB.lst e,mL a hi,q⟩
theorem tyL{H:Hp}{p:Addr}{xs:List V}(e:H p=some (.lst xs)):tyV K "list" (.ref p) H:=.inl ⟨rfl,xs,.inl (.inl e)⟩
def CPv(K:Frag)(H0:Hp)(G:Dd->Prop)(qs:LA)(ss:List Dd)(a as af aw:Addr)(d i most:Nat)(f:Nat->Tb)(k:Nat)(σ:St)(H:Hp):Prop:=
 ∃v7 v8 v9,σ=[some (.int d),some (.ref a),some (.int most),some (.ref as),some (.ref af),some (.ref aw),some (.int i),v7,v8,v9]/\CI K H0 qs ss as af aw (f k) H/\ND (f k)/\(∀y∈f k,G y.1)
theorem ok_1f(T:Txt K mg t):FnOk P w K mg base CX0 10 t.a_1f t.d_1f pk' (sp_1f K):=by
 have i1:=@ok_1x P w K mg base t T;have o5:=@ok_1w P w K mg base t T;have l8:=@ok_1l P w K mg base t T;apply T.F_1f.ok sc_1f
 ·have d4:=hr.units;obtain⟨b,d,a,ps,ms,I,G,N,rfl,p9,i6,j3,s2,q4,n8,j7,p8,l9,s7,m6,n1,r5⟩:=h;refine⟨_,(pL (iB (i:=3) (sc:=pM s_1f) (N:=N_1f) (fr:=[]) (te:=(oV (sp_1x K) [] E0 (pZ (tVar 0) tNil))) rfl rfl (nofun) rfl sc_1f.nd rfl rfl (nofun) (oF (pq 1)) (λ_ _ _ t2=>(pU i1 hr.mo T.F_1x (pJ (pv 0) pK))))
   (pL (pW (i:=4) sc_1f.nd rfl (Or.inl rfl) (nW (pJ (pU o5 hr.mo T.F_1w (pJ (pq 0) pK)) pK)))
   (pL (pW (i:=5) sc_1f.nd rfl (Or.inr rfl) (Pt d4 (pS (pq 4)) (nW pK)))
   (pL (pW (i:=6) sc_1f.nd rfl (Or.inl rfl) pP)
   (pL (bW yR (oJ dB (pq 6) (nH T.z_len (pq 4)) (oG _))
   (pL (lI yR rfl (dR rfl T.z_enumerate (pJ (pq 3) pK)) (kY rfl (nQ (nP (i:=7) sc_1f.nd rfl (Or.inl rfl)) (nQ (nP (i:=8) sc_1f.nd rfl (Or.inl rfl)) kI)))
   (pL (pW (i:=9) sc_1f.nd rfl (Or.inl rfl) (pU i1 hr.mo T.F_1x (pJ (pU l8 hr.mo T.F_1l (pJ (nN ix_B (pq 4) (pq 6) (λ_ _=>rfl)) (pJ (pq 8) pK))) pK)))
   (pL (oO (oJ (Pz d4) (pq 9) (pq 5) rfl)
   (pL (iP (pQ jO (nN (ix_T d4) (pq 5) (nN ix_B (pq 4) (pq 6) (λ_ _=>rfl)) (λ_ _=>rfl)) (nW (pJ (pq 7) pK))) (fN (pq 5) (pq 9) (Px d4)))
   (pO (mC (dJ vO PySem.F.slot_list_append PySem.F.type_list_append aI (pq 4) (pJ (pq 9) pK)))))
   oS)
   (pO (oO (oJ aA (nH T.z_len (pq 4)) (pq 2) (oG _))
   (pO iO)
   oS)))))
   (pO (Cm (i:=6) sc_1f.nd rfl (Or.inl rfl) pP Cl))))
   (pO (oB (pq 5)))))))),?_⟩
  show tSeq _ _ _ [some (.int d),some (.ref a),some (.int I),none,none,none,none,none,none,none] H;have s1:ps.length=ms.length:=oU j3;right;exfalso;refine⟨b,⟨_,i6⟩,λas i2=>?_⟩;refine oM (DdR K as (ms.map pV)) i2 i6 (by rw[zqe];omega) DdR.mono ?_ ?_
  ·intro i x j1 zs e4 c5 p7 r4 q7;obtain⟨q,n7,rfl⟩:=nM e4;obtain⟨m,i5,o0⟩:=nI j3 n7;have f7:=q4 m (zqb i5);subst eB;show oV _ _ _ _ [some (.ref q)] j1 r4;ext;refine⟨q,m.1,m.2.1,m.2.2,rfl,DdS.up o0 c5,by rw[f7.sq.1];omega,by rw[f7.len];omega,f7.pos,λr b4 U f2=>?_⟩;refine q7 _ _ U ⟨r,pV m,rfl,by rw[zD,i5];rfl,?_⟩;exact DdAt.tk (show DdAt K b4 r (pV m) from f2) (jJ (U _ _ p7))
  ·intro j1 ys c5 d5 j0 d3;obtain⟨L,rfl,g4⟩:=Ad (by rw[j0,zqe,zqe];omega) d3;left;refine⟨d,rfl,p9,λa2 b4 U k4=>⟨by show 1<=sizeLine;decide,λf b5=>?_⟩⟩;have c0:Same b4 (upd b4 f (.lst [.ref a2])):=Same.new b5;have a9:(upd b4 f (.lst [.ref a2])) f=some (.lst [.ref a2]):=pN;generalize upd b4 f (.lst [.ref a2])=c2 at*
   have e8:DdAt K c2 a2 (oH d):=DdAt.up k4 c0;have d0:=c0 _ _ (U _ _ d5);have j6:=Paired.mapP g4 λ_ _ z=>z.up (U.trans c0);have f5:=(c5.trans U).trans c0;have r2:H f=none:=by
    cases z:H f with
    |none=>rfl
    |some o=>rw[U _ _ (c5 _ _ z)]at b5;cases b5
   have l6:as≠f:=λz=>by rw[z]at d5;rw[U _ _ d5]at b5;cases b5
   subst e1;refine st λN1 e1=>?_;simp only[Fs];ext;intro g Y;have R:Same c2 (upd c2 g (mM g [])):=Same.new Y;have d8:(upd c2 g (mM g [])) g=some (mM g []):=pN;have g5:H g=none:=by
    cases z:H g with
    |none=>rfl
    |some o=>rw[f5 _ _ z]at Y;cases Y
   generalize upd c2 g (mM g [])=d2 at*;ext;refine Ac (i:=0) (R _ _ a9) rfl rfl ?_;refine⟨yD _,λa3 a7=>?_⟩;have S:Same d2 (upd d2 a3 (.lst [])):=Same.new a7;have ep:(upd d2 a3 (.lst [])) a3=some (.lst []):=pN;have h5:a3≠f:=λz=>by rw[z,R _ _ a9]at a7;cases a7
   have e0:a3≠g:=λz=>by rw[z,d8]at a7;cases a7
   generalize upd d2 a3 (.lst [])=r3 at*;refine⟨a2,rfl,dat (oH d),kQ _,(DdAt.up e8 (R.trans S)).dt,S _ _ d8,λh9 a6 k8=>?_⟩;have g3:∀b o,H b=some o->b≠g:=λb o e z=>by rw[z,g5]at e;cases e
   have g1:TK K r3 h9:=TK.off (S _ _ d8) (λ_ z=>by cases z) (λ_ _ z=>by cases z) a6;have d6:as≠g:=λz=>by rw[z]at d0;rw[d0]at Y;cases Y
   have b9:f≠g:=λz=>by rw[z]at a9;rw[a9]at Y;cases Y
   have J:CI K H L (ms.map pV) as f g [(oH d,[])] h9:=⟨λb o e=>by rw[a6 b (g3 b o e)];exact S _ _ (R _ _ (f5 _ _ e)),⟨by rw[a6 _ d6];exact S _ _ (R _ _ d0),Paired.mapP j6 λ_ _ z=>DdAt.tk (z.up (R.trans S)) g1⟩,
    ⟨[a2],by rw[a6 _ b9];exact S _ _ (R _ _ a9),.cons (DdAt.tk (DdAt.up e8 (R.trans S)) g1) .nil⟩,⟨_,k8,.cons ⟨rfl,a3,rfl,h5,by rw[a6 _ e0];exact ep⟩ .nil⟩,i2,r2,g5,l6⟩
   clear k8 g1 ep h5 e0 a7 S d8 R Y j6 d0 e8 a9 c0 b5 k4 U g4 d3 j0 d5 c5 f5 b9 d6 g3 a6;left;subst e1;refine st λN1 e1=>Eo λB eB=>?_;refine⟨λm c4 H'=>∃(i:Nat)(tb:Tb)(C v u:Option V),c4=[some (.int d),some (.ref a),some (.int I),some (.ref as),some (.ref f),some (.ref g),some (.int i),C,v,u]/\CI K H L (ms.map pV) as f g tb H'/\oR d (ms.map pV) (N-i) i tb=oR d (ms.map pV) N 0 [(oH d,[])]/\ND tb/\(∀y∈tb,G y.1)/\m=N-i,
    ⟨N,0,_,none,none,none,rfl,J,rfl,⟨by simp,λy f8=>by rw[List.mem_singleton.mp f8];exact Nat.zero_lt_one⟩,λy f8=>by rw[qX.mp f8];exact p8,rfl⟩,?_⟩
   clear J;rintro m c4 o1 ⟨i,tb,C,v,u,rfl,J,X,m2,q8,rfl⟩;ext;obtain⟨fs,o4,n4⟩:=J.fo;have fl:fs.length=tb.length:=oU n4;refine⟨false,f,_,rfl,SqB.lst o4,?_⟩
   try ext
   rw[zqe,fl]
   by_cases hi:i<tb.length
   case neg =>
    rw[zK ⋯];refine iteF ?_;symm;rw[Sn ⋯]at X;obtain⟨kvs,c8,b0⟩:=J.wo;refine r5 g kvs o1 J.s J.n3 c8 ?_;rw[←X];exact Paired.mapP b0 λ_ _ z=>let ⟨a0,p,W,_,e2⟩:=z;⟨a0,p,W,e2⟩
   rw[zJ (show(i:Int)<tb.length by omega)];obtain⟨⟨x,l⟩,e4⟩:∃e0,tb[i]?=some e0:=⟨_,zqd hi⟩;have p0:=cU d (ms.map pV) (N-i) i tb;have r6:0<N-i:=by
    obtain⟨r,c6⟩:=p0;rw[X]at c6;rw[c6,yI]at n1;omega
   rw[Sl hi r6,Sk e4]at X;have s6:((ms.map pV).zipIdx.foldl (nxt d x l) tb).length<=I:=by
    obtain⟨r,c6⟩:=cU d (ms.map pV) (N-i-1) (i+1) ((ms.map pV).zipIdx.foldl (nxt d x l) tb);rw[X]at c6;rw[c6,yI]at m6;omega
   refine iteT ⟨λj9 H'=>∃(b3:Tb)(C v u:Option V),j9=[some (.int d),some (.ref a),some (.int I),some (.ref as),some (.ref f),some (.ref g),some (.int (i+1:Nat)),C,v,u]/\CI K H L (ms.map pV) as f g b3 H'/\oR d (ms.map pV) (N-(i+1)) (i+1) b3=oR d (ms.map pV) N 0 [(oH d,[])]/\ND b3/\(∀y∈b3,G y.1),?_,?_⟩
   ·rintro j9 H' ⟨b3,C,v,u,rfl,k1,k2,k3,o2⟩;exact⟨N-(i+1),⋯,i+1,b3,C,v,u,rfl,k1,k2,k3,o2,rfl⟩
   subst eB;refine st λs3 n5=>lN λB eB=>?_;simp only[fY];ext;refine⟨false,⟨_,SqB.lst J.st.1⟩,?_⟩;refine Ea (g:=gTup K 2 (nB (pY 7) (nB (pY 8) gNil))) (tb:=B) (CPv K H G L (ms.map pV) a as f g d i I (part d x l (ms.map pV) tb))
    ⟨_,_,_,rfl,J,m2,q8⟩ (λk c4 H' _⟨_,_,_,_,c,_⟩=>SqB.lst c.st.1) ?_ ?_
   ·rintro k y p c4 i8 o9 ⟨C,v,u,rfl,a1,b6,c3⟩ p6;obtain⟨q,k7,rfl⟩:=nM o9;obtain⟨j,a8,_⟩:=nI a1.st.2 k7;have n0:=Same.new (o:=.tup [.int (k:Int),.ref q]) p6;refine⟨p,[.int k,.ref q],rfl,SqT.of pN,rfl,_,[.ref q],rfl,_,[],rfl,rfl,?_⟩;have g2:=a1.up n0;generalize upd i8 p (.tup [.int (k:Int),.ref q])=n2 at*
    clear a1;obtain⟨t4,o8⟩:=Si (d:=d) (x:=x) (w:=l) (ss:=ms.map pV) (tb:=tb) k;have M:(part d x l (ms.map pV) tb k)[i]?=some (x,l):=by rw[o8,yV hi];exact e4
    have s0:=Hk (d:=d) (x:=x) (w:=l) (ss:=ms.map pV) (tb:=tb) k;have l2:=Hk (d:=d) (x:=x) (w:=l) (ss:=ms.map pV) (tb:=tb) (k+1);have l7:∀C v u H',CI K H L (ms.map pV) as f g (nxt d x l (part d x l (ms.map pV) tb k) (j,k)) H'->G (oE d x j)->CPv K H G L (ms.map pV) a as f g d i I (part d x l (ms.map pV) tb) (k+1) [some (.int d),some (.ref a),some (.int I),some (.ref as),some (.ref f),some (.ref g),some (.int i),C,v,u] H':=λC v u H' c d9=>⟨C,v,u,rfl,by rw[cV a8];exact c,by rw[cV a8];exact Sh b6 (zqb M),by rw[cV a8];exact Hl c3 d9⟩;rw[cV a8]at l2;generalize CPv K H G L (ms.map pV) a as f g d i I (part d x l (ms.map pV) tb) (k+1)=t5 at*
    generalize part d x l (ms.map pV) tb k=tk at*;obtain⟨h0,g6,i3⟩:∃m∈ms,pV m=j:=by
     have:=zqb a8;obtain⟨m,p3,m5⟩:=pI.mp this;exact⟨m,p3,m5⟩
    have h4:G x:=c3 _ (zqb M);have d9:G (oE d x j):=by rw[←i3];exact l9 x h0 h4 g6
    have q5:=j7 x h4;have fs':mO d j:=by rw[←i3];exact n8 h0 g6
    have f4:=j7 _ d9;subst eB;show tSeq _ _ _ [some (.int d),some (.ref a),some (.int I),some (.ref as),some (.ref f),some (.ref g),some (.int i),some (.int k),some (.ref q),u] n2;refine st λs8 r7=>?_;ext;obtain⟨q1,p4,h2⟩:=g2.fo;obtain⟨e7,j2⟩:∃e7,q1[i]?=some e7:=⟨_,zqd (by rw[oU h2];exact(zqa M).1)⟩;obtain⟨t3,k5,n3⟩:=nI h2 j2;rw[M]at k5;cases k5;obtain⟨s5,j4,m8⟩:=nI g2.st.2 k7;rw[a8]at j4;cases j4;refine Ac (i:=i) p4 (by rw[zD,j2];rfl) rfl ?_;refine⟨e7,q,x.1,j.1,x.2.1,j.2.1,x.2.2,j.2.2,d,rfl,nV.s n3,nV.s m8,q5,fs',⋯,⋯,λl1 r1 o3 d3=>?_⟩;have m3:DdAt K r1 l1 (behD d x j):=d3;refine⟨l1,_,_,_,rfl,nV.s m3,?_,?_,f4.pos,λO a5 l3 f2=>?_⟩
    ·have:=f4.sq.1;show(mulM d j.1 x.1).length<=100;have:(mulM d j.1 x.1).length=d:=this;omega
    ·have:=f4.len;have e:(nK (behD d x j).2.2 (behD d x j).2.1).length=(behD d x j).2.1.length:=by unfold nK;simp
     have:(nK (behD d x j).2.2 (behD d x j).2.1).length=d:=this;omega
    have j8:DdAt K a5 O (oE d x j):=f2;have d7:=g2.up (o3.trans l3);subst r7;show tSeq _ _ _ [some (.int d),some (.ref a),some (.int I),some (.ref as),some (.ref f),some (.ref g),some (.int i),some (.int k),some (.ref q),some (.ref O)] a5;refine st λn9 p5=>?_;have i0:∀H',CI K H L (ms.map pV) as f g (nxt d x l tk (j,k)) H'->n9 [some (.int d),some (.ref a),some (.int I),some (.ref as),some (.ref f),some (.ref g),some (.int i),some (.int k),some (.ref q),some (.ref O)] H':=by
     intro H' h3;subst p5;ext;obtain⟨s9,o7,n6⟩:=h3.fo;refine⟨false,f,_,rfl,SqB.lst o7,?_⟩
     try ext
     rw[zqe,oU n6,zK ⋯];refine iteF ?_;exact l7 _ _ _ H' h3 d9
    ext;obtain⟨kvs,c8,b0⟩:=d7.wo;refine Ss c8 (kQ _) j8.dt ?_;rcases Ho (x:=oE d x j) b0 with⟨a0,W⟩|⟨p1,g7,a0,W,l0,e2⟩
    case inr =>
     rw[W]
     try ext
     refine i0 a5 ?_;have f1:nxt d x l tk (j,k)=tk:=zG (pI.mpr ⟨_,a0,rfl⟩);rw[f1];exact d7
    rw[W]
    try ext
    rw[zG (by rfl)];obtain⟨a4,f6,d1⟩:=d7.fo;obtain⟨i9,g8⟩:∃i9,a4[i]?=some i9:=⟨_,zqd (by rw[oU d1];exact(zqa M).1)⟩;obtain⟨r9,g9,p2⟩:=nI d1 g8;rw[M]at g9;cases g9;refine Ac (i:=i) f6 (by rw[zD,g8];rfl) rfl ?_;rcases Ho (x:=x) b0 with⟨f3,_⟩|⟨p1,g7,f3,m9,s4,l4⟩
    ·exact absurd (pI.mpr ⟨_,zqb M,rfl⟩) f3
    have m7:=So b6.1 M f3;subst m7;have t6:l.length<tk.length:=b6.2 _ (zqb M);have t0:tk.length=kvs.length:=oU b0;have hsz:1000<=sizeLine:=∅
    refine Hq c8 (kQ _) (DdAt.dt p2) m9 ?_;refine⟨by show 1<=sizeLine;decide,λc7 q9=>?_⟩;have c9:Same a5 (upd a5 c7 (.lst [.int k])):=Same.new q9;have m0:(upd a5 c7 (.lst [.int k])) c7=some (.lst [.int k]):=pN;generalize upd a5 c7 (.lst [.int k])=e5 at*
    refine⟨g7,c7,_,_,rfl,rfl,c9 _ _ l4,m0,by rw[zqe];show l.length+1<=sizeLine;omega,λD g0=>?_⟩;have h6:Same e5 (upd e5 D (.lst ((l.map λn=>V.int (n:Nat))++[.int k]))):=Same.new g0;have h1:(upd e5 D (.lst ((l.map λn=>V.int (n:Nat))++[.int k]))) D=some (.lst ((l.map λn=>V.int (n:Nat))++[.int k])):=pN;have F:=d7.up (c9.trans h6);have k0:D≠f:=λz=>by rw[z,c9 _ _ f6]at g0;cases g0
    generalize upd e5 D (.lst ((l.map λn=>V.int (n:Nat))++[.int k]))=e9 at*;have c1:=c9.trans h6;have i4:=c8.up c1;have q0:=Paired.mapP b0 λ_ _ z=>(let ⟨a0,p,W,l0,e2⟩:=z;⟨a0,p,W,l0,c1 _ _ e2⟩:_/\∃p,_/\p≠f/\e9 p=_);have i7:=DdAt.up j8 c1;have f9:=c1 _ _ f6;have o6:=Paired.mapP d1 λ_ _ z=>DdAt.up z c1;simp only[gSub];ext;have f1:nxt d x l tk (j,k)=tk++[(oE d x j,l++[k])]:=zE a0;have r0:pT kvs (dat (oE d x j)) (.ref D)=kvs++[(dat (oE d x j),.ref D)]:=by
     unfold pT;rw[W];rfl
    obtain⟨t1,e3,_,_⟩:=i4.ex;have b9:f≠g:=λz=>by rw[z,e3]at f9;cases f9
    have d6:as≠g:=λz=>by have:=F.st.1;rw[z,e3]at this;cases this
    refine⟨g,kvs,O,dat (oE d x j),rfl,rfl,i4,kQ _,i7.dt,⋯,λZ _ b8 j5=>?_⟩;rw[r0]at j5;have l5:DTr K Z g (kvs++[(dat (oE d x j),V.ref D)]):=j5;have m4:TK K e9 Z:=TK.off e3 (λ_ z=>by cases z) (λ_ _ z=>by cases z) b8;have f0:Z f=some (.lst (a4.map V.ref)):=by rw[b8 f b9];exact f9
    refine⟨tyL f0,f,_,_,rfl,rfl,f0,by rw[zqe,oU d1];omega,i0 _ ?_⟩;rw[f1];have b7:∀c,c≠f->upd Z f (.lst (a4.map V.ref++[.ref O])) c=Z c:=λc X=>pR X;have m1:upd Z f (.lst (a4.map V.ref++[.ref O])) f=some (.lst (a4.map V.ref++[.ref O])):=pN;generalize upd Z f (.lst (a4.map V.ref++[.ref O]))=r8 at*
    have h8:TK K Z r8:=TK.off f0 (λ_ z=>by cases z) (λ_ _ z=>by cases z) b7;have e6:=m4.trans h8;have h7:∀p xs,e9 p=some (.lst xs)->p≠g:=λp xs e z=>by rw[z,e3]at e;cases e
    refine⟨λb o e=>?_,⟨?_,Paired.mapP F.st.2 λ_ _ z=>DdAt.tk z e6⟩,⟨a4++[O],by rw[m1];simp,qF (Paired.mapP o6 λ_ _ z=>DdAt.tk z e6) (DdAt.tk i7 e6)⟩,⟨kvs++[(dat (oE d x j),V.ref D)],DTr.tk l5 h8 (b7 g (zS b9)),qF (Paired.mapP q0 λ_ _ z=>?_) ⟨rfl,D,rfl,k0,?_⟩⟩,F.n1,F.n2,F.n3,F.x1⟩
    ·have b1:b≠f:=λz=>by rw[z,F.n2]at e;cases e
     have b2:b≠g:=λz=>by rw[z,F.n3]at e;cases e
     rw[b7 b b1,b8 b b2];exact F.s b o e
    ·rw[b7 as F.x1,b8 as d6];exact F.st.1
    ·obtain⟨q3,p,q6,k6,k9⟩:=z;refine⟨q3,p,q6,k6,?_⟩;rw[b7 p k6,b8 p (h7 _ _ k9)];exact k9
    ·rw[b7 D k0,b8 D (h7 _ _ h1),h1];simp
   ·rintro c4 i8 ⟨C,v,u,rfl,a1,b6,c3⟩;have q2:(L.map V.ref).length=(ms.map pV).length:=by rw[zqe];exact oU a1.st.2
    rw[q2,Sj]at a1 b6 c3;subst n5;refine⟨.int i,rfl,?_⟩;unfold tC ipI;refine⟨i,1,rfl,rfl,?_⟩;refine⟨_,C,v,u,rfl,a1,?_,b6,c3⟩;rw[show N-(i+1)=N-i-1 by omega];exact X
theorem Ab:∀{l a:LI'},l.length=a.length->smA (l.map PyData.int) (a.map PyData.int)=true
 |[],[],_=>rfl
 |_:: l,_:: a,h=>by
  show(sm (.int _) (.int _) && smA (l.map PyData.int) (a.map PyData.int))=true;rw[Ab (by simpa using h)];rfl
theorem Hj{d:Nat}:∀{M a:LM},M.length=a.length->(∀r∈M,r.length=d)->(∀r∈a,r.length=d)->smA (M.map λr=>PyData.tuple (r.map PyData.int)) (a.map λr=>PyData.tuple (r.map PyData.int))=true
 |[],[],_,_,_=>rfl
 |r:: M,f:: a,h,c,e=>by
  show(smA (r.map PyData.int) (f.map PyData.int) && smA (M.map λr=>PyData.tuple (r.map PyData.int)) (a.map λr=>PyData.tuple (r.map PyData.int)))=true;rw[Ab ((c r (.head _)).trans (e f (.head _)).symm),Hj (by simpa using h) (λx b=>c x (.tail _ b)) λx b=>e x (.tail _ b)];rfl
theorem Hi{d:Nat}{x y:Dd}(a:mO d x)(b:mO d y):sm (dat x) (dat y)=true:=by
 show(smA (x.1.map λr=>PyData.tuple (r.map PyData.int)) (y.1.map λr=>PyData.tuple (r.map PyData.int)) && (smA (x.2.1.map PyData.int) (y.2.1.map PyData.int) && (sm (.int _) (.int _) && true)))=true;rw[Hj (a.sq.1.trans b.sq.1.symm) a.sq.2 b.sq.2,Ab (a.len.trans b.len.symm)];rfl
def Sg(d:Nat)(lg lo ls ln:Addr):List (Str×V):=[(Str.ofString "dimension",.int d),(Str.ofString "given",.ref lg),(Str.ofString "ordered",.ref lo),(Str.ofString "shortest",.ref ls),(Str.ofString "numbers",.ref ln)]
abbrev fG1(d:Nat):List (Str×V):=[(Str.ofString "dimension",.int d)]
abbrev fG2(d:Nat)(lg:Addr):List (Str×V):=[(Str.ofString "dimension",.int d),(Str.ofString "given",.ref lg)]
abbrev fG3(d:Nat)(lg lo:Addr):List (Str×V):=[(Str.ofString "dimension",.int d),(Str.ofString "given",.ref lg),(Str.ofString "ordered",.ref lo)]
abbrev fG4(d:Nat)(lg lo ls:Addr):List (Str×V):=[(Str.ofString "dimension",.int d),(Str.ofString "given",.ref lg),(Str.ofString "ordered",.ref lo),(Str.ofString "shortest",.ref ls)]
abbrev fG5(d:Nat)(lg lo ls ln:Addr):List (Str×V):=[(Str.ofString "dimension",.int d),(Str.ofString "given",.ref lg),(Str.ofString "ordered",.ref lo),(Str.ofString "shortest",.ref ls),(Str.ofString "numbers",.ref ln)]
def numT(srt:Tb)(n:Nat):List (PyData×V):=(srt.zipIdx n).map λp=>(dat p.1.1,V.int ((p.2:Nat):Int))
structure GrpF(K:Frag)(t:Adr)(H:Hp)(g:Addr)(d:Nat)(ms:List Dd)(srt:Tb):Prop where
 ex:∃dx lg lo ls ln,H g=some (.ins t.a_c dx (Sg d lg lo ls ln))/\(∃gs:LA,H lg=some (.lst (gs.map V.ref))/\Paired (DdS K H) gs ms) /\
  (∃os:LA,H lo=some (.lst (os.map V.ref))/\Paired (λp x=>Dt K H (.ref p) (dat x.1)) os srt) /\
  (∃ws:LA,H ls=some (.lst (ws.map V.ref))/\Paired (λp(x:Dd×List Nat)=>H p=some (.lst (x.2.map λn=>V.int (n:Nat)))) ws srt)/\DTr K H ln (numT srt 0)
def Hh(K:Frag)(t:Adr):Sp:=λvs H Q _=>E9 λ(b:Bool)(d:Nat)(a x dx:Addr)(ps:LA)(ms:List Dd)(G:Dd->Prop)(N:Nat)=>A16 (vs=[.ref x,.int d,.ref a,.int 200]) (H x=some (.ins t.a_c dx [])) ((d=2\/d=3)) (SqB b K H a (ps.map V.ref)) (Paired (DdS K H) ps ms) (ms.length<=200) ((∀s∈ms,mO d s)) ((∀s∈ms,mO d (pV s))) ((∀x,G x->mO d x)) (G (oH d)) ((∀x s,G x->s∈ms->G (oE d x (pV s)))) ((oR d (ms.map pV) N 0 [(oH d,[])]).length<=63) ((oR d (ms.map pV) N 0 [(oH d,[])]).length<=N) ((∀y∈oR d (ms.map pV) N 0 [(oH d,[])],mO d y.1)) (((oR d (ms.map pV) N 0 [(oH d,[])]).map (·.1)).Nodup) (∀srt H',(∀b o,b≠x->H b=some o->H' b=some o)->GrpF K t H' x d ms srt->srt.Perm (oR d (ms.map pV) N 0 [(oH d,[])])->srt.Pairwise (λp q=>lx (fl (dat q.1)) (fl (dat p.1))=false)->Q .non H')
theorem Hg{c d:Type}{f:c->d}:∀{l:List d}{tb:List c},l.Perm (tb.map f)->∃srt:List c,srt.Perm tb/\srt.map f=l
 |[],tb,h=>by
  have:=h.length_eq;rw[zqe]at this;exact⟨[],by rw[List.length_eq_zero_iff.mp this.symm],rfl⟩
 | b:: l,tb,h=>by
  obtain⟨a,i,e⟩:=pI.mp (h.mem_iff.mp (zQ));obtain⟨s,r,rfl⟩:=List.append_of_mem i;have g:(b:: l).Perm (b:: (s++r).map f):=by
   refine h.trans ?_;rw[xK,zH,e,xK];exact List.perm_middle
  obtain⟨srt,p,q⟩:=Hg (List.Perm.cons_inv g);exact⟨a:: srt,(List.Perm.cons a p).trans List.perm_middle.symm,by rw[zH,e,q]⟩
def KX(x:Addr)(H H':Hp):Prop:=∀b o,b≠x->H b=some o->H' b=some o
theorem KX.same{x:Addr}{H H':Hp}(s:Same H H'):KX x H H':=λb o _ e=>s b o e
theorem KX.put{x:Addr}{H:Hp}{o:HO}:KX x H (upd H x o):=λb c a e=>by rw[pR a];exact e
theorem KX.trans{x:Addr}{H d f:Hp}(a:KX x H d)(b:KX x d f):KX x H f:=λc o g e=>b c o g (a c o g e)
theorem KX.tk{K:Frag}{x C d:Addr}{fs:List (Str×V)}{H H':Hp}(k:KX x H H')(e:H x=some (.ins C d fs)):TK K H H':=by
 have a:∀b xs,H b=some (.tup xs)->H' b=some (.tup xs):=λb xs q=>k b _ (λz=>by rw[z,e]at q;cases q) q;refine⟨a,λb xs q=>?_⟩;rcases q with(q|⟨c,q⟩)|q
 ·exact .inl (.inl (a _ _ q))
 ·exact .inl (.inr ⟨c,k b _ (λz=>by rw[z,e]at q;cases q) q⟩)
 ·exact .inr q
theorem Sf{H:Hp}{x:Dd}{w:List Nat}{p:Addr}:∀{tb:Tb}{kvs:List (PyData×V)},TbAt H tb kvs->(tb.map (·.1)).Nodup->(x,w)∈tb->vT kvs (dat x)=some (.ref p)->H p=some (.lst (w.map λn=>V.int (n:Nat))):=by
 intro tb kvs h
 induction h with
 |nil=>intro _ a;cases a
 |@cons y j tb kvs d _ g =>
  intro b a e;obtain⟨e1,q,f,c⟩:=d;rw[zH,sG]at b;rcases yQ.mp a with a|a
  ·rw[←a]at e1 c;rw[eF e1,f]at e;cases e;exact c
  ·have i:¬ j.1=dat x:=λq=>b.1 (by rw[gE.mp (e1.symm.trans q)];exact pI.mpr ⟨_,a,rfl⟩);rw[gQ i]at e;exact g b.2 a e
theorem Se{K:Frag}{H:Hp}{C x d a:Addr}{fs:List (Str×V)}{o:HO}{b:Bool}{xs:List V}(e:H x=some (.ins C d fs))(h:SqB b K H a xs):SqB b K (upd H x o) a xs:=by
 cases b with
 |false =>
  rcases(show SqL K H a xs from h) with(h|⟨c,h⟩)|h
  ·exact(.inl (.inl (by rw[pR (λz=>by rw[z,e]at h;cases h)];exact h)):SqL K (upd H x o) a xs)
  ·exact(.inl (.inr ⟨c,by rw[pR (λz=>by rw[z,e]at h;cases h)];exact h⟩):SqL K (upd H x o) a xs)
  ·exact(.inr h:SqL K (upd H x o) a xs)
 |true =>
  rcases(show SqT K H a xs from h) with(h|⟨c,h⟩)|h
  ·exact(.inl (.inl (by rw[pR (λz=>by rw[z,e]at h;cases h)];exact h)):SqT K (upd H x o) a xs)
  ·exact(.inl (.inr ⟨c,by rw[pR (λz=>by rw[z,e]at h;cases h)];exact h⟩):SqT K (upd H x o) a xs)
  ·exact(.inr h:SqT K (upd H x o) a xs)
theorem Sd{H:Hp}{v:V}{ds:List PyData}(h:Dt K H v (.tuple ds)):∃q,v=V.ref q:=by
 cases h;exact⟨_,rfl⟩
theorem fA{H:Hp}{a:St}{i:Nat}{C x b:Addr}{fs:List (Str×V)}{f:Str}{v:V}{Q:VK}(d:a[i]?=some (some (V.ref x)))(e:H x=some (.ins C b fs))(c:Cls K C)(n:iS K C f)(l:fs.lookup f=some v)(q:Q v H):tFld K (tVar i) f a H Q:=⟨_,d,x,C,b,fs,v,rfl,e,c,n,l,q⟩
theorem Sc{H:Hp}:∀{tb:Tb}{kvs:List (PyData×V)},TbAt H tb kvs->∀y∈tb,∃p,vT kvs (dat y.1)=some (V.ref p):=by
 intro tb kvs h
 induction h with
 |nil=>intro y a;cases a
 | @cons z e tb kvs d _ c =>
  intro y a;obtain⟨e1,p,b,_⟩:=d
  by_cases q:e.1=dat y.1
  ·exact⟨p,by rw[eF q,b]⟩
  ·rw[gQ q];rcases yQ.mp a with a|a
   ·exact absurd (by rw[e1,a]) q
   ·exact c y a
theorem Sb{K:Frag}{H:Hp}{ps:List (V×PyData)}{zs:List V}{n:Nat}(hl:zs.length=ps.length)(f:∀p∈ps,tT 4 p.2=true/\Dt K H p.1 p.2/\∃q,p.1=V.ref q)(d:∀j y,zs[j]?=some y->∃p m,y=V.ref p/\ps[j]?=some m/\H p=some (.tup [m.1,.int ((n+j:Nat):Int)])):
  ∃ts:List (Addr×PyData×Addr×V),zs=ts.map (λt=>V.ref t.1)/\(ts.map (·.2.1)=ps.map (·.2)/\ts.map (λt=>(t.2.1,t.2.2.2))=(ps.zipIdx n).map λp=>(p.1.2,V.int ((p.2:Nat):Int)))/\∀t∈ts,SqT K H t.1 [.ref t.2.2.1,t.2.2.2]/\tT 4 t.2.1=true/\Dt K H (.ref t.2.2.1) t.2.1:=by
 induction ps generalizing zs n with
 |nil =>
  obtain rfl:=wL hl;exact⟨[],rfl,⟨rfl,rfl⟩,λ_ h=>nomatch h⟩
 | cons p ps k =>
  obtain⟨z,zs,rfl⟩:=List.exists_cons_of_length_eq_add_one hl;obtain⟨a,m,e1,C,e⟩:=d 0 z rfl;cases C;obtain⟨J,c,q,v⟩:=f p (.head _);obtain⟨ts,I,⟨G,L⟩,i⟩:=k (zs:=zs) (n:=n+1) (sB hl) (λx r=>f x (.tail _ r)) λj y F=>by
   obtain⟨g,o,l,D,u⟩:=d (j+1) y F;exact⟨g,o,l,D,by rw[u,show n+(j+1)=n+1+j by omega]⟩
  rw[v]at e c;refine⟨(a,p.2,q,.int ((n+0:Nat):Int)):: ts,by rw[e1,I];rfl,⟨by rw[zH,zH,G],by rw[zH,uI,zH,L];rfl⟩,λt b=>?_⟩;rcases yQ.mp b with b|b
  ·rw[b];exact⟨SqT.of e,J,c⟩
  ·exact i t b
theorem ord_of{K:Frag}{H:Hp}:∀{ps:List (V×PyData)}{srt:Tb},(srt.map λy=>dat y.1)=ps.map (·.2)->(∀p∈ps,Dt K H p.1 p.2/\(∃q,p.1=V.ref q))->∃a:LA,ps.map (·.1)=a.map V.ref/\Paired (λp(x:Dd×List Nat)=>Dt K H (.ref p) (dat x.1)) a srt
 |[],[],_,_=>⟨[],rfl,.nil⟩
 |[],_:: _,h,_=>by simp at h
 |_:: _,[],h,_=>by simp at h
 |p:: ps,y:: srt,e,h=>by
  rw[zH,zH,zY]at e;obtain⟨a,e1,d⟩:=ord_of (ps:=ps) (srt:=srt) e.2 λx f=>h x (.tail _ f);obtain⟨c,q,b⟩:=h p (.head _);rw[b,←e.1]at c;exact⟨q:: a,by rw[zH,zH,e1,b],.cons c d⟩
theorem Sa{H:Hp}{kvs:List (PyData×V)}{srt:Tb}{ys:List V}(hl:ys.length=srt.length)(h:∀(j:Nat) y,ys[j]?=some y->∃p m,y=V.ref p/\srt[j]?=some m/\vT kvs (dat m.1)=some (V.ref p))
  (f:∀m∈srt,∀p,vT kvs (dat m.1)=some (V.ref p)->H p=some (.lst (m.2.map λn=>V.int (n:Nat)))):∃d:LA,ys=d.map V.ref/\Paired (λp(x:Dd×List Nat)=>H p=some (.lst (x.2.map λn=>V.int (n:Nat)))) d srt:=jS hl λj y e=>by
 obtain⟨p,m,a,b,c⟩:=h j y e;exact⟨p,m,a,b,f m (zqb b) p c⟩
theorem Hf:∀{srt:Tb}{ps:List (V×PyData)},(srt.map λy=>dat y.1)=ps.map (·.2)->∀n,((srt.zipIdx n).map λp=>(dat p.1.1,V.int ((p.2:Nat):Int)))=(ps.zipIdx n).map λp=>(p.1.2,V.int ((p.2:Nat):Int))
 |[],[],_,_=>rfl
 |[],_:: _,h,_=>by simp at h
 |_:: _,[],h,_=>by simp at h
 |y:: srt,p:: ps,e,n=>by
  rw[zH,zH,zY]at e;rw[uI,uI,zH,zH,Hf e.2 (n+1),e.1]
structure GI(K:Frag)(H0:Hp)(C x dx wd:Addr)(fs:List (Str×V))(tb:Tb)(kvs:List (PyData×V))(H:Hp):Prop where
 hx:H x=some (.ins C dx fs)
 s:∀b o,b≠x->H0 b=some o->H b=some o
 D:DTr K H wd kvs
 T:TbAt H tb kvs
theorem GI.up{K:Frag}{a H H':Hp}{C x d c:Addr}{fs:List (Str×V)}{tb:Tb}{kvs:List (PyData×V)}(h:GI K a C x d c fs tb kvs H)(s:Same H H'):GI K a C x d c fs tb kvs H':=
 ⟨s _ _ h.hx,λb o g e=>s _ _ (h.s b o g e),h.D.up s,Paired.mapP h.T λ_ _ z=>let ⟨f,p,i,j⟩:=z;⟨f,p,i,s _ _ j⟩⟩
theorem cW{K:Frag}{H:Hp}{C x a:Addr}{fs fs':List (Str×V)}(e:H x=some (.ins C a fs)):TK K H (upd H x (.ins C a fs')):=TK.off e (λ_ z=>by cases z) (λ_ _ z=>by cases z) λ_ b=>pR b
theorem GI.put{K:Frag}{f H:Hp}{C x c a:Addr}{fs:List (Str×V)}{tb:Tb}{kvs:List (PyData×V)}(h:GI K f C x c a fs tb kvs H)(fs':List (Str×V)):GI K f C x c a fs' tb kvs (upd H x (.ins C c fs')):=by
 have j:a≠x:=λz=>by
  obtain⟨_,_,xs,e,_⟩:=h.D;rw[z,h.hx]at e;cases e
 refine⟨pN,λb o g e=>?_,DTr.tk h.D (cW h.hx) (pR j),Paired.mapP h.T λ_ _ z=>?_⟩
 ·rw[pR g];exact h.s b o g e
 ·obtain⟨i,p,k,d⟩:=z;have:p≠x:=λq=>by rw[q,h.hx]at d;cases d
  exact⟨i,p,k,by rw[pR this];exact d⟩
theorem ok_0(T:Txt K mg t):FnOk P w K mg base CX0 12 t.a_0 t.d_0 pd' (Hh K t):=by
 have l2:=@ok_n P w K mg base t T;have k3:=@ok_10 P w K mg base t T;have j8:=@ok_1f P w K mg base t T;apply T.F_0.ok sc_0
 ·have b6:=hr.units;obtain⟨b,d,a,x,k,ps,ms,G,N,rfl,d8,f5,c4,c9,b4,f8,i6,f9,f4,h3,n2,h8,g6,g0,l9⟩:=h;refine⟨_,(pL (mC (mX l2 hr.mo rfl T.F_n.m T.F_n.kp T.F_n.b .nil lJ (pJ (pv 3) pK)))
   (pL (mC (pU k3 hr.mo T.F_10 (pJ (pv 1) (pJ (pv 2) pK))))
   (pL (pW (i:=4) sc_0.nd rfl (Or.inr rfl) (pU j8 hr.mo T.F_1f (pJ (pv 1) (pJ (pv 2) (pJ (pv 3) pK)))))
   (pL (fP (pv 0) (pv 1) rfl)
   (pL (fP (pv 0) (oZ iX rfl T.z_list (nofun) (pJ (pv 2) pK)) rfl)
   (pL (fP (pv 0) (oP (Qs (N:=63) Su b6 rfl) rfl T.z_sorted (nofun) (pJ (pv 4) pK)) rfl)
   (pL (fP (pv 0) (oQ (sc:=pM s_0) (N:=N_0) (fr:=[("words",4)]) (te:=(tOp (aU K) (tVar 1) (tVar 0))) rfl rfl (nofun) rfl (nofun) (oF (gK (pv 0) rfl)) (λ_ _ _ b0=>(nN (ix_T b6) (pv 1) (pv 0) (λ_ _=>rfl)))) rfl)
   (pO (fP (pv 0) (oZ (Qj b6 rfl) rfl T.z_dict (nofun) (pJ (kN (xs:=["number","member"]) (fr:=[]) (g:=(gTup K 2 (nB (pY 0) (nB (pY 1) gNil)))) (tt:=(tEl (tTup (pZ (tVar 1) (pZ (tVar 0) tNil))))) (mQ (sc:=pM s_0) (N:=N_0) rfl rfl (nofun)) rfl (dR rfl T.z_enumerate (pJ (gK (pv 0) rfl) pK)) (λ_ _ _ b0=>(kY rfl (nQ (mS (N:=["number","member"]) (i:=0) b0 rfl (nofun)) (nQ (mS (N:=["number","member"]) (i:=1) b0 rfl (nofun)) kI)))) (λ_ _ _ b0=>(lE (oX (pJ (pv 1) (pJ (pv 0) pK)))))) pK)) rfl))))))))),?_⟩
  show tSeq _ _ _ [some (.ref x),some (.int d),some (.ref a),some (.int 200),none] H;right;refine⟨200,rfl,λ_=>?_,λz=>absurd ⟨∅,∅⟩ z⟩;left;refine⟨b,d,a,ps,ms,rfl,f5,c4,c9,λs m0=>(f8 s m0).sq.1,λm9 c8=>?_⟩;left;refine⟨b,d,a,ps,ms,200,G,N,rfl,f5,c4.up c8,Paired.mapP c9 λ_ _ z=>z.up c8,b4,f8,i6,f9,f4,h3,zF _,⋯,h8,λd1 kvs a6 m1 m4 m2 k8=>?_⟩;generalize oR d (ms.map pV) N 0 [(oH d,[])]=tb at*
  have b2:=c8.trans m1;have c7:=b2 _ _ d8;subst e1;refine st λN1 e1=>?_;simp only[sFld];ext;have e2:GI K H t.a_c x k d1 [] tb kvs a6:=⟨c7,λb o _ e=>b2 _ _ e,m2,k8⟩;refine⟨_,_,_,c7,T.cl_c,T.h_3,∅,?_⟩;have e9:=e2.put (fG1 d);have sq3:SqB b K (upd a6 x (.ins t.a_c k (fG1 d))) a (ps.map V.ref):=Se c7 (c4.up b2);show N1 _ (upd a6 x (.ins t.a_c k (fG1 d)));generalize upd a6 x (.ins t.a_c k (fG1 d))=a2 at*
  clear e2;subst e1;refine st λN1 e1=>?_;simp only[sFld];ext;refine⟨b,a,_,rfl,sq3,λc d0=>?_⟩;have l0:Same a2 (upd a2 c (.lst (ps.map V.ref))):=Same.new d0;have k1:(upd a2 c (.lst (ps.map V.ref))) c=some (.lst (ps.map V.ref)):=pN;have g1:c≠x:=λz=>by rw[z,e9.hx]at d0;cases d0
  have e4:=e9.up l0;generalize upd a2 c (.lst (ps.map V.ref))=I at*
  refine⟨_,_,_,e4.hx,T.cl_c,T.h_1m,by show 1<1000;decide,?_⟩;have a4:=e4.put (fG2 d c);have k6:KX x I (upd I x (.ins t.a_c k (fG2 d c))):=KX.put;show N1 _ (upd I x (.ins t.a_c k (fG2 d c)));generalize upd I x (.ins t.a_c k (fG2 d c))=n1 at*
  subst e1;refine st λN1 e1=>?_;simp only[sFld];ext;have m6:tb.length=kvs.length:=oU a4.T;have e6:∀J∈kvs,∃y∈tb,J.1=dat y.1:=λJ X=>by
   obtain⟨y,Y,z⟩:=aZ a4.T J X;exact⟨y,Y,z.1⟩
  have h9:=f9 _ f4;refine⟨d1,kvs,[.tuple ((List.replicate d (0:Int)).map PyData.int),.int 1],(idM d).map (λr=>PyData.tuple (r.map PyData.int)),rfl,⋯,a4.D,λJ X=>?_,λg v W c5 m7 b1 a8 a3 i4=>?_⟩
  ·obtain⟨y,Y,e⟩:=e6 J X;rw[e];exact Hi h9 (g6 y Y)
  have a1:=a4.up c5;have g2:=k6.trans (KX.same c5);refine⟨_,_,_,a1.hx,T.cl_c,T.h_e,by show 2<1000;decide,?_⟩;have pl:v.length<=63:=by
   have:=a3.length_eq;rw[zqe,zqe]at this;omega
  have n0:=b1;have U:=a1.put (fG3 d c g);have c2:g≠x:=λz=>by rw[z,a1.hx]at b1;cases b1
  have k0:KX x I (upd W x (.ins t.a_c k (fG3 d c g))):=g2.trans KX.put;have b3:(upd W x (.ins t.a_c k (fG3 d c g))) g=some (.lst (v.map (·.1))):=by rw[pR c2];exact b1
  have L:∀p∈v,tT 4 p.2=true/\Dt K (upd W x (.ins t.a_c k (fG3 d c g))) p.1 p.2:=λp f=>⟨(a8 p f).1,lZ (cW a1.hx).t 4 (a8 p f).1 (lZ (nX c5) 4 (a8 p f).1 (a8 p f).2)⟩;show N1 _ (upd W x (.ins t.a_c k (fG3 d c g)));generalize upd W x (.ins t.a_c k (fG3 d c g))=m8 at*
  -- every member is a reference to one of the dict's keys
  have mem:∀p∈v,∃y∈tb,p.2=dat y.1:=λp f=>by
   have:p.2∈kvs.map (·.1):=a3.mem_iff.mp (pI.mpr ⟨p,f,rfl⟩);obtain⟨J,X,e⟩:=pI.mp this;obtain⟨y,Y,c1⟩:=e6 J X;exact⟨y,Y,by rw[←e,c1]⟩
  have f2:kvs.map (·.1)=tb.map λy=>dat y.1:=by
   have:∀{H':Hp}{tb:Tb}{kvs:List (PyData×V)},TbAt H' tb kvs->kvs.map (·.1)=tb.map λy=>dat y.1:=by
    intro H' tb kvs h
    induction h with
    |nil=>rfl
    |cons d4 _ j1=>rw[zH,zH,j1,d4.1]
   exact this U.T
  obtain⟨srt,f6,S⟩:=Hg (f:=λy:Dd×List Nat=>dat y.1) (l:=v.map (·.2)) (tb:=tb) (by rw[←f2];exact a3);have g3:srt.length=v.length:=by have:=wE List.length S;simpa using this
  have b8:∀p∈v,∃q,p.1=V.ref q:=λp f=>by
   obtain⟨y,_,e⟩:=mem p f;have e7:=(L p f).2;rw[e]at e7;exact Sd e7
  subst e1;refine st λN1 e1=>?_;simp only[sFld];refine oC λB eB=>?_;simp only[iSeq];refine fA rfl U.hx T.cl_c T.h_e rfl ?_;refine⟨false,g,rfl,⟨_,SqB.lst b3⟩,λu c0=>?_⟩;refine oM (λj y _=>∃(p:Addr)(m:Dd×List Nat),y=V.ref p/\srt[j]?=some m/\vT kvs (dat m.1)=some (V.ref p)) c0 (SqB.lst b3) (by rw[zqe];omega) (λ_ _ _ _ h _=>h) ?_ ?_
  ·intro i y D zs c6 F f3 d6 d3;obtain⟨p,f,rfl⟩:=nM c6;have b5:=zqb f;obtain⟨q,l4⟩:=b8 p b5;obtain⟨h6,k4,j7⟩:=mem p b5;obtain⟨f1,e5⟩:=L p b5;subst eB;show tOp _ _ _ [some p.1,some (.ref d1)] D d6;ext;rw[l4]at e5 ⊢;have O:=U.up F;obtain⟨h5,b9⟩:=Sc O.T h6 k4;rw[←j7]at b9;refine Hq O.D f1 (lZ (nX F) 4 f1 e5) b9 ?_;have g8:∃m,srt[i]?=some m/\dat m.1=p.2:=by
    have e:=wE (λl=>l[i]?) S;simp only[List.getElem?_map,f,Option.map_some]at e;cases hm2:srt[i]? with
    |none=>rw[hm2]at e;cases e
    |some m=>rw[hm2]at e;exact⟨m,rfl,zP e⟩
   obtain⟨m,c3,g4⟩:=g8;exact d3 _ _ (Same.refl _) ⟨h5,m,rfl,c3,by rw[g4];exact b9⟩
  ·intro D ys F k5 j0 i7;have O:=U.up F;have e8:u≠x:=λz=>by rw[z,U.hx]at c0;cases c0
   have k9:=k0.trans (KX.same F);have k7:KX x I (upd D x (.ins t.a_c k (fG4 d c g u))):=k9.trans KX.put;have j9:(upd D x (.ins t.a_c k (fG4 d c g u))) u=some (.lst ys):=by rw[pR e8];exact k5
   refine⟨.ref x,rfl,x,_,_,_,rfl,O.hx,T.cl_c,T.h_4,by show 3<1000;decide,?_⟩;have f7:=O.put (fG4 d c g u);have d2:(upd D x (.ins t.a_c k (fG4 d c g u))) g=some (.lst (v.map (·.1))):=by rw[pR c2];exact F _ _ b3
   have R:∀p∈v,tT 4 p.2=true/\Dt K (upd D x (.ins t.a_c k (fG4 d c g u))) p.1 p.2:=λp f=>⟨(L p f).1,lZ (cW O.hx).t 4 (L p f).1 (lZ (nX F) 4 (L p f).1 (L p f).2)⟩;show N1 _ (upd D x (.ins t.a_c k (fG4 d c g u)));generalize upd D x (.ins t.a_c k (fG4 d c g u))=m5 at*
   subst e1;simp only[sFld];ext;refine oC λB eB=>?_;simp only[fY];ext;refine fA rfl f7.hx T.cl_c T.h_e rfl ?_;refine⟨false,g,rfl,⟨_,SqB.lst d2⟩,λe0 j6=>?_⟩;refine Ou (λj y H=>∃p m,y=V.ref p/\p≠e0/\v[j]?=some m/\H p=some (.tup [m.1,.int (j:Int)])) j6 (SqB.lst d2) (by rw[zqe];omega) (λ_ _ _ _⟨p,m,e,n,c3,h⟩l7=>⟨p,m,e,n,c3,l7 _ _ n h⟩) ?_ ?_
   ·intro i y d5 zs c6 a5 f3 d6 d3;obtain⟨p,f,rfl⟩:=nM c6;subst eB;show tTup _ [some (.int i),some p.1] d5 d6;ext;refine⟨by show 2<=sizeLine;decide,λq b7=>?_⟩;refine d3 _ _ (Same.new b7) ⟨q,p,rfl,(λz=>by rw[z,f3]at b7;cases b7),f,pN⟩
   ·intro d5 zs a5 h4 g9 d4;obtain⟨ts,h2,⟨i5,i8⟩,i9⟩:=Sb (K:=K) (H:=d5) (ps:=v) (zs:=zs) (n:=0) (by rw[g9,zqe]) (λp f=>⟨(R p f).1,lZ (nX a5) 4 (R p f).1 (R p f).2,b8 p f⟩) λj y i3=>by
     obtain⟨p,m,j2,_,i2,g5⟩:=d4 j y i3;exact⟨p,m,j2,i2,by rw[qL];exact g5⟩
    have i1:=f7.up a5;have g7:(v.map (·.2)).Nodup:=a3.nodup_iff.mpr (by
     rw[f2,show(tb.map λy=>dat y.1)=(tb.map (·.1)).map dat by rw[yW];rfl];exact List.Pairwise.map dat (λa b h e=>h (gE.mp e)) g0)
    refine⟨e0,ts,rfl,by rw[←h2];exact .inl (.inl h4),i9,by rw[i5];exact g7,λC M d7 _ f0=>?_⟩;have a9:=i1.up d7;refine⟨_,_,_,a9.hx,T.cl_c,T.h_f,by show 4<1000;decide,?_⟩;have a7:=a5.trans d7;have d9:=cW (K:=K) (fs':=(fG5 d c g u C)) a9.hx;have a0:=a9.put (fG5 d c g u C);show Q .non (upd M x (.ins t.a_c k (fG5 d c g u C)));have k2:KX x M (upd M x (.ins t.a_c k (fG5 d c g u C))):=KX.put;have h7:(upd M x (.ins t.a_c k (fG5 d c g u C))) u=some (.lst ys):=by rw[pR e8];exact a7 _ _ j9
    have i0:C≠x:=λz=>by
     obtain⟨_,_,xs,e,_⟩:=f0;rw[z,a9.hx]at e;cases e
    have m3:=DTr.tk f0 d9 (pR i0);have l1:(upd M x (.ins t.a_c k (fG5 d c g u C))) g=some (.lst (v.map (·.1))):=by rw[pR c2];exact a7 _ _ d2
    generalize upd M x (.ins t.a_c k (fG5 d c g u C))=Z at*;have j5:KX x I Z:=((k7.trans (KX.same a7)).trans k2);have h1:TK K H Z:=KX.tk (λb o j3 e=>a0.s b o j3 e) d8;refine l9 srt Z a0.s ⟨k,c,g,u,C,a0.hx,⟨ps,j5 _ _ g1 k1,Paired.mapP c9 λ_ _ z=>DdS.tk z h1⟩,?_,?_,?_⟩ f6 ?_
    ·obtain⟨l8,j4,l3⟩:=ord_of (K:=K) (H:=Z) (ps:=v) (srt:=srt) S λp f=>⟨lZ d9.t 4 (R p f).1 (lZ (nX a7) 4 (R p f).1 (R p f).2),b8 p f⟩;exact⟨l8,by rw[l1,j4],l3⟩
    ·obtain⟨h0,l5,l6⟩:=Sa (H:=Z) (srt:=srt) (kvs:=kvs) (ys:=ys) (by rw[j0,zqe,g3]) i7 λm b4 p e=>Sf (x:=m.1) (w:=m.2) a0.T g0 (f6.mem_iff.mp b4) e;exact⟨h0,by rw[←l5];exact h7,l6⟩
    ·have c1:numT srt 0=ts.map λt=>(t.2.1,t.2.2.2):=by
      rw[i8];unfold numT;exact Hf S 0
     rw[c1];exact m3
    ·have e3:(v.map (·.2)).Pairwise λp q=>lx (fl q) (fl p)=false:=pC.mpr i4;rw[←S]at e3;exact pC.mp e3
theorem GrpF.up{H H':Hp}{g:Addr}{d:Nat}{ms:List Dd}{srt:Tb}(h:GrpF K t H g d ms srt)(s:Same H H'):GrpF K t H' g d ms srt:=by
 obtain⟨i,m,p,u,q,b,⟨n,o,j⟩,⟨r,c,f⟩,⟨k,e,a⟩,l⟩:=h;exact⟨i,m,p,u,q,s _ _ b,⟨n,s _ _ o,Paired.mapP j λ_ _ z=>DdS.up z s⟩,⟨r,s _ _ c,Paired.mapP f λ_ x z=>lZ (nX s) 4 (kQ x.1) z⟩,⟨k,s _ _ e,Paired.mapP a λ_ _ z=>s _ _ z⟩,l.up s⟩
def sp_3(K:Frag)(t:Adr):Sp:=λvs H Q _=>E4 λ(g:Addr)(d:Nat)(ms:List Dd)(srt:Tb)=>A3 (vs=[.ref g]) (GrpF K t H g d ms srt) (∀l os H',Same H H'->H l=none->H' l=some (.lst (os.map V.ref))->Paired (λp x=>Dt K H' (.ref p) (dat x.1)) os srt->Q (.ref l) H')
theorem ok_3(T:Txt K mg t):FnOk P w K mg base CX0 2 t.a_3 t.d_3 pE' (sp_3 K t):=by
 apply T.F_3.ok sc_3
 ·obtain⟨g,d,ms,srt,rfl,⟨j,k,f,n,m,a,_,⟨i,b,c⟩,_⟩,e⟩:=h;refine⟨_,(pO (oB (oZ iX rfl T.z_list (nofun) (pJ (gK (pv 0) rfl) pK)))),?_⟩;show tRet _ _ [some (.ref g)] H;simp only[tRet,tCB,pZ,tNil];refine fA rfl a T.cl_c T.h_e rfl ?_;refine⟨false,f,_,rfl,SqB.lst b,λl hl=>?_⟩;exact e l i _ (Same.new hl) hl pN (Paired.mapP c λ_ x z=>lZ (nX (Same.new hl)) 4 (kQ x.1) z)
def sp_h(K:Frag)(t:Adr):Sp:=λvs H Q _=>E4 λ(g:Addr)(d:Nat)(ms:List Dd)(srt:Tb)=>A3 (vs=[.ref g]) (GrpF K t H g d ms srt) (Q (.int d) H)
def sp_d(K:Frag)(t:Adr):Sp:=λvs H Q _=>E4 λ(g:Addr)(d:Nat)(ms:List Dd)(srt:Tb)=>A3 (vs=[.ref g]) (GrpF K t H g d ms srt) (∀l gs H',Same H H'->H l=none->H' l=some (.lst (gs.map V.ref))->Paired (DdS K H') gs ms->Q (.ref l) H')
def sp_y(K:Frag)(t:Adr):Sp:=λvs H Q _=>E6 λ(g p:Addr)(d:Nat)(ms:List Dd)(srt:Tb)(x:Dd)=>A7 (vs=[.ref g,.ref p]) (GrpF K t H g d ms srt) (lU K H p x.1 x.2.1 x.2.2) (x.1.length<=100) (x.2.1.length<=100) (0<x.2.2) (∀H',Same H H'->Q ((vT (numT srt 0) (dat (pV x))).getD .non) H')
theorem ok_h(T:Txt K mg t):FnOk P w K mg base CX0 2 t.a_h t.d_h pE' (sp_h K t):=by
 apply T.F_h.ok sc_h
 ·obtain⟨g,d,ms,srt,rfl,⟨c,e,f,j,i,a,_⟩,b⟩:=h;refine⟨_,(pO (oB (gK (pv 0) rfl))),?_⟩;show tRet _ _ [some (.ref g)] H;simp only[tRet];exact fA rfl a T.cl_c T.h_3 rfl b
theorem ok_d(T:Txt K mg t):FnOk P w K mg base CX0 2 t.a_d t.d_d pE' (sp_d K t):=by
 apply T.F_d.ok sc_d
 ·obtain⟨g,d,ms,srt,rfl,⟨j,c,k,n,m,a,⟨f,i,b⟩,_⟩,e⟩:=h;refine⟨_,(pO (oB (oZ iX rfl T.z_list (nofun) (pJ (gK (pv 0) rfl) pK)))),?_⟩;show tRet _ _ [some (.ref g)] H;simp only[tRet,tCB,pZ,tNil];refine fA rfl a T.cl_c T.h_1m rfl ?_;refine⟨false,c,_,rfl,SqB.lst i,λl hl=>?_⟩;exact e l f _ (Same.new hl) hl pN (Paired.mapP b λ_ _ z=>DdS.up z (Same.new hl))
theorem ok_y(T:Txt K mg t):FnOk P w K mg base CX0 3 t.a_y t.d_y pC' (sp_y K t):=by
 have n:=@ok_1x P w K mg base t T;apply T.F_y.ok sc_y
 ·have m:=hr.units;obtain⟨g,p,d,ms,srt,x,rfl,⟨y,z,C,v,e,f,_,_,_,a⟩,u,q,i,k,j⟩:=h;refine⟨_,(pO (oB (Pr (T:= "") PySem.F.plainAttrs_dict PySem.F.slot_dict_get PySem.F.type_dict_get (Pp m) (gK (pv 0) rfl) (pJ (pU n hr.mo T.F_1x (pJ (pv 1) pK)) pK)))),?_⟩;show tRet _ _ [some (.ref g),some (.ref p)] H;simp only[tRet,tBMR];refine fA rfl f T.cl_c T.h_f rfl ?_;refine⟨⟨e,_,rfl,a⟩,?_⟩;ext;refine⟨p,x.1,x.2.1,x.2.2,rfl,u,q,i,k,λr b c o=>?_⟩;have l:DdAt K b r (pV x):=o;exact⟨e,_,r,dat (pV x),rfl,rfl,a.up c,kQ _,l.dt,j b c⟩
theorem sq1{b:LM}(h:Sq 1 b):∃a,b=[[a]]:=by
 obtain⟨hl,hr⟩:=h
 match b,hl with
 |[r],_ =>
  have:=hr r (by simp)
  match r,this with
  |[a],_=>exact⟨a,rfl⟩
theorem len2{r:LI'}(h:r.length=2):∃a b,r=[a,b]:=by match r,h with|[a,b],_=>exact⟨a,b,rfl⟩
theorem len3{r:LI'}(h:r.length=3):∃a b c,r=[a,b,c]:=by match r,h with|[a,b,c],_=>exact⟨a,b,c,rfl⟩
theorem sq2{e:LM}(h:Sq 2 e):∃a b c d,e=[[a,b],[c,d]]:=by
 obtain⟨hl,hr⟩:=h
 match e,hl with
 |[r,s],_ =>
  obtain⟨a,b,rfl⟩:=len2 (hr r (by simp));obtain⟨c,d,rfl⟩:=len2 (hr s (by simp));exact⟨a,b,c,d,rfl⟩
theorem sq3{k:LM}(h:Sq 3 k):∃a b c d e f g i j,k=[[a,b,c],[d,e,f],[g,i,j]]:=by
 obtain⟨hl,hr⟩:=h
 match k,hl with
 |[r,s,t],_ =>
  obtain⟨a,b,c,rfl⟩:=len3 (hr r (by simp));obtain⟨d,e,f,rfl⟩:=len3 (hr s (by simp));obtain⟨g,i,j,rfl⟩:=len3 (hr t (by simp));exact⟨a,b,c,d,e,f,g,i,j,rfl⟩
theorem id2:idM 2=[[1,0],[0,1]]:=nofun
theorem id3:idM 3=[[1,0,0],[0,1,0],[0,0,1]]:=nofun
theorem Tz(a b v:Int)(c:0<v):gcdI (a*v) (b*v)=gcdI a b*v:=by
 unfold gcdI;rw[Int.gcd_mul_right];have:((v.natAbs:Nat):Int)=v:=⋯
 rw[Int.natCast_mul,this]
theorem Ty{u v:Int}(b:0<v)(ts:LI'):gl (u*v) (ts.map (·*v))=gl u ts*v:=by
 have e:∀(ts:LI')(a:Int),(ts.map (·*v)).foldl gcdI (a*v)=ts.foldl gcdI a*v:=by
  intro ts
  induction ts with
  |nil=>intro a;rfl
  |cons t r d=>intro a;rw[zH,wG,wG,Tz _ _ _ b,d]
 unfold gl;have:absI (u*v)=absI u*v:=by
  unfold absI;rcases Int.lt_or_le u 0 with l|l
  ·have c:u*v<0:=Int.mul_neg_of_neg_of_pos l b;rw[zG l,zG c,qR]
  ·have c:0<=u*v:=Int.mul_nonneg l (wT b);rw[zE ⋯,zE ⋯]
 rw[this,e]
def Cong(u:Int)(xs ys:LI'):Prop:=xs.length=ys.length/\∀(i:Nat)(x y:Int),xs[i]?=some x->ys[i]?=some y->u∣x-y
theorem Tx{u x y:Int}(a:0<u)(h:u∣x-y):x.fmod u=y.fmod u:=by
 rw[xR _ (wT a),xR _ (wT a)];exact Int.emod_eq_emod_iff_emod_sub_eq_zero.mpr (Int.emod_eq_zero_of_dvd h)
theorem Cong.rest{u:Int}(b:0<u)(ns:LI'):Cong u ns (nK u ns):=by
 refine⟨by simp[nK],λi x y e1 a=>?_⟩;unfold nK at a;rw[zD,e1]at a;cases zP a;have:=Rg b x;have c:=xR (x.fmod u-x) (wT b);rw[c]at this;have d:=Int.dvd_of_emod_eq_zero this;have:=qY.mpr d
 rwa[Int.neg_sub]at this
theorem Cong.gl{u:Int}{xs ys:LI'}(h:Cong u xs ys):Cw.gl u xs=Cw.gl u ys:=by
 have c:∀{xs ys:LI'}{d:Int},Cong u xs ys->d∣u->(∀t∈xs,d∣t)->∀t∈ys,d∣t:=λ{xs ys d}h m n t k=>by
  obtain⟨i,hi,e⟩:=List.getElem_of_mem k;have f:i<xs.length:=by rw[h.1];exact hi
  have a:=h.2 i xs[i] t (by simp[f]) (by simp[hi,e]);have b:=n _ (wA f);have l:=qO b (Int.dvd_trans m a)
  rwa[show xs[i]-(xs[i]-t)=t by omega]at l
 have j:Cong u ys xs:=⟨h.1.symm,λi x y e1 g=>by
  have:=qY.mpr (h.2 i y x g e1)
  rwa[Int.neg_sub]at this⟩
 exact Gm λd=>⟨λ⟨a,b⟩=>⟨a,c h a b⟩,λ⟨a,b⟩=>⟨a,c j a b⟩⟩
theorem Cong.red{u:Int}{xs ys:LI'}(q:0<u)(h:Cong u xs ys):redU u xs=redU u ys/\nK (redU u xs) (redT u xs)=nK (redU u ys) (redT u ys):=by
 have k:=h.gl;have d:cs u xs=cs u ys:=by unfold cs;rw[k]
 have a:=gC xs (show u≠0 by omega);have e:redU u xs=redU u ys:=by unfold redU;rw[d]
 refine⟨e,?_⟩;have j:0<redU u xs:=Ag xs ⋯;have o:redU u xs*cs u xs=u:=jG a (kF (gl_u u xs));rw[←e];unfold nK redT;refine xQ (by simp[h.1]) λi b c=>?_;simp at b c;simp only[List.getElem_map];have p:=h.2 i xs[i] ys[i] (by simp[b]) (by simp[c]);have m:∀x y:Int,u∣x-y->cs u xs∣x->cs u ys∣y->redU u xs∣x.fdiv (cs u xs)-y.fdiv (cs u ys):=λx y n l f=>by
  have e1:x.fdiv (cs u xs)*cs u xs=x:=jG a l;rw[←d]at f ⊢;have g:y.fdiv (cs u xs)*cs u xs=y:=jG a f;refine Int.dvd_of_mul_dvd_mul_right a ?_;rw[o,Int.sub_mul,e1,g];exact n
 exact Tx j (m _ _ p (kF (eP (wA b))) (kF (eP (wA c))))
theorem Aa{u:Int}:∀(r ts c:LI'),Cong u ts c->u∣dotI r ts-dotI r c
 |[],ts,c,_=>by simp[dotI]
 |x:: r,[],c,h=>by
  have:c=[]:=wL h.1.symm;subst this;simp[dotI]
 |x:: r,t:: ts,[],h=>by have:=h.1;simp at this
 |x:: r,t:: ts,t':: c,h=>by
  have e:=Aa r ts c ⟨by have:=h.1;simpa using this,λi a b e1 d=>h.2 (i+1) a b (by simpa using e1) (by simpa using d)⟩;have f:=h.2 0 t t' rfl rfl;have e1:dotI (x:: r) (t:: ts)=x*t+dotI r ts:=by simp[dotI]
  have d:dotI (x:: r) (t':: c)=x*t'+dotI r c:=by simp[dotI]
  rw[e1,d,show x*t+dotI r ts-(x*t'+dotI r c)=x*(t-t')+(dotI r ts-dotI r c) by rw[qS];omega];exact qP (Int.dvd_mul_of_dvd_right f) e
theorem Tw{N:LM}{ns ts c b:LI'}{v u:Int}(d:Cong v ns c)(g:Cong u ts b):Cong (v*u) (movT N ns v ts u) (movT N c v b u):=by
 refine⟨by unfold movT;rw[yA,yA,d.1],λi x y e1 a=>?_⟩;unfold movT at e1 a;rw[yX]at e1 a;cases en:N[i]? with
 |none=>rw[en]at e1;cases e1
 | some r =>
  rw[en]at e1 a;cases e3:ns[i]? with
  |none=>rw[e3]at e1;cases e1
  | some n =>
   cases e4:c[i]? with
   |none=>rw[e4]at a;cases a
   |some e =>
    rw[e3]at e1;rw[e4]at a;cases zP e1;cases zP a;obtain⟨k,l⟩:=Aa r ts b g;obtain⟨m,o⟩:=d.2 i n e e3 e4;refine⟨k+m,?_⟩;have j:dotI r ts=dotI r b+u*k:=⋯
    have f:n=e+v*m:=⋯
    rw[j,f];grind
theorem Sq.mul{n:Nat}{A B:LM}(a:Sq n A):Sq n (mulM n A B):=by
 refine⟨by simp[mulM,a.1],λr hr=>?_⟩;obtain⟨z,_,rfl⟩:=pI.mp hr;simp
theorem nU{d:Nat}:Sq d (idM d):=⟨by simp[idM],λr hr=>by
 obtain⟨i,_,rfl⟩:=pI.mp hr;simp⟩
theorem mul2(a b c d f e g d':Int):mulM 2 [[a,b],[c,d]] [[f,e],[g,d']]=[[a*f+b*g,a*e+b*d'],[c*f+d*g,c*e+d*d']]:=by simp[mulM,dotI,colI,List.range,List.range.loop]
theorem mul3(a b c d e f g i j k m l d' q p g' n o:Int):mulM 3 [[a,b,c],[d,e,f],[g,i,j]] [[k,m,l],[d',q,p],[g',n,o]]=[[a*k+(b*d'+c*g'),a*m+(b*q+c*n),a*l+(b*p+c*o)],[d*k+(e*d'+f*g'),d*m+(e*q+f*n),d*l+(e*p+f*o)],[g*k+(i*d'+j*g'),g*m+(i*q+j*n),g*l+(i*p+j*o)]]:=by
 simp[mulM,dotI,colI,List.range,List.range.loop]
theorem mul_assoc{d:Nat}(u:d=2\/d=3){A B C:LM}(l:Sq d A)(m:Sq d B)(k:Sq d C):mulM d (mulM d A B) C=mulM d A (mulM d B C):=by
 rcases u with e|e <;> subst e
 ·obtain⟨a,b,c,d,rfl⟩:=sq2 l;obtain⟨n,r,p,d',rfl⟩:=sq2 m;obtain⟨q,b2,o,v,rfl⟩:=sq2 k;simp only[mul2,List.cons.injEq,and_true];refine⟨⟨?_,?_⟩,?_,?_⟩ <;> grind
 ·obtain⟨a,b,c,d,e,f,g,i,j,rfl⟩:=sq3 l;obtain⟨n,r,p,d',L,D,g',z,J,rfl⟩:=sq3 m;obtain⟨q,b2,o,v,F,G,x,I,y,rfl⟩:=sq3 k;simp only[mul3,List.cons.injEq,and_true];refine⟨⟨?_,?_,?_⟩,⟨?_,?_,?_⟩,?_,?_,?_⟩ <;> grind
theorem kR{d:Nat}(l:d=2\/d=3){A:LM}(k:Sq d A):mulM d (idM d) A=A/\mulM d A (idM d)=A:=by
 rcases l with e|e <;> subst e
 ·obtain⟨a,b,c,d,rfl⟩:=sq2 k;rw[id2,mul2,mul2];simp
 ·obtain⟨a,b,c,d,e,f,g,i,j,rfl⟩:=sq3 k;rw[id3,mul3,mul3];simp
theorem v2{v:LI'}(h:v.length=2):∃x y,v=[x,y]:=len2 h
theorem v3{v:LI'}(h:v.length=3):∃x y z,v=[x,y,z]:=len3 h
def mv(M:LM)(v:LI'):LI':=M.map λr=>dotI r v
def va(v w:LI'):LI':=List.zipWith (·+·) v w
theorem nY{d:Nat}{A:LM}{v:LI'}(h:Sq d A):(mv A v).length=d:=by unfold mv;rw[zqe];exact h.1
theorem mv2(a b c e x y:Int):mv [[a,b],[c,e]] [x,y]=[a*x+b*y,c*x+e*y]:=by simp[mv,dotI]
theorem mv3(a b c d g f i j e x y z:Int):mv [[a,b,c],[d,g,f],[i,j,e]] [x,y,z]=[a*x+(b*y+c*z),d*x+(g*y+f*z),i*x+(j*y+e*z)]:=by simp[mv,dotI]
theorem va2(a b c e:Int):va [a,b] [c,e]=[a+c,b+e]:=rfl
theorem va3(a b c x y z:Int):va [a,b,c] [x,y,z]=[a+x,b+y,c+z]:=rfl
theorem cX{d:Nat}(j:d=2\/d=3){A B:LM}(f:Sq d A)(i:Sq d B){v:LI'}(g:v.length=d):mv (mulM d A B) v=mv A (mv B v):=by
 rcases j with rfl|rfl
 ·obtain⟨a,b,c,e,rfl⟩:=sq2 f;obtain⟨k,L,p,R,rfl⟩:=sq2 i;obtain⟨x,y,rfl⟩:=v2 g;rw[mul2,mv2,mv2,mv2];simp only[List.cons.injEq,and_true];refine⟨?_,?_⟩ <;> grind
 ·obtain⟨O,D,q,C,n,M,r,u,I,rfl⟩:=sq3 f;obtain⟨b1,b2,J,o,F,l,N,G,m,rfl⟩:=sq3 i;obtain⟨x,y,z,rfl⟩:=v3 g;rw[mul3,mv3,mv3,mv3];simp only[List.cons.injEq,and_true];refine⟨?_,?_,?_⟩ <;> grind
theorem He{d:Nat}(l:d=2\/d=3){A:LM}(f:Sq d A){v w:LI'}(g:v.length=d)(i:w.length=d):mv A (va v w)=va (mv A v) (mv A w):=by
 rcases l with rfl|rfl
 ·obtain⟨a,b,c,e,rfl⟩:=sq2 f;obtain⟨x,y,rfl⟩:=v2 g;obtain⟨j,k,rfl⟩:=v2 i;rw[va2,mv2,mv2,mv2,va2];simp only[List.cons.injEq,and_true];refine⟨?_,?_⟩ <;> grind
 ·obtain⟨C,p,q,o,m,u,r,n,F,rfl⟩:=sq3 f;obtain⟨x,y,z,rfl⟩:=v3 g;obtain⟨j,k,D,rfl⟩:=v3 i;rw[va3,mv3,mv3,mv3,va3];simp only[List.cons.injEq,and_true];refine⟨?_,?_,?_⟩ <;> grind
theorem Hd{d:Nat}(b:d=2\/d=3){v:LI'}(a:v.length=d):mv (idM d) v=v:=by
 rcases b with rfl|rfl
 ·obtain⟨x,y,rfl⟩:=v2 a;rw[id2,mv2];simp
 ·obtain⟨x,y,z,rfl⟩:=v3 a;rw[id3,mv3];simp
def smul(k:Int)(T:LI'):LI':=T.map λt=>k*t
theorem mP{k:Int}{T:LI'}:(smul k T).length=T.length:=by unfold smul;rw[zqe]
theorem Hc(c a b:Int):smul c [a,b]=[c*a,c*b]:=rfl
theorem Hb(c a b e:Int):smul c [a,b,e]=[c*a,c*b,c*e]:=rfl
theorem gH{d:Nat}(i:d=2\/d=3){A:LM}(f:Sq d A){v:LI'}(g:v.length=d)(c:Int):mv A (smul c v)=smul c (mv A v):=by
 rcases i with rfl|rfl
 ·obtain⟨a,b,c,e,rfl⟩:=sq2 f;obtain⟨x,y,rfl⟩:=v2 g;rw[Hc,mv2,mv2,Hc];simp only[List.cons.injEq,and_true];refine⟨?_,?_⟩ <;> grind
 ·obtain⟨q,m,n,l,k,o,p,j,r,rfl⟩:=sq3 f;obtain⟨x,y,z,rfl⟩:=v3 g;rw[Hb,mv3,mv3,Hb];simp only[List.cons.injEq,and_true];refine⟨?_,?_,?_⟩ <;> grind
structure Chg(d:Nat)(P P':LM):Prop where
 p:Sq d P
 q:Sq d P'
 l:mulM d P' P=idM d
 r:mulM d P P'=idM d
theorem Chg.id{d:Nat}(a:d=2\/d=3):Chg d (idM d) (idM d):=⟨nU,nU,(kR a nU).1,(kR a nU).1⟩
theorem Chg.then{d:Nat}(a:d=2\/d=3){P b R c:LM}(h:Chg d P b)(g:Chg d R c):Chg d (mulM d R P) (mulM d b c):=by
 refine⟨g.p.mul,h.q.mul,?_,?_⟩
 ·rw[mul_assoc a h.q g.q g.p.mul,←mul_assoc a g.q g.p h.p,g.l,(kR a h.p).1,h.l]
 ·rw[mul_assoc a g.p h.p h.q.mul,←mul_assoc a h.p h.q g.q,h.r,(kR a g.q).1,g.r]
def cjM(d:Nat)(P P' M:LM):LM:=mulM d (mulM d P M) P'
theorem kS{d:Nat}{P a:LM}(h:Chg d P a)(M:LM):Sq d (cjM d P a M):=h.p.mul.mul
theorem Tv{d:Nat}(b:d=2\/d=3){P a R c M:LM}(h:Chg d P a)(g:Chg d R c)(e:Sq d M):cjM d R c (cjM d P a M)=cjM d (mulM d R P) (mulM d a c) M:=by
 unfold cjM;rw[mul_assoc b g.p h.p e,←mul_assoc b (g.p.mul) h.q g.q,mul_assoc b g.p (h.p.mul) h.q]
theorem Tu{d:Nat}(a:d=2\/d=3){P c M:LM}(h:Chg d P c)(e:Sq d M){v:LI'}(b:v.length=d):mv (cjM d P c M) (mv P v)=mv P (mv M v):=by
 unfold cjM;rw[←cX a (h.p.mul.mul) h.p b,mul_assoc a h.p.mul h.q h.p,h.l,(kR a h.p.mul).2,cX a h.p e b]
def vs(v w:LI'):LI':=List.zipWith (· - ·) v w
theorem vs2(a b c e:Int):vs [a,b] [c,e]=[a-c,b-e]:=rfl
theorem vs3(a b c x y z:Int):vs [a,b,c] [x,y,z]=[a-x,b-y,c-z]:=rfl
theorem Bz{d:Nat}{v w:LI'}(a:v.length=d)(b:w.length=d):(va v w).length=d:=by unfold va;rw[yA,a,b,rX]
theorem Ha{d:Nat}{v w:LI'}(a:v.length=d)(b:w.length=d):(vs v w).length=d:=by unfold vs;rw[yA,a,b,rX]
theorem Tt{d:Nat}(j:d=2\/d=3){A:LM}(f:Sq d A){v w:LI'}(g:v.length=d)(i:w.length=d):mv A (vs v w)=vs (mv A v) (mv A w):=by
 rcases j with rfl|rfl
 ·obtain⟨a,b,c,e,rfl⟩:=sq2 f;obtain⟨x,y,rfl⟩:=v2 g;obtain⟨p,q,rfl⟩:=v2 i;rw[vs2,mv2,mv2,mv2,vs2];congr 1
  ·grind
  ·congr 1;grind
 ·obtain⟨a,b,c,k,n,m,o,u,l,rfl⟩:=sq3 f;obtain⟨x,y,z,rfl⟩:=v3 g;obtain⟨p,q,r,rfl⟩:=v3 i;rw[vs3,mv3,mv3,mv3,vs3];congr 1
  ·grind
  ·congr 1
   ·grind
   ·congr 1;grind
def cjT(d:Nat)(P P' M:LM)(ts S:LI'):LI':=vs (va (mv P ts) S) (mv (cjM d P P' M) S)
theorem Iz{d:Nat}{P b M:LM}(h:Chg d P b){ts a:LI'}(c:a.length=d):(cjT d P b M ts a).length=d:=Ha (Bz (nY h.p) c) (nY h.p.mul.mul)
theorem Iy{d:Nat}(a:d=2\/d=3){P c A B:LM}(h:Chg d P c)(b:Sq d A)(e:Sq d B):mulM d (cjM d P c B) (cjM d P c A)=cjM d P c (mulM d B A):=by
 unfold cjM;rw[mul_assoc a h.p.mul h.q h.p.mul.mul,mul_assoc a h.p b h.q,←mul_assoc a h.q h.p b.mul,h.l,(kR a b.mul).1,←mul_assoc a h.p.mul b h.q,mul_assoc a h.p e b]
def stE(i j:Nat)(m:Int)(a b:Nat):Int:=if a=b then 1 else if a=i/\b=j then m else 0
def stM(d i j:Nat)(m:Int):LM:=(List.range d).map λa=>(List.range d).map λb=>if a=b then 1 else if a=i/\b=j then m else 0
def vst(i j:Nat)(m:Int)(v:LI'):LI':=v.set i (v.getD i 0+m*v.getD j 0)
def mixR(d:Nat)(x y:LI')(m:Int):LI':=(List.range d).map λk=>x.getD k 0+m*y.getD k 0
def colR(d i j:Nat)(m:Int)(row:LI'):LI':=(List.range d).map λk=>row.getD k 0-(if k=j then 1 else 0)*m*row.getD i 0
def eY(d i j:Nat)(m:Int)(A:LM):LM:=(A.set i (mixR d (A.getD i []) (A.getD j []) m)).map (colR d i j m)
theorem fB{d i j:Nat}{m:Int}:Sq d (stM d i j m):=⟨by simp[stM],λr hr=>by
 obtain⟨a,_,rfl⟩:=pI.mp hr;simp⟩
theorem By{a:Type}{d k:Nat}{f:Nat->a}{z:a}(h:k<d):((List.range d).map f).getD k z=f k:=by
 rw[zqc,zD,yB h];rfl
theorem eZ{a:Type}{d:Nat}{l:List a}{z:a}(h:l.length=d):l=(List.range d).map λk=>l.getD k z:=by
 refine xQ (by simp[h]) λk b c=>?_;rw[xU,vV,zqc,zqd b];rfl
theorem Ix{b:Type}{d i:Nat}{f:Nat->b}{v:b}:((List.range d).map f).set i v=(List.range d).map λa=>if a=i then v else f a:=by
 refine xQ (by simp) λk c g=>?_;rw[xU,vV,List.getElem_set]
 by_cases e:i=k
 ·rw[zG e,zG e.symm]
 ·rw[zE e,zE (zS e),xU,vV]
theorem kU{b:Type}{d:Nat}{f g:Nat->b}(h:∀k,k<d->f k=g k):(List.range d).map f=(List.range d).map g:=yJ λk a=>h k (pH.mp a)
theorem fC{x y:Int}{r c:LI'}:dotI (x:: r) (y:: c)=x*y+dotI r c:=by simp[dotI]
theorem Bx{n:Int}{a:Nat}:∀{c:LI'}{s:Nat},dotI ((List.range' s c.length).map λb=>if a=b then n else 0) c=if s<=a then n*c.getD (a-s) 0 else 0
 |[],s=>by simp[dotI]
 | x:: c,s=>by
  rw[zX,List.range'_succ,zH,fC,Bx]
  by_cases h:a=s
  ·subst h;rw[zG rfl,zE ⋯,zG (zF _),Nat.sub_self,wI];rfl
  ·rw[zE h,vJ,uX]
   by_cases d:s<=a
   ·rw[zG d,zG ⋯,show a-s=(a-(s+1))+1 by omega];rfl
   ·rw[zE d,zE ⋯]
theorem Iw{f g:Nat->Int}:∀{l:List Nat}{c:LI'},dotI (l.map λb=>f b+g b) c=dotI (l.map f) c+dotI (l.map g) c
 |[],c=>by simp[dotI]
 |b:: l,[]=>by simp[dotI]
 |b:: l,x:: c=>by
  rw[zH,zH,zH,fC,fC,fC,Iw,Int.add_mul];omega
theorem Bw{d a i j:Nat}(n:i≠j){m:Int}{c:LI'}(l:c.length=d):dotI ((List.range d).map (stE i j m a)) c=c.getD a 0+if a=i then m*c.getD j 0 else 0:=by
 have e:stE i j m a=λb=>(if a=b then(1:Int) else 0)+if j=b then(if a=i then m else 0) else 0:=funext λb=>by
  unfold stE
  by_cases k:a=b
  ·subst k;rw[zG rfl,zG rfl]
   by_cases f:j=a
   ·rw[zG f,zE (λz=>n ⋯),wI]
   ·rw[zE f,wI]
  ·rw[zE k,zE k,uX]
   by_cases f:j=b
   ·by_cases g:a=i
    ·rw[zG ⟨g,f.symm⟩,zG f,zG g]
    ·rw[zE (λz=>g z.1),zG f,zE g]
   ·rw[zE (λz=>f z.2.symm),zE f]
 subst l;rw[e,Iw,List.range_eq_range',Bx,Bx,zG (yD _),zG (yD _),uO];show c.getD a 0+_*c.getD j 0=_
 by_cases h:a=i
 ·rw[zG h,zG h]
 ·rw[zE h,zE h,vJ]
theorem Iv{A:LM}{a k:Nat}:(colI k A).getD a 0=(A.getD a []).getD k 0:=by
 unfold colI;rw[zqc,zD,zqc (l:=A)];cases A[a]? <;> rfl
theorem Iu:∀{r c:LI'},dotI r c=dotI c r
 |[],c=>by cases c <;> rfl
 |x:: r,[]=>rfl
 |x:: r,y:: c=>by rw[fC,fC,Iu,xT]
theorem Ts{i j a k:Nat}{n:Int}:stE i j n a k=stE j i n k a:=by
 unfold stE
 by_cases h:a=k
 ·rw[zG h,zG h.symm]
 ·rw[zE h,zE (zS h)]
  by_cases z:a=i/\k=j
  ·rw[zG z,zG z.symm]
  ·rw[zE z,zE (λw=>z w.symm)]
theorem Ir{d i j:Nat}{m:Int}(c:i≠j){A:LM}(e:A.length=d):mulM d (stM d i j m) A=(List.range d).map λa=>(List.range d).map λk=>(A.getD a []).getD k 0+if a=i then m*(A.getD j []).getD k 0 else 0:=by
 unfold mulM stM;rw[yW];refine kU λa _=>kU λk _=>?_;have b:(colI k A).length=d:=by unfold colI;rw[zqe,e]
 have:=Bw (a:=a) (m:=m) c b;rw[Iv,Iv]at this;exact this
theorem Tr{d i j:Nat}{n:Int}(f:i≠j){B:LM}(c:∀r∈B,r.length=d):mulM d B (stM d i j n)=B.map λr=>(List.range d).map λk=>r.getD k 0+if k=j then n*r.getD i 0 else 0:=by
 unfold mulM;refine yJ λr hr=>kU λk b=>?_;have e:colI k (stM d i j n)=(List.range d).map (stE j i n k):=by
  unfold colI stM;rw[yW];refine kU λa _=>?_;show((List.range d).map (stE i j n a)).getD k 0=_;rw[By b,Ts]
 rw[e,Iu,Bw (zS f) (c r hr)]
theorem Iq{d i j:Nat}{m:Int}(n:i≠j)(l:j<d):mulM d (stM d i j m) (stM d i j (-m))=idM d:=by
 rw[Ir n fB.1];unfold idM;refine kU λa g=>kU λk o=>?_;have e:∀a,a<d->(((stM d i j (-m)).getD a []).getD k 0)=stE i j (-m) a k:=λa g=>by
  unfold stM;rw[By g];exact By o
 rw[e a g,e j l];unfold stE
 by_cases f:a=k
 ·rw[zG f,zG f]
  by_cases b:a=i
  ·rw[zG b,zE ⋯,zE ⋯,qM,wI]
  ·rw[zE b,wI]
 ·rw[zE f,zE f]
  by_cases b:a=i
  ·rw[zG b]
   by_cases c:k=j
   ·rw[zG ⟨b,c⟩,zG c.symm,vD,Int.add_left_neg]
   ·rw[zE (λz=>c z.2),zE (zS c),zE (λz=>c z.2),qM,wI]
  ·rw[zE (λz=>b z.1),zE b,wI]
theorem Bv{d i j:Nat}{m:Int}(n:d=2\/d=3)(hi:i<d)(g:j<d)(c:i≠j):Chg d (stM d i j m) (stM d i j (-m))/\(∀v:LI',v.length=d->mv (stM d i j m) v=vst i j m v)/\∀A,Sq d A->eY d i j m A=cjM d (stM d i j m) (stM d i j (-m)) A:=by
 refine⟨⟨fB,fB,?_,Iq c g⟩,λv f=>?_,λA b=>?_⟩
 ·have:=Iq (d:=d) (m:=-m) c g;rw[qT]at this;exact this
 ·unfold mv stM vst;rw[yW]
  conv=>rhs;rw[eZ (z:=0) f,Ix,←eZ f]
  refine kU λa _=>?_;show dotI ((List.range d).map (stE i j m a)) v=_;rw[Bw c f]
  by_cases h:a=i
  ·rw[zG h,zG h,h]
  ·rw[zE h,zE h,wI]
 ·unfold cjM;rw[Tr c fB.mul.2,Ir c b.1];unfold eY;have e:A.set i (mixR d (A.getD i []) (A.getD j []) m)=(List.range d).map λa=>(List.range d).map λk=>(A.getD a []).getD k 0+if a=i then m*(A.getD j []).getD k 0 else 0:=by
   conv=>lhs;rw[eZ (l:=A) (z:=[]) b.1,Ix,←eZ b.1]
   refine kU λa l=>?_
   by_cases h:a=i
   ·rw[zG h];unfold mixR;refine kU λk _=>?_;rw[zG h,h]
   ·rw[zE h];have hr:(A.getD a []).length=d:=b.2 _ (by rw[zqc,zqd (by rw[b.1];exact l)];exact wA _)
    conv=>lhs;rw[eZ (z:=0) hr]
    exact kU λk _=>by rw[zE h,wI]
  rw[e];refine yJ λr _=>kU λk _=>?_
  by_cases h:k=j
  ·rw[zG h,zG h,uO,qR,Int.sub_eq_add_neg]
  ·rw[zE h,zE h,vJ,vJ,Int.sub_zero,wI]
structure Stp where
 i:Nat
 j:Nat
 m:Int
structure Stp.Ok(d:Nat)(s:Stp):Prop where
 hi:s.i<d
 hj:s.j<d
 ne:s.i≠s.j
 m2:s.m.natAbs<=2
def chP(d:Nat):List Stp->LM
 |[]=>idM d
 |s:: L=>mulM d (stM d s.i s.j s.m) (chP d L)
def chQ(d:Nat):List Stp->LM
 |[]=>idM d
 |s:: L=>mulM d (chQ d L) (stM d s.i s.j (-s.m))
theorem Tq{d:Nat}(a:d=2\/d=3){A:LM}(b:Sq d A){v:LI'}(c:v.length=d):cjM d (chP d []) (chQ d []) A=A/\mv (chP d []) v=v:=by
 refine⟨?_,Hd a c⟩;unfold chP chQ cjM;rw[(kR a b).1,(kR a b).2]
def LeM(N:Nat)(A:LM):Prop:=∀r∈A,∀z∈r,z.natAbs<=N
theorem Ip{d i j:Nat}{m:Int}{N:Nat}(h:m.natAbs<=N)(e:1<=N):LeM N (stM d i j m):=λr hr z c=>by
 obtain⟨a,_,rfl⟩:=pI.mp hr;obtain⟨b,_,rfl⟩:=pI.mp c;split
 ·exact e
 ·split
  ·exact h
  ·omega
theorem Bu{A B:Nat}:∀(r ns:LI'),(∀z∈r,z.natAbs<=A)->(∀z∈ns,z.natAbs<=B)->(dotI r ns).natAbs<=r.length*(A*B)
 |[],ns,_,_=>by simp[dotI]
 |_:: _,[],_,_=>by simp[dotI]
 |a:: r,b:: ns,d,e=>by
  have g:=Bu r ns (λz c=>d z (zM _ c)) λz c=>e z (zM _ c);unfold dotI at g ⊢;rw[yK,List.sum_cons,zX,rR];have e1:(a*b).natAbs<=A*B:=by rw[xD];exact uF (d a zQ) (e b zQ)
  have j:=tH (a*b) (List.zipWith (λf i=>f*i) r ns).sum;omega
theorem Tp{N:Nat}{A:LM}(h:LeM N A)(k:Nat):∀z∈colI k A,z.natAbs<=N:=λz a=>by
 unfold colI at a;obtain⟨r,hr,rfl⟩:=pI.mp a;rw[zqc];cases e:r[k]? with
 |none=>exact yD _
 |some y=>exact h r hr y (zqb e)
theorem cY{d A B:Nat}{M N:LM}(b:Sq d M)(c:LeM A M)(e:LeM B N):LeM (d*(A*B)) (mulM d M N):=λr hr z f=>by
 obtain⟨x,a,rfl⟩:=pI.mp hr;obtain⟨k,_,rfl⟩:=pI.mp f;have:=Bu x (colI k N) (c x a) (Tp e k);rw[b.2 x a]at this;exact this
theorem Io{c:Int}:∀{r v:LI'},dotI r (smul c v)=c*dotI r v
 |[],v=>by simp[dotI]
 |_:: _,[]=>by simp[dotI,smul]
 |a:: r,x:: v=>by
  have:=Io (c:=c) (r:=r) (v:=v);unfold dotI smul at this ⊢;simp only[List.map_cons,List.zipWith_cons_cons,List.sum_cons];rw[this];grind
def canD(M:LM)(ts:LI')(U:Int):Dd:=(M,nK (redU U ts) (redT U ts),redU U ts)
theorem Im{M:LM}{ts b:LI'}{U:Int}(c:0<U)(h:Cong U ts b):canD M ts U=canD M b U:=by
 obtain⟨a,d⟩:=h.red c;unfold canD;rw[a,←a,d,a]
theorem cZ{U:Int}{ts:LI'}(a:0<U):cs U ts=gl U ts/\0<cs U ts:=by
 have:=Ah ts (show U≠0 by omega);unfold cs;rw[zE ⋯];exact⟨rfl,this⟩
theorem Il{U:Int}{ts:LI'}(d:0<U):∃c,0<c/\ts=smul c (redT U ts)/\U=c*redU U ts/\0<redU U ts:=by
 obtain⟨e,b⟩:=cZ (ts:=ts) d;refine⟨cs U ts,b,?_,?_,Ag ts ⋯⟩
 ·unfold smul redT;rw[yW]
  conv=>lhs;rw[←vX ts]
  refine yJ λt a=>?_;show t=cs U ts*t.fdiv (cs U ts);rw[xT];exact(jG ⋯ (kF (eP a))).symm
 ·rw[xT];exact(jG ⋯ (kF (gl_u U ts))).symm
theorem Bt{a b:Int}{v:LI'}:smul a (smul b v)=smul (a*b) v:=by
 unfold smul;rw[yW];exact yJ λt _=>by show a*(b*t)=_;rw[rF]
theorem To{U k:Int}{ts:LI'}(b:0<U)(a:0<k):redT (k*U) (smul k ts)=redT U ts/\redU (k*U) (smul k ts)=redU U ts:=by
 have d:0<k*U:=xC a b;have c:cs (k*U) (smul k ts)=k*cs U ts:=by
  rw[(cZ d).1,(cZ b).1,xT k U,xT k (gl U ts),←Ty a];unfold smul;congr 1;exact yJ λt _=>xT k t
 have e:=(cZ (ts:=ts) b).2;refine⟨?_,?_⟩
 ·unfold redT;rw[c];unfold smul;rw[yW];exact yJ λt f=>by
   show(k*t).fdiv (k*cs U ts)=_;exact Int.mul_fdiv_mul_of_pos _ _ a
 ·unfold redU;rw[c];exact Int.mul_fdiv_mul_of_pos _ _ a
theorem bA{M:LM}{U k:Int}{ts:LI'}(c:0<U)(a:0<k):canD M (smul k ts) (k*U)=canD M ts U:=by
 obtain⟨b,d⟩:=To (ts:=ts) c a;unfold canD;rw[b,d]
theorem Tn{N:LM}{ns ts:LI'}{c e u v:Int}:movT N (smul e ns) (e*v) (smul c ts) (c*u)=smul (e*c) (movT N ns v ts u):=by
 unfold movT
 induction N generalizing ns with
 |nil=>rfl
 | cons r N b =>
  cases ns with
  |nil=>rfl
  |cons n ns =>
   have:=b (ns:=ns);unfold smul at this ⊢;rw[zH,yK,yK,zH,this];have a:=Io (c:=c) (r:=r) (v:=ts);unfold smul at a;rw[a];congr 1;grind
theorem iK{d:Nat}{M N:LM}{ts ns:LI'}{U V:Int}(j:0<U)(m:0<V):oE d (canD M ts U) (canD N ns V)=canD (mulM d N M) (movT N ns V ts U) (V*U):=by
 obtain⟨c,i,e1,f,a⟩:=Il (ts:=ts) j;obtain⟨e,l,k,g,b⟩:=Il (ts:=ns) m;have k1:canD (mulM d N M) (movT N ns V ts U) (V*U)=canD (mulM d N M) (movT N (redT V ns) (redU V ns) (redT U ts) (redU U ts)) (redU V ns*redU U ts):=by
  have hh:V*U=(e*c)*(redU V ns*redU U ts):=by
   conv=>lhs;rw[f,g]
   grind
  have n:movT N ns V ts U=smul (e*c) (movT N (redT V ns) (redU V ns) (redT U ts) (redU U ts)):=by
   rw[←Tn,←e1,←f,←k,←g]
  rw[hh,n,bA (xC b a) (xC l i)]
 rw[k1];exact Im (xC b a) (Tw (Cong.rest b _) (Cong.rest a _)) |>.symm
def frD(d:Nat)(P P':LM)(s:LI')(su p:Int)(R:LM)(t:LI'):Dd:=canD (cjM d P P' R) (cjT d P P' R (smul su t) (smul p s)) (p*su)
theorem Tm{d:Nat}(u:d=2\/d=3){A B C D g:LI'}(l:A.length=d)(k:B.length=d)(j:C.length=d)(m:D.length=d)(i:g.length=d):va (vs (va A B) C) (vs (va D g) B)=vs (va (va A D) g) C:=by
 rcases u with rfl|rfl
 ·obtain⟨a,n,rfl⟩:=v2 l;obtain⟨b,p,rfl⟩:=v2 k;obtain⟨c,o,rfl⟩:=v2 j;obtain⟨e,r,rfl⟩:=v2 m;obtain⟨f,q,rfl⟩:=v2 i;simp only[va2,vs2,List.cons.injEq,and_true];omega
 ·obtain⟨a,n,y,rfl⟩:=v3 l;obtain⟨b,p,b2,rfl⟩:=v3 k;obtain⟨c,o,z,rfl⟩:=v3 j;obtain⟨e,r,v,rfl⟩:=v3 m;obtain⟨f,q,x,rfl⟩:=v3 i;simp only[va3,vs3,List.cons.injEq,and_true];omega
theorem Tl{N:LM}{ns ts:LI'}{U:Int}:movT N ns U ts U=smul U (va (mv N ts) ns):=by
 unfold movT va mv
 induction N generalizing ns with
 |nil=>rfl
 | cons r N a =>
  cases ns with
  |nil=>rfl
  |cons n ns =>
   have:=a (ns:=ns);unfold smul at this ⊢;rw[yK,zH,yK,zH,this];congr 1;grind
theorem Bs{c:Int}:∀{v w:LI'},smul c (va v w)=va (smul c v) (smul c w)
 |[],_=>by simp[smul,va]
 |_:: _,[]=>by simp[smul,va]
 |a:: v,b:: w=>by
  have:=Bs (c:=c) (v:=v) (w:=w);unfold smul va at this ⊢;simp only[List.map_cons,List.zipWith_cons_cons];rw[this,Int.mul_add]
theorem fr_step{d:Nat}(a:d=2\/d=3){P g:LM}(h:Chg d P g){s:LI'}(n:s.length=d){su p:Int}(q:0<su)(u:0<p){f R2:LM}(l:Sq d f)(b:Sq d R2){j k:LI'}(l1:j.length=d)(l2:k.length=d):
  oE d (frD d P g s su p f j) (frD d P g s su p R2 k)=frD d P g s su p (mulM d R2 f) (va (mv R2 j) k):=by
 have i:0<p*su:=xC u q;have e:(smul p s).length=d:=by rw[mP];exact n
 have r:(smul su j).length=d:=by rw[mP];exact l1
 have o:(smul su k).length=d:=by rw[mP];exact l2
 have m:=kS h f;have c:=kS h R2;unfold frD;rw[iK i i,Tl,bA i i,Iy a h l b];congr 1;unfold cjT;rw[Tt a c (Bz (nY h.p) e) (nY m),He a c (nY h.p) e,Tu a h b r,Tm a (nY h.p) (nY c) (nY c) (nY h.p) e,←cX a c m e,Iy a h l b,Bs,He a h.p (by rw[mP];exact nY b) o,gH a b l1]
theorem Tk{u:Int}{a e b f:LI'}(g:Cong u a e)(l:Cong u b f):Cong u (va a b) (va e f):=by
 refine⟨by unfold va;rw[yA,yA,g.1,l.1],λi x y c d=>?_⟩;unfold va at c d;rw[yX]at c d;cases ea:a[i]? <;> cases eb:b[i]? <;> simp[ea,eb]at c;cases ea':e[i]? <;> cases eb':f[i]? <;> simp[ea',eb']at d;rename_i p q j k;have m:=g.2 i _ _ ea ea';have n:=l.2 i _ _ eb eb';rw[←c,←d,show p+q-(j+k)=(p-j)+(q-k) by omega];exact qP m n
theorem Tj{u:Int}{a e b f:LI'}(g:Cong u a e)(l:Cong u b f):Cong u (vs a b) (vs e f):=by
 refine⟨by unfold vs;rw[yA,yA,g.1,l.1],λi x y c d=>?_⟩;unfold vs at c d;rw[yX]at c d;cases ea:a[i]? <;> cases eb:b[i]? <;> simp[ea,eb]at c;cases ea':e[i]? <;> cases eb':f[i]? <;> simp[ea',eb']at d;rename_i p q j k;have m:=g.2 i _ _ ea ea';have n:=l.2 i _ _ eb eb';rw[←c,←d,show p-q-(j-k)=(p-j)-(q-k) by omega];exact qO m n
theorem Ik{u:Int}(a:LI'):Cong u a a:=⟨rfl,λi x y c b=>by rw[c]at b;cases b;rw[Int.sub_self];exact Int.dvd_zero u⟩
theorem Ti{u:Int}{M:LM}{a d:LI'}(h:Cong u a d):Cong u (mv M a) (mv M d):=by
 refine⟨by unfold mv;rw[zqe,zqe],λi x y b c=>?_⟩;unfold mv at b c;rw[zD]at b c;cases e:M[i]? <;> simp[e]at b c;rw[←b,←c];exact Aa _ _ _ h
theorem Th{u c:Int}{a f:LI'}(h:Cong u a f):Cong (u*c) (smul c a) (smul c f):=by
 refine⟨by rw[mP,mP,h.1],λi x y b d=>?_⟩;unfold smul at b d;rw[zD]at b d;cases e:a[i]? <;> simp[e]at b;cases e':f[i]? <;> simp[e']at d;rw[←b,←d,←qS,xT c];exact qC (h.2 i _ _ e e') (vK c)
theorem Tg{d:Nat}{P a:LM}{s:LI'}{su p:Int}(b:0<su)(c:0<p){R:LM}{t t':LI'}(h:Cong p t t'):frD d P a s su p R t=frD d P a s su p R t':=
 Im (xC c b) (Tj (Tk (Ti (Th h)) (Ik _)) (Ik _))
theorem Br{f:Type}:∀{l L:List f},l.Nodup->(∀x∈l,x∈L)->l.length<=L.length
 |[],L,_,_=>yD _
 | a:: l,L,g,h=>by
  obtain⟨s,t,e⟩:=List.append_of_mem (h a zQ);have d:=sG.mp g;have:=Br (L:=s++t) d.2 λx c=>by
   have b:=h x (zM _ c);rw[e]at b;rcases pA.mp b with b|b
   ·exact xJ _ b
   ·rcases yQ.mp b with rfl|b
    ·exact absurd c d.1
    ·exact yO _ b
  rw[e];simp only[List.length_append,List.length_cons]at this ⊢;omega
theorem Ij{d:Nat}{x:Dd}{w:List Nat}{G:Dd->Prop}:∀(l:List (Dd×Nat))(tb:Tb),(∀k∈l,G (oE d x k.1))->(∀y∈tb,G y.1)->∀y∈l.foldl (nxt d x w) tb,G y.1
 |[],_,_,h=>h
 |k:: l,tb,a,h=>Ij l _ (λb c=>a b (zM _ c)) (Hl h (a k zQ))
theorem Ii{ss:List Dd}{k:Dd×Nat}(h:k∈ss.zipIdx):k.1∈ss/\ss[k.2]?=some k.1:=by
 obtain⟨i,hi⟩:=xP h;rw[sL]at hi;cases e:ss[i]? with
 |none=>rw[e]at hi;cases hi
 |some s =>
  rw[e]at hi;cases hi;exact⟨zqb e,by simpa using e⟩
theorem Tf{d:Nat}{ss:List Dd}{G:Dd->Prop}(a:∀x,G x->∀s∈ss,G (oE d x s)){tb:Tb}{i:Nat}(h:∀y∈tb,G y.1):∀y∈lV d ss tb i,G y.1:=by
 unfold lV;cases e:tb[i]? with
 |none=>exact h
 |some c=>exact Ij _ _ (λk b=>a _ (h _ (zqb e)) _ (Ii b).1) h
theorem Ih{d:Nat}{ss:List Dd}{G:Dd->Prop}(a:∀x,G x->∀s∈ss,G (oE d x s)):∀(n i:Nat)(tb:Tb),(∀y∈tb,G y.1)->∀y∈oR d ss n i tb,G y.1
 |0,_,_,h=>h
 |n+1,i,tb,h=>by
  unfold oR;split
  ·exact Ih a n (i+1) _ (Tf a h)
  ·exact h
theorem Td{d:Nat}{ss:List Dd}{tb:Tb}{i:Nat}(h:(tb.map (·.1)).Nodup):((lV d ss tb i).map (·.1)).Nodup:=by
 unfold lV;split
 ·exact h
 ·exact Hm _ _ h
theorem Ig{d:Nat}{ss:List Dd}:∀(n i:Nat)(tb:Tb),(tb.map (·.1)).Nodup->((oR d ss n i tb).map (·.1)).Nodup
 |0,_,_,h=>h
 |n+1,i,tb,h=>by
  unfold oR;split
  ·exact Ig n (i+1) _ (Td h)
  ·exact h
abbrev tab(d:Nat)(ss:List Dd)(N:Nat):Tb:=oR d ss N 0 [(oH d,[])]
theorem fD{d:Nat}{ss:List Dd}{N:Nat}:((tab d ss N).map (·.1)).Nodup:=Ig N 0 _ (by simp)
theorem bB{d:Nat}{ss:List Dd}{N:Nat}{G:Dd->Prop}(c:G (oH d))(b:∀x,G x->∀s∈ss,G (oE d x s)):∀y∈tab d ss N,G y.1:=Ih b N 0 _ λy a=>by rw[qX.mp a];exact c
theorem Tc{d:Nat}{ss:List Dd}{N:Nat}{G:Dd->Prop}{L:List Dd}(b:G (oH d))(c:∀x,G x->∀s∈ss,G (oE d x s))(e:∀x,G x->x∈L):(tab d ss N).length<=L.length:=by
 rw[←zqe (f:=(·.1))];exact Br fD λx f=>by
  obtain⟨y,a,rfl⟩:=pI.mp f;exact e _ (bB b c y a)
theorem Ie{d:Nat}{x:Dd}{w:List Nat}:∀(l:List (Dd×Nat))(tb:Tb),∀k∈l,oE d x k.1∈(l.foldl (nxt d x w) tb).map (·.1)
 | k:: l,tb,a,b=>by
  rw[wG];rcases yQ.mp b with rfl|b
  ·have h:oE d x a.1∈(nxt d x w tb a).map (·.1):=by
    unfold nxt;split
    ·assumption
    ·simp
   obtain⟨r,e⟩:=eX d x w l (nxt d x w tb a);rw[e,xK];exact xJ _ h
  ·exact Ie l _ a b
theorem Ta{d:Nat}{ss:List Dd}{tb:Tb}{i:Nat}{a:Dd×List Nat}(e:tb[i]?=some a){s:Dd}(b:s∈ss):oE d a.1 s∈(lV d ss tb i).map (·.1):=by
 unfold lV;rw[e];obtain⟨j,c⟩:=xP b;exact Ie ss.zipIdx tb (s,j) (zqb (i:=j) (by rw[sL,c];simp))
theorem Ic{d:Nat}{ss:List Dd}:∀(n i:Nat)(tb:Tb),(∀j,j<i->∀a,tb[j]?=some a->∀s∈ss,oE d a.1 s∈tb.map (·.1))->(oR d ss n i tb).length<=n+i->∀a∈oR d ss n i tb,∀s∈ss,oE d a.1 s∈(oR d ss n i tb).map (·.1)
 |0,i,tb,h,hl=>λa g s c=>by
  obtain⟨j,b⟩:=xP g;have:=(zqa b).1;unfold oR at hl this b ⊢;exact h j ⋯ _ b s c
 | n+1,i,tb,h,hl=>by
  unfold oR at hl ⊢;split
  ·next q =>
   rw[zG q]at hl;obtain⟨r,f⟩:=Hr d ss tb i;refine Ic n (i+1) _ (λj b a e s c=>?_) ⋯;rcases sH j i with l|l
   ·rw[f,yV ⋯]at e;rw[f,xK];exact xJ _ (h j l a e s c)
   ·have:j=i:=⋯
    subst this;rw[f,yV ⋯]at e;exact Ta e c
  ·next q =>
   intro a g s c;obtain⟨j,b⟩:=xP g;have:=(zqa b).1;exact h j ⋯ _ b s c
theorem Bq{d:Nat}{ss:List Dd}{N:Nat}(h:(tab d ss N).length<=N):∀a∈tab d ss N,∀s∈ss,oE d a.1 s∈(tab d ss N).map (·.1):=Ic N 0 _ (λj b=>absurd b (rZ j)) h
theorem fE{d:Nat}{ss:List Dd}{N:Nat}:(oH d,[])∈tab d ss N:=by
 obtain⟨r,e⟩:=cU d ss N 0 [(oH d,[])];unfold tab;rw[e];simp
def bD(d:Nat)(ss:List Dd)(w:List Nat):Dd:=w.foldl (λx k=>oE d x (ss.getD k (oH d))) (oH d)
def WdOk(d:Nat)(ss:List Dd)(y:Dd×List Nat):Prop:=y.1=bD d ss y.2/\∀k∈y.2,k<ss.length
theorem Ib{d:Nat}{ss:List Dd}{x:Dd}{w:List Nat}(c:WdOk d ss (x,w)):∀(l:List (Dd×Nat))(tb:Tb),(∀k∈l,ss[k.2]?=some k.1)->(∀y∈tb,WdOk d ss y)->∀y∈l.foldl (nxt d x w) tb,WdOk d ss y
 |[],_,_,h=>h
 | k :: l,tb,hl,h=>by
  refine Ib c l _ (λf g=>hl f (zM _ g)) λy a=>?_;unfold nxt at a;split at a
  ·exact h y a
  ·rcases pA.mp a with a|a
   ·exact h y a
   ·rw[qX.mp a];have e:=hl k zQ;refine⟨?_,λj b=>?_⟩
    ·show oE d x k.1=bD d ss (w++[k.2]);unfold bD;rw[tG,wG,List.foldl_nil];show _=oE d (bD d ss w) _;rw[←c.1,zqc,e];rfl
    ·rcases pA.mp b with b|b
     ·exact c.2 j b
     ·rw[qX.mp b];exact(zqa e).1
theorem Ia{d:Nat}{ss:List Dd}:∀(n i:Nat)(tb:Tb),(∀y∈tb,WdOk d ss y)->∀y∈oR d ss n i tb,WdOk d ss y
 |0,_,_,h=>h
 | n+1,i,tb,h=>by
  unfold oR;split
  ·refine Ia n (i+1) _ ?_;unfold lV;cases e:tb[i]? with
   |none=>exact h
   |some b=>exact Ib (h _ (zqb e)) _ _ (λk a=>(Ii a).2) h
  ·exact h
theorem Uz{d:Nat}{ss:List Dd}{N:Nat}:∀y∈tab d ss N,WdOk d ss y:=Ia N 0 _ λy a=>by rw[qX.mp a];exact⟨rfl,λk b=>by cases b⟩
theorem fms(x y:Int)(h:0<y):0<=x.fmod y/\x.fmod y<y:=⟨tP x h,rB x h⟩
theorem kA.le{B C:Nat}{ts:LI'}(h:kA B ts)(a:B<=C):kA C ts:=λx b=>zI (h x b) (yC ∅ a)
theorem Bp{d:Nat}{c:Int}:smul c (List.replicate d 0)=List.replicate d 0:=by
 unfold smul;rw[List.map_replicate,qM]
theorem Bo{d:Nat}(a:d=2\/d=3){M:LM}{U:Int}(b:0<U):canD M (List.replicate d 0) U=(M,List.replicate d 0,1):=by
 have h:=bA (M:=M) (ts:=List.replicate d 0) (U:=1) (k:=U) ⋯ b;rw[Bp,vD]at h;rw[h];have:nK (redU 1 (List.replicate d 0)) (redT 1 (List.replicate d 0))=List.replicate d 0/\redU 1 (List.replicate d 0)=1:=by
  rcases a with rfl|rfl <;> decide +kernel
 unfold canD;rw[this.1,this.2]
theorem Uy{d:Nat}(a:d=2\/d=3){P e:LM}(h:Chg d P e){s:LI'}(g:s.length=d){su p:Int}(i:0<su)(l:0<p):frD d P e s su p (idM d) (List.replicate d 0)=oH d:=by
 have c:(smul p s).length=d:=by rw[mP];exact g
 have e1:cjM d P e (idM d)=idM d:=by
  unfold cjM;rw[(kR a h.p).2,h.r]
 unfold frD cjT;rw[e1,Bp,Hd a c];have f:vs (va (mv P (List.replicate d 0)) (smul p s)) (smul p s)=List.replicate d 0:=by
  have j:mv P (List.replicate d 0)=List.replicate d 0:=by
   have:=gH a h.p (v:=List.replicate d 0) (by simp) 0;rw[Bp]at this;rw[this];unfold smul;refine List.eq_replicate_iff.mpr ⟨by rw[zqe,nY h.p],λb k=>?_⟩;obtain⟨z,_,rfl⟩:=pI.mp k;exact vJ z
  rw[j];generalize smul p s=m at c ⊢;rcases a with rfl|rfl
  ·obtain⟨x,y,rfl⟩:=v2 c;simp[va,vs,List.replicate]
  ·obtain⟨x,y,z,rfl⟩:=v3 c;simp[va,vs,List.replicate]
 rw[f,Bo a (xC l i)];rfl
def Rs(d:Nat)(x:Dd):Prop:=∃M ts U,Sq d M/\ts.length=d/\0<U/\x=canD M ts U
theorem Ux{d:Nat}{N:LM}{ns ts:LI'}{u v:Int}(a:Sq d N)(b:ns.length=d):(movT N ns v ts u).length=d:=by
 unfold movT;rw[yA,a.1,b,rX]
theorem Rs.step{d:Nat}{x y:Dd}(g:Rs d x)(e:Rs d y):Rs d (oE d x y):=by
 obtain⟨M,ts,U,i,lt,b,rfl⟩:=g;obtain⟨N,ns,V,a,f,c,rfl⟩:=e;exact⟨_,_,_,a.mul,Ux a f,xC c b,iK b c⟩
theorem Uw{d:Nat}(u:d=2\/d=3){N O:LM}(l:Sq d N)(j:Sq d O){ts ns f:LI'}(lt:ts.length=d)(i:ns.length=d)(k:f.length=d){U V g:Int}:
  movT O f g (movT N ns V ts U) (V*U)=movT (mulM d O N) (movT O f g ns V) (g*V) ts U:=by
 rcases u with rfl|rfl
 ·obtain⟨a,b,c,e,rfl⟩:=sq2 l;obtain⟨v,Y,G,a3,rfl⟩:=sq2 j;obtain⟨o,q,rfl⟩:=v2 lt;obtain⟨n,r,rfl⟩:=v2 i;obtain⟨p,m,rfl⟩:=v2 k;rw[mul2];simp only[movT,dotI,List.zipWith_cons_cons,List.zipWith_nil_left,List.sum_cons,List.sum_nil,List.cons.injEq,and_true];refine⟨?_,?_⟩ <;> grind
 ·obtain⟨a2,R,I,M,D,Z,J,L,W,rfl⟩:=sq3 l;obtain⟨b1,b2,X,F,S,y,a0,T,z,rfl⟩:=sq3 j;obtain⟨o,q,C,rfl⟩:=v3 lt;obtain⟨n,r,x,rfl⟩:=v3 i;obtain⟨p,m,a1,rfl⟩:=v3 k;rw[mul3];simp only[movT,dotI,List.zipWith_cons_cons,List.zipWith_nil_left,List.sum_cons,List.sum_nil,List.cons.injEq,and_true];refine⟨?_,?_,?_⟩ <;> grind
theorem Jz{d:Nat}(g:d=2\/d=3){x y z:Dd}(n:Rs d x)(i:Rs d y)(k:Rs d z):oE d (oE d x y) z=oE d x (oE d y z):=by
 obtain⟨M,ts,U,j,lt,b,rfl⟩:=n;obtain⟨N,ns,V,f,m,a,rfl⟩:=i;obtain⟨O,p,o,e,l,c,rfl⟩:=k;rw[iK b a,iK (xC a b) c,iK a c,iK b (xC c a),mul_assoc g e f j,Uw g f e lt m l,rF]
theorem Uv{d:Nat}(a:d=2\/d=3):Rs d (oH d):=⟨idM d,List.replicate d 0,1,nU,by simp,⋯,(Bo a ⋯).symm⟩
theorem Uu{d:Nat}(a:d=2\/d=3):oH d=canD (idM d) (List.replicate d 0) 1:=(Bo a ⋯).symm
theorem Bn{d:Nat}(k:d=2\/d=3){N:LM}(f:Sq d N){ns:LI'}(g:ns.length=d){V:Int}:movT N ns V (List.replicate d 0) 1=ns/\movT (idM d) (List.replicate d 0) 1 ns V=ns:=by
 rcases k with rfl|rfl
 ·obtain⟨a,b,c,e,rfl⟩:=sq2 f;obtain⟨j,i,rfl⟩:=v2 g;rw[id2];simp[movT,dotI,List.replicate]
 ·obtain⟨v,o,q,n,m,r,u,l,x,rfl⟩:=sq3 f;obtain⟨j,i,p,rfl⟩:=v3 g;rw[id3];simp[movT,dotI,List.replicate]
theorem bE{d:Nat}(a:d=2\/d=3){x:Dd}(e:Rs d x):oE d (oH d) x=x/\oE d x (oH d)=x:=by
 obtain⟨M,ts,U,b,lt,c,rfl⟩:=e;rw[Uu a];refine⟨?_,?_⟩
 ·rw[iK ⋯ c,(Bn a b lt).1,(kR a b).2,vD]
 ·rw[iK c ⋯,(Bn a b lt).2,(kR a b).1,uO]
structure Grp(d:Nat)(T:List Dd):Prop where
 dim:d=2\/d=3
 nd:T.Nodup
 rs:∀x∈T,Rs d x
 one:oH d∈T
 mul:∀x∈T,∀y∈T,oE d x y∈T
 inv:∀x∈T,∃y∈T,oE d x y=oH d/\oE d y x=oH d
theorem Jy{d:Nat}(f:d=2\/d=3){ss T:List Dd}(c:∀x∈T,Rs d x)(b:∀s∈ss,Rs d s)(m:∀x∈T,∀s∈ss,oE d x s∈T){x:Dd}(i:x∈T):∀(w:List Nat),(∀k∈w,k<ss.length)->∀y,Rs d y->oE d x y∈T->oE d x (w.foldl (λx k=>oE d x (ss.getD k (oH d))) y)∈T
 |[],_,y,_,h=>h
 | k:: w,l,y,e,h=>by
  rw[wG];have g:=l k zQ;have a:ss.getD k (oH d)∈ss:=by
   rw[zqc,zqd g];exact wA g
  refine Jy f c b m i w (λj n=>l j (zM _ n)) _ (e.step (b _ a)) ?_;rw[←Jz f (c x i) e (b _ a)];exact m _ h _ a
theorem Ut{c:Type}{l L:List c}(f:l.Nodup)(sub:∀x∈l,x∈L)(hl:L.length<=l.length){a:c}(d:a∈L):a∈l:=by
 refine Classical.byContradiction λe=>?_;have:=Br (l:=a:: l) (L:=L) (sG.mpr ⟨e,f⟩) λx b=>by
  rcases yQ.mp b with rfl|b
  ·exact d
  ·exact sub x b
 rw[zX]at this;omega
theorem Jx{d j:Type}{f:d->j}:∀{l:List d},l.Nodup->(∀x∈l,∀y∈l,f x=f y->x=y)->(l.map f).Nodup
 |[],_,_=>by simp
 |a:: l,m,h=>by
  rw[zH,sG];have c:=sG.mp m;refine⟨λn=>?_,Jx c.2 λx k y i=>h x (zM _ k) y (zM _ i)⟩;obtain⟨b,g,e⟩:=pI.mp n;exact c.1 ((h b (zM _ g) a zQ e) ▸ g)
theorem Bm{U:Int}{ts:LI'}(i:0<U):(∀z∈redT U ts,∃t∈ts,z.natAbs<=t.natAbs)/\0<redU U ts/\redU U ts<=U:=by
 have b:=gC ts (show U≠0 by omega);have g:0<redU U ts:=Ag ts ⋯;refine⟨λz d=>?_,g,?_⟩
 ·unfold redT at d;obtain⟨t,c,rfl⟩:=pI.mp d;refine⟨t,c,?_⟩;have e:t.fdiv (cs U ts)*cs U ts=t:=jG b (kF (eP c));have a:=wE Int.natAbs e;rw[xD]at a;have:1<=(cs U ts).natAbs:=⋯
  rw[←a];exact Nat.le_mul_of_pos_right _ this
 ·have e:redU U ts*cs U ts=U:=jG b (kF (gl_u U ts));have a:=wE Int.natAbs e;rw[xD]at a;have f:1<=(cs U ts).natAbs:=⋯
  have:=Nat.le_mul_of_pos_right (redU U ts).natAbs f;omega
theorem LeM.le{A B:Nat}{M:LM}(h:LeM A M)(b:A<=B):LeM B M:=λr hr z a=>zR (h r hr z a) b
theorem Jw{u:Int}{ns:LI'}:(redT u ns).length=ns.length:=by unfold redT;rw[zqe]
def mnL:Nat->List Dd
 |0=>[]
 |1=>[([[-1,0],[0,-1]],[0,0],1)]
 |2=>[([[-1,0],[0,1]],[0,1],2)]
 |3=>[([[0,1],[1,0]],[0,0],1)]
 |4=>[([[-1,0],[0,-1]],[0,0],1),([[-1,0],[0,1]],[1,0],2)]
 |5=>[([[0,-1],[1,0]],[0,0],1),([[-1,0],[0,1]],[1,1],2)]
 |6=>[([[0,-1],[1,-1]],[0,0],1)]
 |7=>[([[1,-1],[1,0]],[0,0],1),([[0,1],[1,0]],[0,0],1)]
 |8=>[([[1,0],[0,1]],[1,1],2),([[-1,0],[0,1]],[0,0],1)]
 |9=>[([[1,0],[0,1]],[1,2],3),([[0,-1],[1,-1]],[0,0],1)]
 |10=>[([[-1,0],[0,-1]],[0,0],1),([[1,0],[0,1]],[1,0],4)]
 |11=>[([[1,0],[0,1]],[1,2],5)]
 |12=>[([[-1,0,0],[0,-1,0],[0,0,-1]],[0,0,0],1)]
 |13=>[([[-1,0,0],[0,-1,0],[0,0,1]],[0,0,1],2)]
 |14=>[([[1,0,0],[0,1,0],[0,0,1]],[1,1,0],2),([[-1,0,0],[0,1,0],[0,0,1]],[0,0,0],1)]
 |15=>[([[0,0,1],[1,0,0],[0,1,0]],[0,0,0],1),([[-1,0,0],[0,-1,0],[0,0,1]],[0,0,0],1)]
 |16=>[([[1,0,0],[0,1,0],[0,0,1]],[1,1,1],2),([[-1,0,0],[0,-1,0],[0,0,1]],[0,0,0],1)]
 |17=>[([[1,0,0],[0,1,0],[0,0,1]],[0,1,1],2)]
 |18=>[([[0,-1,0],[1,-1,0],[0,0,1]],[0,0,1],3)]
 |_=>[([[0,-1,0],[1,0,0],[0,0,1]],[0,0,1],4)]
def fmD(k:Nat):Nat:=if k<12 then 2 else 3
theorem lG(k:Nat):fmD k=2\/fmD k=3:=by unfold fmD;split <;> simp
def mnP(k:Nat):Nat:=(mnL k).foldl (λp m=>max p m.2.2.toNat) 1
abbrev RT:=LM×LI'
def rtM(d:Nat)(e f:RT):RT:=(mulM d f.1 e.1,va (mv f.1 e.2) f.2)
def rtR(p:Nat)(e:RT):RT:=(e.1,nK p e.2)
def mnG(k:Nat):List RT:=(mnL k).map λm=>(m.1,smul (mnP k/m.2.2.toNat:Nat) m.2.1)
def tbGo(d p:Nat)(gs:List RT):Nat->List RT->List RT
 |0,l=>l
 |n+1,l=>tbGo d p gs n ((l.flatMap λe=>gs.map λg=>rtR p (rtM d e g)).foldl (λacc e=>if acc.contains e then acc else acc++[e]) l)
def tbL(k:Nat):List RT:=tbGo (fmD k) (mnP k) (mnG k) 6 [(idM (fmD k),List.replicate (fmD k) 0)]
def tbOk(k:Nat):Bool:=
 (tbL k).contains (idM (fmD k),List.replicate (fmD k) 0) && (tbL k).all (λe=>(tbL k).all λf=>(tbL k).contains (rtR (mnP k) (rtM (fmD k) e f))) &&
 (tbL k).all (λe=>(tbL k).any λf=>decide (rtR (mnP k) (rtM (fmD k) e f)=(idM (fmD k),List.replicate (fmD k) 0)) && decide (rtR (mnP k) (rtM (fmD k) f e)=(idM (fmD k),List.replicate (fmD k) 0))) &&
 (mnG k).all (λg=>(tbL k).contains (rtR (mnP k) g)) && decide ((tbL k).length<=12) && (tbL k).all (λe=>decide (e.1.length=fmD k) && e.1.all (λr=>decide (r.length=fmD k) && r.all λz=>decide (z.natAbs<=1)) && decide (e.2.length=fmD k)) &&
 (mnL k).all (λm=>decide (m.1.length=fmD k) && m.1.all (λr=>decide (r.length=fmD k) && r.all λz=>decide (z.natAbs<=1)) && decide (m.2.1.length=fmD k) && decide (0<m.2.2) && decide ((mnP k:Int)=(mnP k/m.2.2.toNat:Nat)*m.2.2) && decide (gl m.2.2 m.2.1=1) && m.2.1.all λz=>decide (0<=z/\z<5)) && decide (0<mnP k) && decide (mnP k<=5) && decide ((mnL k).length<=2)
theorem Us:(List.range 20).all tbOk=true:=nofun
structure Tbl(k:Nat):Prop where
 one:(idM (fmD k),List.replicate (fmD k) 0)∈tbL k
 mul:∀e∈tbL k,∀f∈tbL k,rtR (mnP k) (rtM (fmD k) e f)∈tbL k
 inv:∀e∈tbL k,∃f∈tbL k,rtR (mnP k) (rtM (fmD k) e f)=(idM (fmD k),List.replicate (fmD k) 0)/\rtR (mnP k) (rtM (fmD k) f e)=(idM (fmD k),List.replicate (fmD k) 0)
 gen:∀g∈mnG k,rtR (mnP k) g∈tbL k
 len:(tbL k).length<=12
 sq:∀e∈tbL k,Sq (fmD k) e.1/\LeM 1 e.1/\e.2.length=fmD k
 mks:∀m∈mnL k,Sq (fmD k) m.1/\LeM 1 m.1/\m.2.1.length=fmD k/\0<m.2.2/\(mnP k:Int)=(mnP k/m.2.2.toNat:Nat)*m.2.2/\gl m.2.2 m.2.1=1/\∀z∈m.2.1,0<=z/\z<5
 p0:0<mnP k
 p5:mnP k<=5
 l2:(mnL k).length<=2
theorem kB{k:Nat}(u:k<20):Tbl k:=by
 have h:=uJ.mp Us k (pH.mpr u);simp only[tbOk,Bool.and_eq_true,List.all_eq_true,List.any_eq_true,List.contains_iff_mem,decide_eq_true_eq]at h;obtain⟨⟨⟨⟨⟨⟨⟨⟨⟨C,p⟩,g⟩,f⟩,y⟩,a⟩,i⟩,D⟩,q⟩,n⟩:=h;exact⟨C,p,g,f,y,λe b=>⟨⟨(a e b).1.1,λr hr=>((a e b).1.2 r hr).1⟩,λr hr z c=>((a e b).1.2 r hr).2 z c,(a e b).2⟩,λm v=>by
  obtain⟨⟨⟨⟨⟨⟨G,d⟩,l⟩,x⟩,j⟩,F⟩,o⟩:=i m v;exact⟨⟨G,λr hr=>(d r hr).1⟩,λr hr z c=>(d r hr).2 z c,l,x,j,F,o⟩,D,q,n⟩
theorem Jv{c:Int}:∀{v w:LI'},smul c (vs v w)=vs (smul c v) (smul c w)
 |[],_=>by simp[smul,vs]
 |_:: _,[]=>by simp[smul,vs]
 |a:: v,b:: w=>by
  have:=Jv (c:=c) (v:=v) (w:=w);unfold smul vs at this ⊢;simp only[List.map_cons,List.zipWith_cons_cons];rw[this,qS]
structure Frk where
 k:Nat
 P:LM
 P':LM
 s:LI'
 su:Int
structure Frk.Ok(F:Frk):Prop where
 k:F.k<20
 c:Chg (fmD F.k) F.P F.P'
 s:F.s.length=fmD F.k
 su:0<F.su
def Frk.at(F:Frk)(e:RT):Dd:=frD (fmD F.k) F.P F.P' F.s F.su (mnP F.k:Nat) e.1 e.2
def InK(F:Frk)(x:Dd):Prop:=∃e∈tbL F.k,x=F.at e
theorem jT{k:Nat}(a:k<20):(0:Int)<(mnP k:Nat):=by have:=(kB a).p0;omega
theorem Ju{F:Frk}(h:F.Ok)(e:RT):F.at (rtR (mnP F.k) e)=F.at e:=
 (Tg h.su (jT h.k) (Cong.rest (jT h.k) e.2)).symm
theorem Bl{F:Frk}(h:F.Ok){e f:RT}(b:e∈tbL F.k)(a:f∈tbL F.k):oE (fmD F.k) (F.at e) (F.at f)=F.at (rtR (mnP F.k) (rtM (fmD F.k) e f)):=by
 have M:=kB h.k;rw[Ju h];exact fr_step (lG F.k) h.c h.s h.su (jT h.k) (M.sq e b).1 (M.sq f a).1 (M.sq e b).2.2 (M.sq f a).2.2
theorem Bk{F:Frk}(h:F.Ok):F.at (idM (fmD F.k),List.replicate (fmD F.k) 0)=oH (fmD F.k):=Uy (lG F.k) h.c h.s h.su (jT h.k)
theorem Bj{F:Frk}(h:F.Ok){x y:Dd}(d:InK F x)(c:InK F y):InK F (oE (fmD F.k) x y):=by
 obtain⟨e,b,rfl⟩:=d;obtain⟨f,a,rfl⟩:=c;exact⟨_,(kB h.k).mul e b f a,Bl h b a⟩
theorem bF{F:Frk}(h:F.Ok):InK F (oH (fmD F.k)):=⟨_,(kB h.k).one,(Bk h).symm⟩
def Frk.all(F:Frk):List Dd:=(tbL F.k).map F.at
theorem Ur{F:Frk}(h:F.Ok):F.all.length<=12:=by
 unfold Frk.all;rw[zqe];exact(kB h.k).len
theorem Uq{F:Frk}{x:Dd}(a:InK F x):x∈F.all:=by
 obtain⟨e,b,rfl⟩:=a;exact pI.mpr ⟨e,b,rfl⟩
theorem bG{F:Frk}(h:F.Ok){x:Dd}(a:InK F x):Rs (fmD F.k) x:=by
 obtain⟨e,_,rfl⟩:=a;exact⟨_,_,_,kS h.c e.1,Iz h.c (by rw[mP];exact h.s),xC (jT h.k) h.su,rfl⟩
theorem Uo{F:Frk}(h:F.Ok){x:Dd}(d:InK F x):∃y,InK F y/\oE (fmD F.k) x y=oH (fmD F.k)/\oE (fmD F.k) y x=oH (fmD F.k):=by
 obtain⟨e,b,rfl⟩:=d;obtain⟨f,a,e1,c⟩:=(kB h.k).inv e b;exact⟨F.at f,⟨f,a,rfl⟩,by rw[Bl h b a,e1,Bk h],by rw[Bl h a b,c,Bk h]⟩
theorem Um{F:Frk}(h:F.Ok){m:Dd}(f:m∈mnL F.k):InK F (frD (fmD F.k) F.P F.P' F.s F.su m.2.2 m.1 m.2.1):=by
 have M:=kB h.k;obtain⟨_,_,l,b,e,_,_⟩:=M.mks m f;refine⟨rtR (mnP F.k) (m.1,smul (mnP F.k/m.2.2.toNat:Nat) m.2.1),M.gen _ (pI.mpr ⟨m,f,rfl⟩),?_⟩;rw[Ju h];have g:(0:Int)<(mnP F.k/m.2.2.toNat:Nat):=by
  have a:=jT h.k;rw[e]at a;exact tE a b
 show _=frD (fmD F.k) F.P F.P' F.s F.su (mnP F.k:Nat) m.1 (smul (mnP F.k/m.2.2.toNat:Nat) m.2.1);generalize hcc:((mnP F.k/m.2.2.toNat:Nat):Int)=c at*
 rw[e];unfold frD;have k1:c*m.2.2*F.su=c*(m.2.2*F.su):=rF ..;rw[k1,←bA (k:=c) (xC b h.su) g];congr 1;unfold cjT;have d:=lG F.k;have l1:(smul F.su m.2.1).length=fmD F.k:=by rw[mP];exact l
 have l2:(smul m.2.2 F.s).length=fmD F.k:=by rw[mP];exact h.s
 rw[Jv,Bs,←gH d h.c.p l1,←gH d (kS h.c m.1) l2,Bt,Bt,Bt,xT c F.su]
theorem fF{F:Frk}(h:F.Ok){ss:List Dd}(c:∀s∈ss,InK F s)(N:Nat):(tab (fmD F.k) ss N).length<=12/\∀y∈tab (fmD F.k) ss N,InK F y.1 :=
 ⟨zR (Tc (bF h) (λx a s b=>Bj h a (c s b)) (λx a=>Uq a)) (Ur h),bB (bF h) λx a s b=>Bj h a (c s b)⟩
theorem Ul{F:Frk}(h:F.Ok){ss:List Dd}(o:∀s∈ss,InK F s){N:Nat}(I:12<=N):Grp (fmD F.k) ((tab (fmD F.k) ss N).map (·.1)):=by
 obtain⟨J,u⟩:=fF h o N;have c:=lG F.k;have k:∀x∈(tab (fmD F.k) ss N).map (·.1),InK F x:=λx a=>by
  obtain⟨y,b,rfl⟩:=pI.mp a;exact u y b
 have d:∀x∈(tab (fmD F.k) ss N).map (·.1),Rs (fmD F.k) x:=λx a=>bG h (k x a);have p:∀s∈ss,Rs (fmD F.k) s:=λs j=>bG h (o s j);have r:∀x∈(tab (fmD F.k) ss N).map (·.1),∀s∈ss,oE (fmD F.k) x s∈(tab (fmD F.k) ss N).map (·.1):=λx a s j=>by
  obtain⟨y,b,rfl⟩:=pI.mp a;exact Bq ⋯ y b s j
 have mul:∀x∈(tab (fmD F.k) ss N).map (·.1),∀y∈(tab (fmD F.k) ss N).map (·.1),oE (fmD F.k) x y∈(tab (fmD F.k) ss N).map (·.1):=λx a y b=>by
  obtain⟨z,f,rfl⟩:=pI.mp b;obtain⟨e,v⟩:=Uz z f;rw[e];exact Jy c d p r a z.2 v _ (Uv c) (by rw[(bE c (d x a)).2];exact a)
 have one:oH (fmD F.k)∈(tab (fmD F.k) ss N).map (·.1):=pI.mpr ⟨_,fE,rfl⟩;refine⟨c,fD,d,one,mul,λm i=>?_⟩;obtain⟨n,q,e1,C⟩:=Uo h (k m i);have l:=bG h q;have g:∀x∈(tab (fmD F.k) ss N).map (·.1),oE (fmD F.k) (oE (fmD F.k) x m) n=x:=λx a=>by
  rw[Jz c (d x a) (d m i) l,e1,(bE c (d x a)).2]
 have G:(((tab (fmD F.k) ss N).map (·.1)).map λx=>oE (fmD F.k) x m).Nodup:=Jx fD λx a y b e=>by rw[←g x a,←g y b,e]
 have f:oH (fmD F.k)∈((tab (fmD F.k) ss N).map (·.1)).map λx=>oE (fmD F.k) x m:=Ut G (λz f=>by
  obtain⟨x,a,rfl⟩:=pI.mp f;exact mul x a m i) (tY (zqe ..).symm) one
 obtain⟨y,b,e⟩:=pI.mp f;have D:y=n:=by
  have:=g y b;rw[e,(bE c l).1]at this;exact this.symm
 subst D;exact⟨y,b,e1,C⟩
def shC(i j:Nat)(m:Int)(r:LI'):LI':=r.set j (r.getD j 0+m*r.getD i 0)
def shW(m:Int)(x y:LI'):LI':=List.zipWith (λa b=>a-m*b) x y
def shrR(i j:Nat)(m:Int)(A:LM):LM:=(A.map (shC i j m)).set i (shW m ((A.map (shC i j m)).getD i []) ((A.map (shC i j m)).getD j []))
theorem Uk{d i j:Nat}(o:d=2\/d=3)(hi:i<d)(p:j<d)(q:i≠j){m:Int}{A:LM}(n:Sq d A):shrR i j m A=eY d i j (-m) A:=by
 rcases o with e|e <;> subst e
 ·obtain⟨a,b,c,d,rfl⟩:=sq2 n;rcases(show(i=0/\j=1)\/(i=1/\j=0) by omega) with⟨e1,l⟩|⟨e1,l⟩ <;> subst e1 l <;> simp[shrR,shC,shW,eY,mixR,colR,List.range,List.range.loop] <;> grind
 ·obtain⟨a,b,c,d,e,f,g,h,k,rfl⟩:=sq3 n;rcases(show(i=0/\j=1)\/(i=0/\j=2)\/(i=1/\j=0)\/(i=1/\j=2)\/(i=2/\j=0)\/(i=2/\j=1) by omega) with⟨e1,l⟩|⟨e1,l⟩|⟨e1,l⟩|⟨e1,l⟩|⟨e1,l⟩|⟨e1,l⟩ <;> subst e1 l <;> simp[shrR,shC,shW,eY,mixR,colR,List.range,List.range.loop] <;> grind
structure Stp.Fit(d B:Nat)(s:Stp):Prop where
 hi:s.i<d
 hj:s.j<d
 ne:s.i≠s.j
 mB:s.m.natAbs<=B
theorem kC{d B:Nat}(a:d=2\/d=3):∀{L:List Stp},(∀s∈L,s.Fit d B)->Chg d (chP d L) (chQ d L)
 |[],_=>Chg.id a
 |s:: L,h=>by
  have o:=h s (zQ ..);exact(kC a λz b=>h z (zM _ b)).then a (Bv a o.hi o.hj o.ne).1
theorem Uj{d B:Nat}(a:d=2\/d=3){L:List Stp}(h:∀s∈L,s.Fit d B){s:Stp}(o:s.Fit d B){A:LM}(b:Sq d A):shrR s.i s.j (-s.m) (cjM d (chP d L) (chQ d L) A)=cjM d (chP d (s:: L)) (chQ d (s:: L)) A:=by
 have g:=(Bv (m:=s.m) a o.hi o.hj o.ne);rw[Uk a o.hi o.hj o.ne (kS (kC a h) A),qT,g.2.2 _ (kS (kC a h) A),Tv a (kC a h) g.1 b];rfl
theorem Ui{d B:Nat}(a:d=2\/d=3){L:List Stp}(h:∀s∈L,s.Fit d B){s:Stp}(o:s.Fit d B){v:LI'}(b:v.length=d):vst s.i s.j s.m (mv (chP d L) v)=mv (chP d (s:: L)) v:=by
 have g:=(Bv (m:=s.m) a o.hi o.hj o.ne);have c:=kC a h;rw[←g.2.1 _ (nY c.p),←cX a fB c.p b];rfl
def shD(s:Stp)(x:Dd):Dd:=(shrR s.i s.j (-s.m) x.1,vst s.i s.j s.m x.2.1,x.2.2)
def shDs(d:Nat)(L:List Stp)(x:Dd):Dd:=(cjM d (chP d L) (chQ d L) x.1,mv (chP d L) x.2.1,x.2.2)
theorem Uh{d:Nat}(a:d=2\/d=3){x:Dd}(b:Sq d x.1)(c:x.2.1.length=d):shDs d [] x=x:=by
 have:=Tq a b c;unfold shDs;rw[this.1,this.2]
theorem Ug{d B:Nat}(a:d=2\/d=3){L:List Stp}(h:∀s∈L,s.Fit d B){s:Stp}(o:s.Fit d B){x:Dd}(b:Sq d x.1)(c:x.2.1.length=d):shD s (shDs d L x)=shDs d (s:: L) x:=by
 unfold shD shDs;rw[Uj a h o b,Ui a h o c]
def spT(A:LM)(ts:LI')(u:Int)(s:LI')(su:Int):LI':=va (smul su ts) (smul u (vs (mv A s) s))
theorem Bi{d B:Nat}(e:d=2\/d=3)(b:1<=B):∀{L:List Stp},(∀s∈L,s.Fit d B)->LeM ((3*B)^L.length) (chP d L)/\LeM ((3*B)^L.length) (chQ d L)
 |[],_=>by
  have:LeM 1 (idM d):=by rcases e with rfl|rfl <;> (intro r hr z a;revert r z;decide)
  exact⟨this,this⟩
 | s:: L,h=>by
  have o:=h s (zQ ..);obtain⟨f,g⟩:=Bi e b (L:=L) λz a=>h z (zM _ a);have c:=kC e (L:=L) λz a=>h z (zM _ a);have k:d*(B*(3*B)^L.length)<=(3*B)^(s:: L).length:=by
   rw[zX,qK,rT _ (3*B),←Nat.mul_assoc];exact xI _ (xI _ ⋯)
  refine⟨λr hr z a=>zR (cY fB (Ip o.mB b) f r hr z a) k,λr hr z a=>zR (cY c.q g (Ip (by rw[Int.natAbs_neg];exact o.mB) b) r hr z a) ?_⟩;rw[rT _ B];exact k
theorem Uf{d:Nat}(k:d=2\/d=3){a w s:LI'}(b:a.length=d)(e:w.length=d)(c:s.length=d){u:Int}:va a (smul u (vs w s))=vs (va a (smul u (smul (-1) s))) (smul u (smul (-1) w)):=by
 rcases k with rfl|rfl
 ·obtain⟨i,f,rfl⟩:=v2 b;obtain⟨b1,b2,rfl⟩:=v2 e;obtain⟨g,j,rfl⟩:=v2 c;simp only[va2,vs2,smul,List.map_cons,List.map_nil,List.cons.injEq,and_true];refine⟨?_,?_⟩ <;> grind
 ·obtain⟨i,f,m,rfl⟩:=v3 b;obtain⟨b1,b2,l,rfl⟩:=v3 e;obtain⟨g,j,n,rfl⟩:=v3 c;simp only[va3,vs3,smul,List.map_cons,List.map_nil,List.cons.injEq,and_true];refine⟨?_,?_,?_⟩ <;> grind
theorem Ue{d:Nat}(a:d=2\/d=3){P e R:LM}(h:Chg d P e){t s:LI'}(f:t.length=d)(c:s.length=d){u su:Int}:spT (cjM d P e R) (mv P t) u s su=cjT d P e R (smul su t) (smul u (smul (-1) s)):=by
 have b:=kS h R;have l1:(smul (-1) s).length=d:=by rw[mP];exact c
 unfold spT cjT;rw[gH a h.p f,gH a b l1,gH a b c];exact Uf a (by rw[mP];exact nY h.p) (nY b) c
def spD(x:Dd)(s:LI')(su:Int):Dd:=(x.1,redT (x.2.2*su) (spT x.1 x.2.1 x.2.2 s su),redU (x.2.2*su) (spT x.1 x.2.1 x.2.2 s su))
theorem Ud{d B:Nat}(a:d=2\/d=3){L:List Stp}(h:∀z∈L,z.Fit d B){m:Dd}(lt:m.2.1.length=d){s:LI'}(b:s.length=d){su:Int}:pV (spD (shDs d L m) s su)=frD d (chP d L) (chQ d L) (smul (-1) s) su m.2.2 m.1 m.2.1:=by
 show canD (cjM d (chP d L) (chQ d L) m.1) (spT (cjM d (chP d L) (chQ d L) m.1) (mv (chP d L) m.2.1) m.2.2 s su) (m.2.2*su)=_;rw[Ue a (kC a h) lt b];rfl
theorem Jt{k B:Nat}(b:k<20){L:List Stp}(h:∀z∈L,z.Fit (fmD k) B){s:LI'}(a:s.length=fmD k){su:Int}(c:0<su):Frk.Ok ⟨k,chP (fmD k) L,chQ (fmD k) L,smul (-1) s,su⟩:=⟨b,kC (lG k) h,by show(smul (-1) s).length=_;rw[mP];exact a,c⟩
theorem Uc{k B:Nat}(b:k<20){L:List Stp}(h:∀z∈L,z.Fit (fmD k) B){s:LI'}(a:s.length=fmD k){su:Int}(d:0<su):∀x∈(mnL k).map λm=>pV (spD (shDs (fmD k) L m) s su),InK ⟨k,chP (fmD k) L,chQ (fmD k) L,smul (-1) s,su⟩ x:=λx e=>by
 obtain⟨m,c,rfl⟩:=pI.mp e;obtain⟨_,_,l,_⟩:=(kB b).mks m c;rw[Ud (lG k) h l a];exact Um (Jt b h a d) c
structure MbK(d:Nat)(x:Dd):Prop where
 sq:Sq d x.1
 len:x.2.1.length=d
 pos:0<x.2.2
 le:x.2.2<=30
 bm:nA 180 x.1
 bt:∀z∈x.2.1,0<=z/\z<30
 low:gl x.2.2 x.2.1=1
 rest:pV x=x
structure kH(k:Nat)(L:List Stp)(s:LI')(su:Int):Prop where
 hk:k<20
 fit:∀z∈L,z.Fit (fmD k) 1000000
 l4:L.length<=4
 ls:s.length=fmD k
 bs:∀z∈s,z.natAbs<=12
 s0:0<su
 s6:su<=6
abbrev frk(k:Nat)(L:List Stp)(s:LI')(su:Int):Frk:=⟨k,chP (fmD k) L,chQ (fmD k) L,smul (-1) s,su⟩
theorem kH.ok{k:Nat}{L:List Stp}{s:LI'}{su:Int}(h:kH k L s su):(frk k L s su).Ok:=Jt h.hk h.fit h.ls h.s0
theorem Js{k:Nat}{L:List Stp}{s:LI'}{su:Int}(ok:kH k L s su){R:LM}(w:LeM 1 R):nA 180 (cjM (fmD k) (chP (fmD k) L) (chQ (fmD k) L) R):=by
 have b:=lG k;have c:=kC b ok.fit;obtain⟨d,i⟩:=Bi b ∅ ok.fit;have a:(3*1000000)^L.length<=(3*1000000)^4:=yC ∅ ok.l4;have f:=cY c.p (d.le a) w;have j:=cY (c.p.mul (B:=R)) f (i.le a);intro r hr z g;have:=j r hr z g;have e:fmD k*(fmD k*((3*1000000)^4*1)*(3*1000000)^4)<=3*(3*((3*1000000)^4*1)*(3*1000000)^4):=uF ⋯ (xI _ (xI _ ⋯));have l:3*(3*((3*1000000)^4*1)*(3*1000000)^4)<2^180:=∅
 omega
theorem Ub{M:LM}{ts:LI'}{U:Int}(a:0<U):gl (canD M ts U).2.2 (canD M ts U).2.1=1:=by
 show gl (redU U ts) ((redT U ts).map λt=>t.fmod (redU U ts))=1;rw[Rh];exact Gj ⋯
theorem bH{k:Nat}{L:List Stp}{s:LI'}{su:Int}(ok:kH k L s su){x:Dd}(r:InK (frk k L s su) x):MbK (fmD k) x:=by
 obtain⟨e,p,rfl⟩:=r;have M:=kB ok.hk;have j:=lG k;have c:=kC j ok.fit;obtain⟨u,n,v⟩:=M.sq e p;have o:=jT ok.hk;have F:=M.p5;have l:=ok.s0;have m:=ok.s6;have b:0<(mnP k:Int)*su:=xC o l;have q:(mnP k:Int)*su<=5*6:=qH ⋯ m ⋯ ⋯;have f:(cjT (fmD k) (chP (fmD k) L) (chQ (fmD k) L) e.1 (smul su e.2) (smul (mnP k:Nat) (smul (-1) s))).length=fmD k:=Iz c (by rw[mP,mP];exact ok.ls);have i:=Js ok n;have g:=kS c e.1;show MbK (fmD k) (canD (cjM (fmD k) (chP (fmD k) L) (chQ (fmD k) L) e.1) (cjT (fmD k) (chP (fmD k) L) (chQ (fmD k) L) e.1 (smul su e.2) (smul (mnP k:Nat) (smul (-1) s))) ((mnP k:Nat)*su));generalize cjT (fmD k) (chP (fmD k) L) (chQ (fmD k) L) e.1 (smul su e.2) (smul (mnP k:Nat) (smul (-1) s))=TT at f;generalize cjM (fmD k) (chP (fmD k) L) (chQ (fmD k) L) e.1=C at i g;generalize ((mnP k:Nat):Int)*su=U at b q;obtain⟨_,d,D⟩:=Bm (ts:=TT) b;have a:∀z∈nK (redU U TT) (redT U TT),0<=z/\z<redU U TT:=λz a=>by
  obtain⟨y,_,rfl⟩:=pI.mp a;exact fms y _ d
 refine⟨g,by show(nK _ (redT _ TT)).length=_;unfold nK redT;rw[zqe,zqe];exact f,d,?_,i,λz h=>?_,Ub b,?_⟩
 ·show redU U TT<=30;omega
 ·have:=a z h;omega
 ·unfold canD pV nK;show(_,_,_)=(_,_,_);rw[yW];congr 2;refine yJ λy _=>?_;exact Int.fmod_fmod _ _
theorem Jr{d A B:Nat}{M:LM}{v:LI'}(a:Sq d M)(c:LeM A M)(e:∀z∈v,z.natAbs<=B):∀z∈mv M v,z.natAbs<=d*(A*B):=λz b=>by
 obtain⟨r,hr,rfl⟩:=pI.mp b;have:=Bu r v (c r hr) e;rw[a.2 r hr]at this;exact this
theorem Jq{c:Int}{C A:Nat}{v:LI'}(d:c.natAbs<=C)(e:∀z∈v,z.natAbs<=A):∀z∈smul c v,z.natAbs<=C*A:=λz b=>by
 obtain⟨y,a,rfl⟩:=pI.mp b;show(c*y).natAbs<=_;rw[xD];exact uF d (e y a)
theorem Bh{f:Int->Int->Int}(d:∀a b,(f a b).natAbs<=a.natAbs+b.natAbs){A B:Nat}:∀{v w:LI'},(∀z∈v,z.natAbs<=A)->(∀z∈w,z.natAbs<=B)->∀z∈List.zipWith f v w,z.natAbs<=A+B
 |[],_,_,_=>by simp
 |_:: _,[],_,_=>by simp
 |a:: v,b:: w,e,g=>by
  intro z c;rw[yK,yQ]at c;rcases c with rfl|c
  ·have:=d a b;have:=e a zQ;have:=g b zQ;omega
  ·exact Bh d (λz c=>e z (zM _ c)) (λz c=>g z (zM _ c)) z c
structure MkK(d:Nat)(x:Dd):Prop where
 sq:Sq d x.1
 len:x.2.1.length=d
 pos:0<x.2.2
 le:x.2.2<=30
 bm:nA 180 x.1
 bt:kA 200 x.2.1
 low:gl x.2.2 x.2.1=1
theorem mkK{k:Nat}{L:List Stp}{s:LI'}{su:Int}(ok:kH k L s su){m:Dd}(C:m∈mnL k):MkK (fmD k) (spD (shDs (fmD k) L m) s su):=by
 have M:=kB ok.hk;have p:=lG k;have c:=kC p ok.fit;obtain⟨T,y,S,g,O,W,G⟩:=M.mks m C;have X:=M.p5;have u:=ok.s0;have x:=ok.s6;have q:m.2.2<=5:=by
  have i:=jT ok.hk;rw[O]at i;have F:(1:Int)<=(mnP k/m.2.2.toNat:Nat):=tE i g;have:=Int.mul_le_mul_of_nonneg_right F (wT g);omega
 have l:0<m.2.2*su:=xC g u;have J:m.2.2*su<=5*6:=qH q x ⋯ ⋯;have o:=Js ok y;have f:=kS c m.1;have I:LeM (2^87) (chP (fmD k) L):=(Bi p ∅ ok.fit).1.le (zR (yC ∅ ok.l4) ∅);have b1:∀z∈mv (chP (fmD k) L) m.2.1,z.natAbs<=fmD k*(2^87*4):=Jr c.p I λz d=>by have:=G z d;omega
 have b2:∀z∈mv (cjM (fmD k) (chP (fmD k) L) (chQ (fmD k) L) m.1) s,z.natAbs<=fmD k*(2^180*12):=Jr f (λr hr z d=>vL (o r hr z d)) ok.bs;have n:∀z∈spT (cjM (fmD k) (chP (fmD k) L) (chQ (fmD k) L) m.1) (mv (chP (fmD k) L) m.2.1) m.2.2 s su,z.natAbs<=6*(fmD k*(2^87*4))+5*(fmD k*(2^180*12)+12):=by
  unfold spT;refine Bh (λa b=>tH a b) (Jq ⋯ b1) (Jq ⋯ ?_);exact Bh (λa b=>⋯) b2 ok.bs
 have j:(spT (cjM (fmD k) (chP (fmD k) L) (chQ (fmD k) L) m.1) (mv (chP (fmD k) L) m.2.1) m.2.2 s su).length=fmD k:=Bz (by rw[mP];exact nY c.p) (by rw[mP];exact Ha (nY f) ok.ls);show MkK (fmD k) (cjM (fmD k) (chP (fmD k) L) (chQ (fmD k) L) m.1,redT (m.2.2*su) (spT (cjM (fmD k) (chP (fmD k) L) (chQ (fmD k) L) m.1) (mv (chP (fmD k) L) m.2.1) m.2.2 s su),redU (m.2.2*su) (spT (cjM (fmD k) (chP (fmD k) L) (chQ (fmD k) L) m.1) (mv (chP (fmD k) L) m.2.1) m.2.2 s su));generalize spT (cjM (fmD k) (chP (fmD k) L) (chQ (fmD k) L) m.1) (mv (chP (fmD k) L) m.2.1) m.2.2 s su=TT at n j;generalize m.2.2*su=U at l J;obtain⟨R,N,V⟩:=Bm (ts:=TT) l;refine⟨f,by show(redT U TT).length=_;rw[Jw];exact j,N,by show redU U TT<=30;omega,o,λz d=>?_,Gj ⋯⟩;obtain⟨t,v,h⟩:=R z d;have:=n t v;have e:6*(fmD k*(2^87*4))+5*(fmD k*(2^180*12)+12)<=6*(3*(2^87*4))+5*(3*(2^180*12)+12):=Nat.add_le_add (sQ _ (xI _ ⋯)) (sQ _ (Nat.add_le_add_right (xI _ ⋯) _));have D:6*(3*(2^87*4))+5*(3*(2^180*12)+12)<2^200:=∅
 exact xN (zR h (zR this e)) D
theorem MbK.fine{d:Nat}{x:Dd}(h:MbK d x):mO d x:=⟨h.sq,h.len,h.pos,h.bm.le ∅,λz a=>by
 have:=h.bt z a;exact zI (show z.natAbs<2^7 by omega) (yC ∅ ∅),by have:=h.le;omega⟩
theorem MkK.fine{d:Nat}{x:Dd}(h:MkK d x):mO d x:=⟨h.sq,h.len,h.pos,h.bm.le ∅,h.bt.le ∅,by have:=h.le;omega⟩
theorem Jp{K:Frag}{H:Hp}{ns:LI'}{xs:List V}(h:Dts K H xs (ns.map PyData.int)):xs=ns.map V.int:=by
 induction ns generalizing xs with
 |nil=>cases h;rfl
 |cons n ns b=>cases h with|cons a h=>cases a;rw[b h];rfl
theorem Jo{K:Frag}{H:Hp}:∀{M:LM}{xs:List V},Dts K H xs (M.map λr=>PyData.tuple (r.map PyData.int))->∃ps:LA,xs=ps.map V.ref/\ps.length=M.length/\∀(i:Nat) p r,ps[i]?=some p->M[i]?=some r->SqT K H p (r.map V.int)
 |[],_,.nil=>⟨[],rfl,rfl,λi p r e=>by cases e⟩
 | r:: M,_,.cons (x:=x) f d=>by
  obtain⟨ps,e,l,h⟩:=Jo d;cases f with
  |tup a b =>
   rename_i q ys;rw[Jp b]at a;refine⟨q:: ps,by rw[e];rfl,by rw[zX,zX,l],λi p s e1 c=>?_⟩;cases i with
   |zero=>cases e1;cases c;exact a
   |succ i=>exact h i p s e1 c
theorem bI{K:Frag}{H:Hp}{p:Addr}{x:Dd}(h:Dt K H (.ref p) (dat x)):DdS K H p x:=by
 obtain⟨M,ts,u⟩:=x;have h':Dt K H (.ref p) (.tuple [.tuple (M.map λr=>.tuple (r.map PyData.int)),.tuple (ts.map PyData.int),.int u]):=h;cases h' with
 | tup a b =>
  cases b with
  | cons b1 b =>
   cases b with
   | cons b2 b =>
    cases b with
    | cons d b =>
     cases b;cases d;cases b1 with
     | tup e g =>
      cases b2 with
      |tup e1 c =>
       rw[Jp c]at e1;obtain⟨ps,rfl,l,f⟩:=Jo g;exact⟨_,_,a,⟨ps,e,l,f⟩,e1⟩
theorem DdS.dt{K:Frag}{H:Hp}{p:Addr}{x:Dd}(h:DdS K H p x):Dt K H (.ref p) (dat x):=by
 obtain⟨d,e,a,c,b⟩:=h;exact .tup a (.cons (Dt.matB c) (.cons (Dt.intsB (b:=true) b) (.cons (.int _) .nil)))
theorem Ua{a b:LI'}(h:lx a b=true):lx b a=false:=by
 cases h2:lx b a with
 |false=>rfl
 |true =>
  have:=Fj _ _ _ h h2;rw[cG]at this;cases this
theorem Jn{j:Type}{f:j->LI'}:∀{l d:List j},(l.Pairwise λp q=>lx (f p) (f q)=true)->(d.Pairwise λp q=>lx (f p) (f q)=true)->(∀x,x∈l↔x∈d)->l=d
 |[],[],_,_,_=>rfl
 |[],b:: _,_,_,h=>absurd ((h b).mpr (.head _)) (by simp)
 |a:: _,[],_,_,h=>absurd ((h a).mp (.head _)) (by simp)
 | a:: l,b:: d,m,n,h=>by
  have i:=List.pairwise_cons.mp m;have g:=List.pairwise_cons.mp n;have e:a=b:=by
   rcases yQ.mp ((h a).mp (.head _)) with q|q
   ·exact q
   rcases yQ.mp ((h b).mpr (.head _)) with r|r
   ·exact r.symm
   have o:=g.1 a q;have k:=i.1 b r;rw[Ua o]at k;cases k
  subst e;rw[Jn (f:=f) i.2 g.2 λx=>?_];constructor
  ·intro c;rcases yQ.mp ((h x).mp (.tail _ c)) with q|q
   ·subst q;have:=i.1 _ c;rw[cG]at this;cases this
   ·exact q
  ·intro c;rcases yQ.mp ((h x).mpr (.tail _ c)) with q|q
   ·subst q;have:=g.1 _ c;rw[cG]at this;cases this
   ·exact q
theorem Jm{d:Type}{f:d->PyData}{l:List d}(j:l.Nodup)(inj:∀x∈l,∀y∈l,f x=f y->x=y)(g:∀x∈l,∀y∈l,sm (f x) (f y)=true)(h:l.Pairwise λp q=>lx (fl (f q)) (fl (f p))=false):l.Pairwise λp q=>lx (fl (f p)) (fl (f q))=true:=by
 have i:=List.Pairwise.and j h;refine List.Pairwise.imp_of_mem (λ{a b}c e h=>?_) i;cases z:lx (fl (f a)) (fl (f b)) with
 |true=>rfl
 |false=>exact absurd (inj a c b e (cF _ _ (g a c b e) (Fi _ _ z h.2))) h.1
theorem Vz{d:Nat}{ss a:List Dd}{N:Nat}(f:∀s∈ss,s∈a)(h:(tab d a N).length<=N):∀y∈tab d ss N,y.1∈(tab d a N).map (·.1):=
 bB (G:=λx=>x∈(tab d a N).map (·.1)) (pI.mpr ⟨_,fE,rfl⟩) λx g s b=>by
  obtain⟨e,c,rfl⟩:=pI.mp g;exact Bq h e c s (f s b)
theorem Vy{d:Nat}(b:d=2\/d=3){ss:List Dd}{N:Nat}(h:(tab d ss N).length<=N){s:Dd}(a:s∈ss)(c:Rs d s):s∈(tab d ss N).map (·.1):=by
 have:=Bq h _ fE s a;rw[(bE b c).1]at this;exact this
theorem Vx{d:Nat}{T ss:List Dd}(G:Grp d T)(a:∀s∈ss,s∈T){N:Nat}:∀y∈tab d ss N,y.1∈T:=bB (G:=λx=>x∈T) G.one λx b s h=>G.mul x b s (a s h)
def sumT(xs:LI')(u:Int)(ys:LI')(v:Int):LI':=List.zipWith (λm n=>m*v+n*u) xs ys
def sp_19(K:Frag):Sp:=λvs H Q _=>E3 λ(p:Addr)(ns:LI')(u:Int)=>A4 (vs=[.ref p]) (oA H p ns u) (ns.length<=100) (∀r H',Same H H'->oA H' r (ns.map (-·)) u->Q (.ref r) H')
def sp_13(K:Frag):Sp:=λvs H Q _=>E7 λ(p q:Addr)(xs ys:LI')(u v:Int)(d:Nat)=>A13 (vs=[.ref p,.ref q]) (oA H p xs u) (oA H q ys v) (xs.length=d) (ys.length=d) ((d=2\/d=3)) (kA 2100 xs) (kA 2100 ys) (0<u) (u<2^400) (0<v) (v<2^400) (∀r H',Same H H'->oA H' r (redT (u*v) (sumT xs u ys v)) (redU (u*v) (sumT xs u ys v))->Q (.ref r) H')
def sp_11(K:Frag):Sp:=λvs H Q _=>E7 λ(p q:Addr)(xs ys:LI')(u v:Int)(d:Nat)=>A13 (vs=[.ref p,.ref q]) (oA H p xs u) (oA H q ys v) (xs.length=d) (ys.length=d) ((d=2\/d=3)) (kA 2100 xs) (kA 2100 ys) (0<u) (u<2^400) (0<v) (v<2^400) (∀r H',Same H H'->oA H' r (redT (u*v) (sumT xs u (ys.map (-·)) v)) (redU (u*v) (sumT xs u (ys.map (-·)) v))->Q (.ref r) H')
theorem oA.upS{H H':Hp}{p:Addr}{ns:LI'}{u:Int}(h:oA H p ns u)(s:Same H H'):oA H' p ns u:=let ⟨q,a,b⟩:=h;⟨q,s _ _ a,s _ _ b⟩
theorem ok_19(T:Txt K mg t):FnOk P w K mg base CX0 1 t.a_19 t.d_19 pF' (sp_19 K):=by
 apply T.F_19.ok sc_19
 ·obtain⟨p,ns,u,rfl,c,hl,G⟩:=h;refine⟨_,(pO (oB (oX (pJ (oZ mK rfl T.z_tuple (nofun) (pJ (oQ (sc:=pM s_19) (N:=N_19) (fr:=[]) (te:=(tUn (rU λi=>.int (-i)) (tVar 0))) rfl rfl (nofun) rfl (nofun) (oF (pS (pq 0))) (λ_ _ _ L=>(kJ kK (pv 0)))) pK)) (pJ (pS (pq 0)) pK))))),?_⟩;show tRet _ _ [some (.ref p)] H
  try ext
  refine oC λB eB=>?_;simp only[iSeq]
  try ext
  refine mT c λg b=>⟨true,g,rfl,⟨_,SqB.tup b⟩,λI m=>oM (λj y _=>∃n,ns[j]?=some n/\y=.int (-n)) m (SqB.tup b) (by rw[zqe];omega) (λ_ _ _ _ r _=>r) ?_ ?_⟩
  ·intro i v a zs J _ _ F C;obtain⟨n,o,rfl⟩:=nS J;subst eB;show tUn _ _ [some (.int n)] a F
   try ext
   exact C _ a (Same.refl _) ⟨n,o,rfl⟩
  ·intro a ys e e1 D q;have x:ys=(ns.map (-·)).map V.int:=by
    rw[yW];exact nE (by simpa using D) q
   subst x;refine⟨I,_,rfl,.inl ⟨SqL.of e1,λl z=>?_⟩⟩
   try ext
   have f:Same a (upd a l (.tup ((ns.map (-·)).map V.int))):=Same.new z;refine kG (c.upS (e.trans f)) ?_;refine⟨(by show 2<=sizeLine;decide),λk d=>G k _ ((e.trans f).trans (Same.new d)) ⟨l,pN,?_⟩⟩;rw[pR (oY pN d)];exact pN
theorem ok_13(T:Txt K mg t):FnOk P w K mg base CX0 3 t.a_13 t.d_13 pw' (sp_13 K):=by
 have X:=@ok_12 P w K mg base t T;apply T.F_13.ok sc_13
 ·obtain⟨p,q,xs,ys,u,v,d,rfl,k,l,lx,C,b0,a2,a3,a1,a8,N,R,a5⟩:=h;refine⟨_,(pL (fW (i:=2) (xs:=["left","right"]) (fr:=[("one",0),("other",1)]) (g:=(gTup K 2 (nB (pY 0) (nB (pY 1) gNil)))) (tt:=(tEl (tOp (rI0 λi j=>.int (i+j)) (tOp (rI (λi j=>IntMulOk i j) λi j=>.int (i*j)) (tVar 0) (tOp (rIxB K) (tVar 3) (tC (.int 1)))) (tOp (rI (λi j=>IntMulOk i j) λi j=>.int (i*j)) (tVar 1) (tOp (rIxB K) (tVar 2) (tC (.int 1))))))) (mQ (sc:=pM s_13) (N:=N_13) rfl rfl (nofun)) rfl sc_13.nd rfl rfl (fX rfl T.z_zip (pJ (pS (pq 0)) (pJ (pS (pq 1)) pK))) (λ_ _ _ g=>(kY rfl (nQ (mS (N:=["left","right","one","other"]) (i:=0) g rfl (nofun)) (nQ (mS (N:=["left","right","one","other"]) (i:=1) g rfl (nofun)) kI)))) (λ_ _ _ g=>(lE (pQ mW (pQ oW (pv 0) (pS (pv 3))) (pQ oW (pv 1) (pS (pv 2)))))))
   (pO (oB (mX X hr.mo rfl T.F_12.m T.F_12.kp T.F_12.b .nil lJ (pJ (pq 2) (pJ (pQ oW (pS (pq 0)) (pS (pq 1))) pK)))))),?_⟩
  show tSeq _ _ _ [some (.ref p),some (.ref q),none] H;have o:u.natAbs<2^400:=⋯
  have y:v.natAbs<2^400:=⋯
  refine st λN1 e1=>?_
  try ext
  refine oC λB eB=>?_;simp only[iZip]
  try ext
  refine mT k λL S=>?_
  try ext
  refine mT l λU M=>?_
  try ext
  have G:SqB true K H L (xs.map V.int):=SqB.tup S;have F:SqB true K H U (ys.map V.int):=SqB.tup M;refine⟨true,⟨_,G⟩,true,⟨_,F⟩,λa W=>?_⟩;refine eA (λj z _=>∃m n,xs[j]?=some m/\ys[j]?=some n/\z=.int (m*v+n*u)) W G F (by simp[lx,C]) (by simp[lx];omega) (λ_ _ _ _ r _=>r) ?_ ?_
  ·intro i R v2 D zs J x b I a4 Z;obtain⟨m,f,rfl⟩:=nS J;obtain⟨n,c,rfl⟩:=nS x;subst eB;show tOp _ _ _ [some (.int m),some (.int n),some (.ref p),some (.ref q)] D a4
   try ext
   refine kG (l.upS b) ?_
   try ext
   refine⟨yG (oN (a2 m (zqb f))) (oN y) ∅,kG (k.upS b) ?_⟩
   try ext
   exact⟨yG (oN (a3 n (zqb c))) (oN o) ∅,Z _ _ (Same.refl _) ⟨m,n,f,c,rfl⟩⟩
  ·intro D zs b I a0 Y;have x:zs=(sumT xs u ys v).map V.int:=by
    unfold sumT;refine nE (by simp at a0 ⊢;omega) λj z e=>?_;obtain⟨m,n,f,c,rfl⟩:=Y j z e;exact⟨_,by rw[yX,f,c],rfl⟩
   subst x;subst e1
   try ext
   refine kG (k.upS b) ?_
   try ext
   refine kG (l.upS b) ?_
   try ext
   have a9:0<u*v:=xC a1 N;have hl:(sumT xs u ys v).length=d:=by unfold sumT;rw[yA,lx,C,rX]
   have sm:lQ (u*v):=jI (B:=800) (by rw[xD];exact zI (tU o y) (by rw[←vE];exact zF _)) ∅;refine⟨yG (oN o) (oN y) ∅,?_⟩;refine⟨false,a,_,u*v,rfl,SqB.lst I,⋯,sm,λz=>?_,λ_ _ r O a6 a7=>?_⟩
   ·rcases z with z|z
    ·omega
    ·rw[z]at hl;simp at hl;omega
   ·exact a5 r O (b.trans a6) a7
theorem ok_11(T:Txt K mg t):FnOk P w K mg base CX0 4 t.a_11 t.d_11 pw' (sp_11 K):=by
 have G:=@ok_13 P w K mg base t T;have J:=@ok_19 P w K mg base t T;apply T.F_11.ok sc_11
 ·obtain⟨p,q,xs,ys,u,v,d,rfl,j,l,lx,k,I,o,C,m,e,c,i,D⟩:=h;refine⟨_,(pO (oB (pU G hr.mo T.F_13 (pJ (pq 0) (pJ (pU J hr.mo T.F_19 (pJ (pq 1) pK)) pK))))),?_⟩;show tRet _ _ [some (.ref p),some (.ref q)] H
  try ext
  refine⟨q,ys,v,rfl,l,⋯,λr L b n=>?_⟩;refine⟨p,r,xs,ys.map (-·),u,v,d,rfl,j.upS b,n,lx,by rw[zqe];exact k,I,o,λz a=>?_,m,e,c,i,λx f F a=>D x f (b.trans F) a⟩;obtain⟨y,g,rfl⟩:=pI.mp a;rw[Int.natAbs_neg];exact C y g
theorem fG{d:Nat}:LeM 1 (idM d):=λr hr z a=>by
 obtain⟨i,_,rfl⟩:=pI.mp hr;obtain⟨j,_,rfl⟩:=pI.mp a;split <;> decide
theorem gI{u:Int}{ns:LI'}(a:0<u)(g:gl u ns=1):redT u ns=ns/\redU u ns=u:=by
 unfold redT redU;rw[Gi a g];refine⟨?_,sP u⟩
 conv=>rhs;rw[←vX ns]
 exact yJ λt _=>sP t
theorem Bg{y:Dd}:∀{srt:Tb}{n:Nat},(y∉srt.map (·.1)/\vT (numT srt n) (dat y)=none)\/(y∈srt.map (·.1)/\∃i:Int,vT (numT srt n) (dat y)=some (.int i))
 |[],_=>.inl ⟨by simp,rfl⟩
 | x:: srt,n=>by
  have e:numT (x:: srt) n=(dat x.1,V.int ((n:Nat):Int)):: numT srt (n+1):=rfl
  by_cases z:x.1=y
  ·refine .inr ⟨by rw[←z];exact .head _,n,?_⟩;rw[e,eF (by rw[z])]
  ·have c:¬ dat x.1=dat y:=λq=>z (gE.mp q);rw[e,gQ c,zH,yQ];rcases Bg (y:=y) (srt:=srt) (n:=n+1) with⟨a,b⟩|⟨a,b⟩
   ·exact .inl ⟨λq=>q.elim (λq=>z q.symm) a,b⟩
   ·exact .inr ⟨.inr a,b⟩
theorem Vw{d:Nat}:nA 200000 (idM d):=λr hr z a=>zI (show z.natAbs<2^1 from xN (fG r hr z a) ∅) (yC ∅ ∅)
theorem Vv{a c:Type}{F:a->c->Prop}{ps b:List a}{ms ns:List c}(h:Paired F ps ms)(h':Paired F b ns):Paired F (ps++b) (ms++ns):=by
 induction h with
 |nil=>exact h'
 |cons h _ d=>exact .cons h d
theorem Jl{ns:LI'}{d:Nat}(h:ns.length=d):pV (idM d,ns,1)=oH d:=by
 show(idM d,nK 1 ns,(1:Int))=(idM d,List.replicate d 0,1);have:nK 1 ns=List.replicate d 0:=by
  refine List.eq_replicate_iff.mpr ⟨by unfold nK;rw[zqe];exact h,λz a=>?_⟩;obtain⟨n,_,rfl⟩:=pI.mp a;have:=fms n 1 ∅;omega
 rw[this]
theorem iL{b:Type}{l:List b}{i d:Nat}(h:l.length=d)(hi:i<d):∃a,l[i]?=some a:=⟨_,zqd ⋯⟩
def cM(d:Nat)(c:Int):LM:=(idM d).map λr=>r.map (c*·)
abbrev Pl:=List Int×Int
def Vs(K:Frag)(H:Hp)(v:Addr)(xs:List Pl):Prop:=∃qs:LA,SqT K H v (qs.map V.ref)/\Paired (λq(x:Pl)=>oA H q x.1 x.2) qs xs
theorem Vs.up{H H':Hp}{v:Addr}{xs:List Pl}(h:Vs K H v xs)(s:Same H H'):Vs K H' v xs:=by
 obtain⟨c,a,b⟩:=h;exact⟨c,nX s _ _ a,Paired.mapP b λ_ _ z=>oA.upS z s⟩
def Wy(K:Frag)(H:Hp)(p:Addr)(d:Nat)(xs:List Pl):Prop:=∃v s,H p=some (.tup [.ref v,.ref s])/\Vs K H v xs/\oA H s (List.replicate d 0) 1
theorem Wy.up{H H':Hp}{p:Addr}{d:Nat}{xs:List Pl}(h:Wy K H p d xs)(s:Same H H'):Wy K H' p d xs:=by
 obtain⟨v,q,a,c,b⟩:=h;exact⟨v,q,s _ _ a,c.up s,b.upS s⟩
def vC(d:Nat)(c:Int):List Pl:=(cM d c).map λr=>(r,1)
def vH(d k:Nat):List Pl:=(List.range d).map λi=>((idM d).getD i [],if i=k then 2 else 1)
theorem mU{d:Nat}{c:Int}:Sq d (cM d c):=⟨by unfold cM;rw[zqe];exact nU.1,λr hr=>by
 obtain⟨x,a,rfl⟩:=pI.mp hr;rw[zqe];exact nU.2 x a⟩
theorem Jk{d:Nat}{c:Int}:LeM c.natAbs (cM d c):=λr hr z b=>by
 obtain⟨x,e,rfl⟩:=pI.mp hr;obtain⟨y,a,rfl⟩:=pI.mp b;have:=fG x e y a;rw[xD];exact zR (sQ _ this) ⋯
theorem mV{d:Nat}{c:Int}:(vC d c).length=d:=by unfold vC;rw[zqe];exact mU.1
theorem bJ{d i:Nat}{c:Int}{x:Pl}(h:(vC d c)[i]?=some x):x.2=1/\(cM d c)[i]?=some x.1:=by
 obtain⟨r,e,rfl⟩:=nM h;exact⟨rfl,e⟩
theorem Vs.len{H:Hp}{v:Addr}{xs:List Pl}(h:Vs K H v xs):∃a:LA,SqT K H v (a.map V.ref)/\a.length=xs.length:=let ⟨a,b,c⟩:=h;⟨a,b,oU c⟩
def sp_2(K:Frag)(C:Addr):Sp:=λvs H Q E=>E4 λ(p:Addr)(d n:Nat)(xs:List Pl)=>A4 (vs=[.int n,.ref p]) (Wy K H p d xs) ((xs.length=n->Q .non H)) ((xs.length≠n->E (.ref C) none H))
theorem ok_2(T:Txt K mg t):FnOk P w K mg base (CX1 P w) 1 t.a_2 t.d_2 pA' (sp_2 K t.a_4):=by
 refine T.F_2.okX sc_2 (λvs H Q E h=>?_) (λcdv A outer s H vs Q E hr h=>?_)
 ·obtain⟨p,d,n,xs,rfl,_⟩:=h;rfl
 ·obtain⟨p,d,n,xs,rfl,⟨v,q,b,a,g⟩,e,f⟩:=h;obtain⟨i,a,c⟩:=a.len;refine⟨_,(pO (oO (oJ mJ (nH T.z_len (pS (pq 1))) (pq 0) (oG _))
   (pO (jR rfl jP rfl T.m_4 T.x_4 yE (pJ kX pK)))
   oS)),?_⟩
  show tIfS _ _ _ _ [some (.int n),some (.ref p)] H;ext;refine⟨true,p,_,_,_,rfl,rfl,SqB.tup b,rfl,true,v,_,rfl,(a:SqB true K H v _),?_⟩
  try ext
  rw[zqe,c]
  by_cases z:xs.length=n
  ·rw[zJ (by rw[z])];exact iteF (e z)
  ·rw[zK ⋯];exact iteT ⟨by show 1<=sizeLine;decide,f z⟩
theorem Bf{d:Nat}(b:d=2\/d=3){c:Int}(a:c=1\/c=2\/c=3):detM d (cM d c)=c^d:=by rcases b with rfl|rfl <;> rcases a with rfl|rfl|rfl <;> decide +kernel
theorem bK{d:Nat}(b:d=2\/d=3){c:Int}(a:c=1\/c=2\/c=3):0<c^d/\c^d<=27:=by rcases b with rfl|rfl <;> rcases a with rfl|rfl|rfl <;> decide
theorem fH{d:Nat}{c:Int}(f:c=1\/c=2\/c=3){B:Nat}(b:2<=B):nA B (cM d c):=λr hr z a=>by
 have:=Jk r hr z a;have e:c.natAbs<=3:=⋯
 exact zI (xN (zR this e) (∅:3<2^2)) (yC ∅ b)
theorem Jj{H:Hp}{xs:List Pl}{d:LA}(p:Paired (λq(x:Pl)=>oA H q x.1 x.2) d xs){ys:List V}(k:ys.length=d.length)(hr:∀(j:Nat) y,ys[j]?=some y->∃q x,y=V.ref q/\xs[j]?=some x/\SqT K H q (x.1.map V.int)){a:Addr}{b:Hp}(u:Same H b)(e1:b a=some (.lst ys)):MatB false true K b a (xs.map (·.1)):=by
 have lq:=oU p;have m:∃ps:LA,ys=ps.map V.ref/\Paired (λq r=>SqT K H q (r.map V.int)) ps (xs.map (·.1)):=jS (by rw[k,lq,zqe]) λj y l=>by
  obtain⟨q,x,n,f,v⟩:=hr j y l;exact⟨q,x.1,n,by rw[zD,f];rfl,v⟩
 obtain⟨ps,rfl,e⟩:=m;refine⟨ps,SqB.lst e1,oU e,λi q r g o=>?_⟩;obtain⟨C,c,z⟩:=nI e g;rw[o]at c;cases c;exact nX u _ _ z
theorem Be{d:Nat}{c:Int}:(vC d c).map (·.1)=cM d c:=by unfold vC;rw[yW];exact vX _
def sp_1s(K:Frag):Sp:=λvs H Q _=>E4 λ(n d:Nat)(c:Int)(v:Addr)=>A6 (vs=[.int n,.ref v]) (Vs K H v (vC d c)) ((d=2\/d=3)) ((c=1\/c=2\/c=3)) (n<=200) (∀H',Same H H'->Q (.int (n*c^d)) H')
theorem ok_1s(T:Txt K mg t):FnOk P w K mg base CX0 6 t.a_1s t.d_1s pn' (sp_1s K):=by
 apply T.F_1s.ok sc_1s
 ·obtain⟨n,d,c,v,rfl,⟨F,U,k⟩,N,r,a4,M⟩:=h;have S:FnOk P w K mg base CX0 (d+1) t.a_1 t.d_1 pD' (sp_1 K d):=ok_1 T d;have a:SqB true K H v (F.map V.ref):=U;have a3:F.length=d:=(oU k).trans mV;refine⟨_,(pL (pW (i:=2) sc_1s.nd rfl (Or.inl rfl) (pQ oW (pq 0) (oP iR rfl T.z_abs (nofun) (pJ (pU S hr.mo T.F_1 (pJ (oQ (sc:=pM s_1s) (N:=N_1s) (fr:=[]) (te:=(tOp (rIxB K) (tVar 0) (tC (.int 0)))) rfl rfl (nofun) rfl (nofun) (oF (pq 1)) (λ_ _ _ a6=>(pS (pv 0)))) pK)) pK))))
   (pL (pW (i:=3) sc_1s.nd rfl (Or.inl rfl) pP)
   (pL (lI yR rfl (oF (pq 1)) (nP (i:=4) sc_1s.nd rfl (Or.inl rfl))
   (pO (pW (i:=3) sc_1s.nd rfl (Or.inl rfl) (pQ oW (pq 3) (pS (pq 4))))))
   (pO (oB (pQ mF (pq 2) (pq 3))))))),?_⟩
  show tSeq _ _ _ [some (.int n),some (.ref v),none,none,none] H;right;exfalso;refine⟨true,⟨_,a⟩,λa8 R=>?_⟩;refine oM (λj y _=>∃q x,y=V.ref q/\(vC d c)[j]?=some x/\SqT K H q (x.1.map V.int)) R a (by rw[zqe];omega) (λ_ _ _ _ h _=>h) ?_ ?_
  ·intro j y G zs o f a7 a1 W;obtain⟨q,u,rfl⟩:=nM o;subst eB;show tOp _ _ _ [some (.ref q)] G a1;ext;obtain⟨x,l,z,e,L⟩:=nI k u;exact⟨true,q,_,_,_,rfl,rfl,SqB.tup (f _ _ e),rfl,W _ _ (Same.refl _) ⟨z,x,rfl,l,SqT.of L⟩⟩
  ·intro G ys f a0 Z X;have I:=Jj k (by rw[Z,zqe]) X f a0;rw[Be]at I;refine cS ⋯ ⋯ I mU (B:=2) (fH r ∅) ∅ λa5 a2=>?_;rw[Bf N r];obtain⟨O,Y⟩:=bK N r;generalize c^d=D at O Y M;have J:(if D<0 then -D else D)=D:=zE ⋯;refine⟨D,rfl,yG (oN (show((n:Nat):Int).natAbs<2^8 by omega)) (oN (show(if D<0 then -D else D).natAbs<2^5 by rw[J];omega)) ∅,?_⟩;rw[J];have C:=f.trans a2;left;subst e1;refine st λN1 e1=>lN λB eB=>?_;simp only[iSeq];ext;refine⟨true,⟨_,a.up C⟩,?_⟩;refine iA (b:=true) (g:=pY 4) (tb:=B) (λi b H'=>∃p:Option V,b=[some (.int n),some (.ref v),some (.int (n*D)),some (.int 1),p]/\Same H H') ⟨none,rfl,C⟩ (λi b H' _⟨_,_,s⟩=>a.up s) ?_ ?_
   ·rintro i y b m o ⟨p,rfl,g⟩;obtain⟨q,u,rfl⟩:=nM o;obtain⟨x,l,z,e,L⟩:=nI k u;rw[(bJ l).1]at e;subst eB;show tAsg _ _ _ [some (.int n),some (.ref v),some (.int (n*D)),some (.int 1),some (.ref q)] m;ext;refine⟨true,q,_,_,_,rfl,rfl,SqB.tup (g _ _ e),rfl,?_⟩
    try ext
    exact⟨yG (oN (show(1:Int).natAbs<2^1 by decide)) (oN (show(1:Int).natAbs<2^1 by decide)) ∅,∅,g⟩
   ·rintro b m ⟨p,rfl,g⟩;symm;refine⟨⟨∅,∅⟩,?_⟩;rw[sP];exact M m g
def sp_16(K:Frag):Sp:=λvs H Q _=>E2 λ(a:Addr)(n:Nat)=>A3 (vs=[.ref a]) (H a=some (.lst ((List.replicate n (1:Int)).map V.int))) (Q (.int 1) H)
theorem ok_16(T:Txt K mg t):FnOk P w K mg base CX0 2 t.a_16 t.d_16 ["numbers"] (sp_16 K):=by
 have f:=@ok_15 P w K mg base t T;apply T.F_16.ok sc_16
 ·obtain⟨a,n,rfl,d,l⟩:=h;refine⟨_,(pL (pW (i:=1) sc_16.nd rfl (Or.inl rfl) pP)
   (pL (lI yR rfl (oF (pq 0)) (nP (i:=2) sc_16.nd rfl (Or.inl rfl))
   (pO (pW (i:=1) sc_16.nd rfl (Or.inl rfl) (pQ oW (pQ mF (pq 1) (pU f hr.mo T.F_15 (pJ (pq 1) (pJ (pq 2) pK)))) (oP iR rfl T.z_abs (nofun) (pJ (pq 2) pK))))))
   (pO (oB (pq 1))))),?_⟩
  show tSeq _ _ _ [some (.ref a),none,none] H;right;subst e1;refine st λN1 e1=>lN λB eB=>?_;simp only[iSeq];ext;refine⟨false,⟨_,SqB.lst d⟩,?_⟩;refine iA (b:=false) (g:=pY 2) (tb:=B) (λi b H'=>∃v2:Option V,b=[some (.ref a),some (.int 1),v2]/\H'=H) ⟨none,rfl,rfl⟩ (λi b H' _⟨_,_,s⟩=>by rw[s];exact SqB.lst d) ?_ ?_
  ·rintro i y b c j ⟨v2,rfl,rfl⟩;obtain⟨k,g,rfl⟩:=nS j;have e:k=1:=wF (zqb g);subst e;subst eB;show tAsg _ _ _ [some (.ref a),some (.int 1),some (.int 1)] c;ext;refine⟨1,1,rfl,?_⟩;rw[show gcdI 1 1=1 by decide];refine⟨_,_,rfl,rfl,⟨∅,∅⟩,_,_,rfl,rfl,?_,?_,rfl⟩
   ·exact yG (oN (show((1:Int).fdiv 1).natAbs<2^1 by decide)) (oN (show(if(1:Int)<0 then -1 else(1:Int)).natAbs<2^1 by decide)) ∅
   ·rfl
  ·rintro b c ⟨v2,rfl,rfl⟩;symm;exact l
def TbC(H:Hp)(p:Addr)(M:LM)(D:Int):Prop:=∃a,H p=some (.tup [.ref a,.int D])/\MatL H a M
theorem TbC.up{H H':Hp}{p:Addr}{M:LM}{D:Int}(h:TbC H p M D)(s:Same H H'):TbC H' p M D:=let ⟨a,b,c⟩:=h;⟨a,s _ _ b,c.up s⟩
def sp_1o(K:Frag):Sp:=λvs H Q _=>E3 λ(p:Addr)(d:Nat)(c:Int)=>A5 (vs=[.ref p]) (Wy K H p d (vC d c)) ((d=2\/d=3)) ((c=1\/c=2\/c=3)) (∀r H',Same H H'->TbC H' r (cM d c) 1->Q (.ref r) H')
theorem Vu{d:Nat}(b:d=2\/d=3){c:Int}(a:c=1\/c=2\/c=3):jZ d (cM d c)=cM d c:=by rcases b with rfl|rfl <;> rcases a with rfl|rfl|rfl <;> decide +kernel
theorem ok_1o(T:Txt K mg t):FnOk P w K mg base CX0 3 t.a_1o t.d_1o pF' (sp_1o K):=by
 have b8:=@ok_16 P w K mg base t T;have c2:=@ok_1e P w K mg base t T;apply T.F_1o.ok sc_1o
 ·obtain⟨p,d,c,rfl,⟨v,d6,N,⟨F,G,a8⟩,d8⟩,d3,a3,c8⟩:=h;have l:∀{H'},Same H H'->SqB true K H' v (F.map V.ref):=λs=>nX s _ _ G;have u:F.length=d:=(oU a8).trans mV;have U:∀(i:Nat) q,F[i]?=some q->oA H q ((cM d c).getD i []) 1/\((cM d c).getD i [])∈cM d c:=λi q e=>by
   obtain⟨x,a9,z⟩:=nI a8 e;obtain⟨b0,Y⟩:=bJ a9;rw[b0]at z;rw[zqc,Y];exact⟨z,zqb Y⟩
  refine⟨_,(pL (pW (i:=1) sc_1o.nd rfl (Or.inr rfl) (pU b8 hr.mo T.F_16 (pJ (oQ (sc:=pM s_1o) (N:=N_1o) (fr:=[]) (te:=(tOp (rIxB K) (tVar 0) (tC (.int 1)))) rfl rfl (nofun) rfl (nofun) (oF (pS (pq 0))) (λ_ _ _ m=>(pS (pv 0)))) pK)))
   (pL (fW (i:=2) (xs:=["vector"]) (fr:=[("under",1)]) (g:=(pY 0)) (tt:=(tEl (nF (iSeq K (tOp (rIxB K) (tVar 0) (tC (.int 0)))) (pY 0) (tEl (tOp (rI (λi j=>IntMulOk i j) λi j=>.int (i*j)) (tVar 0) (tOp (rI lX λi j=>.int (i.fdiv j)) (tVar 2) (tOp (rIxB K) (tVar 1) (tC (.int 1)))))) 1 [("vector",0),("under",1)]))) (mQ (sc:=pM s_1o) (N:=N_1o) rfl rfl (nofun)) rfl sc_1o.nd rfl rfl (oF (pS (pq 0))) (λ_ _ _ m=>(iV (N:=["vector","under"]) (i:=0) m rfl (nofun) rfl)) (λ_ _ _ m=>(lE (oQ (N:=["vector","under"]) (fr:=[("vector",0),("under",1)]) (te:=(tOp (rI (λi j=>IntMulOk i j) λi j=>.int (i*j)) (tVar 0) (tOp (rI lX λi j=>.int (i.fdiv j)) (tVar 2) (tOp (rIxB K) (tVar 1) (tC (.int 1)))))) m rfl (nofun) rfl (nofun) (oF (pS (pv 0))) (λ_ _ _ d4=>(pQ oW (pv 0) (pQ mF (pv 2) (pS (pv 1)))))))))
   (pO (oB (oX (pJ (pU c2 hr.mo T.F_1e (pJ (pq 2) pK)) (pJ (pq 1) pK))))))),?_⟩
  show tSeq _ _ _ [some (.ref p),none,none] H;right;exfalso;refine⟨true,p,_,_,_,rfl,rfl,SqB.tup N,rfl,true,v,rfl,⟨_,l (Same.refl _)⟩,λd2 b2=>?_⟩;refine oM (λj y _=>y=V.int 1) b2 (l (Same.refl _)) (by rw[zqe];omega) (λ_ _ _ _ h _=>h) ?_ ?_
  ·intro j y a0 zs f a a7 O I;obtain⟨q,M,rfl⟩:=nM f;obtain⟨⟨z,o,L⟩,_⟩:=U j q M;subst eB;show tOp _ _ _ [some (.ref q)] a0 O;ext;exact⟨true,q,_,_,_,rfl,rfl,SqB.tup (a _ _ o),rfl,I _ _ (Same.refl _) rfl⟩
  ·intro a0 ys a c7 a6 c4;have f:ys=(List.replicate d (1:Int)).map V.int:=by
    refine nE (by rw[a6,zqe,u,yU]) λj y a2=>⟨1,?_,c4 j y a2⟩;rw[tF,zG (by rw[←u,←zqe (f:=V.ref),←a6];exact(zqa a2).1)]
   subst f;refine⟨d2,d,rfl,c7,?_⟩;left;exfalso;refine⟨true,p,_,_,_,rfl,rfl,SqB.tup (a _ _ N),rfl,true,v,rfl,⟨_,l a⟩,λJ c5=>?_⟩;refine oM (RowR J λj=>(cM d c).getD j []) c5 (l a) (by rw[zqe];omega) (RowR.mono (a:=J)) ?_ ?_
   ·intro j y X zs f R a7 O I;obtain⟨q,M,rfl⟩:=nM f;obtain⟨⟨z,o,L⟩,a1⟩:=U j q M;have b:=a.trans R;subst eB;show nF _ _ _ _ _ [some (.ref q),some (.int 1)] X O;exfalso;refine⟨true,q,_,_,_,rfl,rfl,SqB.tup (b _ _ o),rfl,true,z,rfl,⟨_,SqB.tup (b _ _ L)⟩,λb9 a5=>?_⟩;refine oM (λk y _=>∃n,((cM d c).getD j [])[k]?=some n/\y=.int n) a5 (SqB.tup (b _ _ L)) (by rw[zqe,mU.2 _ a1];omega) (λ_ _ _ _ r _=>r) ?_ ?_
    ·intro k y D d7 C g d5 c6 b3;obtain⟨n,W,rfl⟩:=nS C;have d1:n.natAbs<2^2:=fH a3 (zF _) _ a1 n (zqb W);subst eB;show tOp _ _ _ [some (.int n),some (.ref q),some (.int 1)] D c6;ext;refine⟨true,q,_,_,_,rfl,rfl,SqB.tup ((b.trans g) _ _ o),rfl,_,_,rfl,rfl,⟨∅,∅⟩,_,_,rfl,rfl,?_,?_⟩
     ·exact yG (oN d1) (oN (show((1:Int).fdiv 1).natAbs<2^1 by decide)) ∅
     ·refine b3 _ _ (Same.refl _) ⟨n,W,?_⟩;show V.int (n*(1:Int).fdiv 1)=V.int n;rw[show(1:Int).fdiv 1=1 by decide,vD]
    ·intro D b6 g d0 c1 c9;have C:b6=((cM d c).getD j []).map V.int:=nE (by rw[c1,zqe]) c9;subst C;exact I _ _ g ⟨b9,rfl,zS (oY a7 a5),d0⟩
   ·intro X ys R c3 c0 b4;have Z:=MatL.of c3 b4;have l1:(cM d c).length=d:=mU.1;have e:(List.range ys.length).map (λj=>(cM d c).getD j [])=cM d c:=by
     rw[c0,zqe,u];refine xQ (by rw[zqe,wY,l1]) λi N G=>?_;rw[xU,vV,zqc,zqd G];rfl
    rw[e]at Z;have b:=a.trans R;symm;have b5:cM d c≠[]:=λz=>by rw[z]at l1;simp at l1;omega
    refine⟨false,false,J,cM d c,d,rfl,Z.b,b5,mU.2,⋯,⋯,λb7 D d9 g S=>?_⟩;rw[Vu d3 a3]at S;refine⟨(by show 2<=sizeLine;decide),λb1 a4=>c8 b1 _ ((b.trans g).trans (Same.new a4)) ⟨b7,pN,S.up (Same.new a4)⟩⟩
def cofM(d:Nat)(rows:LM)(i k:Nat):Int:=sg (i+k)*detM d (kP i k rows)
def crsM(n:Nat)(rows:LM):LM:=(List.range n).map λi=>(List.range n).map λk=>cofM (n-1) rows k i
def sp_18(K:Frag):Sp:=λvs H Q _=>E7 λ(b1 b2:Bool)(a:Addr)(rows:LM)(i k n:Nat)=>A9 (vs=[.ref a,.int i,.int k]) (MatB b1 b2 K H a rows) (Sq (n+1) rows) (i<n+1) (k<n+1) (1<=n) (n<=3) (nA 1800 rows) (∀H',Same H H'->Q (.int (cofM n rows i k)) H')
def sp_1n(K:Frag):Sp:=λvs H Q _=>E5 λ(b1 b2:Bool)(a:Addr)(rows:LM)(c:Int)=>A6 (vs=[.ref a,.int c]) (MatB b1 b2 K H a rows) (rows.length<1000) ((∀r∈rows,r.length<1000)) ((∀r∈rows,∀x∈r,IntMulOk c x)) (∀q H',H q=none->Same H H'->MatL H' q (rows.map λr=>r.map (c*·))->Q (.ref q) H')
def sp_1g(K:Frag):Sp:=λvs H Q _=>E5 λ(b1 b2:Bool)(a:Addr)(rows:LM)(n:Nat)=>A7 (vs=[.ref a]) (MatB b1 b2 K H a rows) (Sq n rows) (2<=n) (n<=4) (nA 1800 rows) (∀r H',H r=none->Same H H'->MatL H' r (crsM n rows)->Q (.ref r) H')
theorem ok_18(T:Txt K mg t):FnOk P w K mg base CX0 5 t.a_18 t.d_18 pt' (sp_18 K):=by
 have q:=@ok_1b P w K mg base t T;apply T.F_18.ok sc_18
 ·obtain⟨b1,b2,a,j,i,k,n,rfl,e,c,hi,d,y,D,u,o⟩:=h;have f:FnOk P w K mg base CX0 (n+1) t.a_1 t.d_1 pD' (sp_1 K n):=ok_1 T n;refine⟨_,(pL (pW (i:=3) sc_18.nd rfl (Or.inl rfl) (bU (oJ lK (pQ nZ (pQ mW (pq 1) (pq 2)) pP) pP (oG _)) pP (kJ kK pP)))
   (pO (oB (pQ oW (pq 3) (pU f hr.mo T.F_1 (pJ (pU q hr.mo T.F_1b (pJ (pq 0) (pJ (pq 1) (pJ (pq 2) pK)))) pK)))))),?_⟩
  show tSeq _ _ _ [some (.ref a),some (.int i),some (.int k),none] H;obtain⟨m,rfl⟩:∃m,n=m+1:=⟨n-1,⋯⟩;refine st λN1 e1=>?_;have b:N1 [some (.ref a),some (.int i),some (.int k),some (.int (sg (i+k)))] H:=by
   symm;refine⟨b1,b2,a,j,i,k,_,rfl,e,c.2,d,⋯,by rw[c.1];omega,λr C _ x g=>?_⟩;refine⟨false,false,r,_,1800,rfl,g.b,c.minor hi d,⋯,u.minor,∅,λl p=>?_⟩;ext;exact⟨IntMulOk.of_left (by unfold sg;split <;> decide),o l (x.trans p)⟩
  ext;refine⟨∅,?_⟩;have v:((i:Int)+k).fmod 2=((i+k)%2:Nat):=by
   rw[xR _ ∅];omega
  rw[v];unfold sg at b
  by_cases z:(i+k)%2=0
  ·rw[zG z]at b;rw[zJ (show(((i+k)%2:Nat):Int)=0 by omega)];exact iteT b
  ·rw[zE z]at b;rw[zK (show¬ (((i+k)%2:Nat):Int)=0 by omega)];exact iteF b
theorem ok_1n(T:Txt K mg t):FnOk P w K mg base CX0 1 t.a_1n t.d_1n pu' (sp_1n K):=by
 apply T.F_1n.ok sc_1n
 ·obtain⟨b1,b2,a,b,c,rfl,X,hl,I,R,a3⟩:=h;refine⟨_,(pO (oB (oQ (sc:=pM s_1n) (N:=N_1n) (fr:=[("count",1)]) (te:=(nF (iSeq K (tVar 0)) (pY 0) (tEl (tOp (rI (λi j=>IntMulOk i j) λi j=>.int (i*j)) (tVar 1) (tVar 0))) 1 [("count",1)])) rfl rfl (nofun) rfl (nofun) (oF (pq 0)) (λ_ _ _ M=>(oQ (N:=["row","count"]) (fr:=[("count",1)]) (te:=(tOp (rI (λi j=>IntMulOk i j) λi j=>.int (i*j)) (tVar 1) (tVar 0))) M rfl (nofun) rfl (nofun) (oF (pv 0)) (λ_ _ _ a6=>(pQ oW (pv 1) (pv 0)))))))),?_⟩;show tRet _ _ [some (.ref a),some (.int c)] H;ext;exfalso;obtain⟨xs,o,J,a0⟩:=X.walk;refine⟨b1,⟨_,o⟩,λn u=>?_⟩;refine oM (RowR n λj=>(b.getD j []).map (c*·)) u o ⋯ (RowR.mono (a:=n)) ?_ ?_
  ·intro i x g zs G f a4 a2 U;obtain⟨p,r,rfl,q,F⟩:=a0 i x G;have z:=zqb q;subst eB;show nF _ _ _ _ _ [some (.ref p),some (.int c)] g a2;exfalso;refine⟨b2,⟨_,F.up f⟩,λY C=>?_⟩;refine oM (λj y _=>∃m,r[j]?=some m/\y=.int (c*m)) C (F.up f) (by have:=I r z;rw[zqe];omega) (λ_ _ _ _ r _=>r) ?_ ?_
   ·intro j x v a7 a1 D a8 S a5;obtain⟨m,d,rfl⟩:=nS a1;subst eB;show tOp _ _ _ [some (.int m),some (.int c)] v S;ext;exact⟨R r z m (zqb d),a5 _ _ (Same.refl _) ⟨m,d,rfl⟩⟩
   ·intro v ys D W l L;have O:ys=(r.map (c*·)).map V.int:=by
     refine nE (by simp at l ⊢;omega) λj y e=>?_;obtain⟨m,d,rfl⟩:=L j y e;exact⟨c*m,by rw[zD,d];rfl,rfl⟩
    subst O;refine U _ _ D ⟨Y,rfl,zS (oY a4 C),?_⟩;show _=some (HO.lst (((b.getD i []).map (c*·)).map V.int));rw[W,zqc,q];rfl
  ·intro g ys f e1 l Z;have k:=MatL.of e1 Z;rw[l,J]at k;have N:((List.range b.length).map λj=>(b.getD j []).map (c*·))=b.map λr=>r.map (c*·):=by
    refine rG λi=>?_;rw[zD,zD]
    by_cases hi:i<b.length
    ·rw[yB hi,zqd hi];simp[zqc,hi]
    ·rw[wB (by simp;omega),wB ⋯];rfl
   rw[N]at k;exact a3 n g u f k
theorem ok_1g(T:Txt K mg t):FnOk P w K mg base CX0 6 t.a_1g t.d_1g pD' (sp_1g K):=by
 have D:=@ok_18 P w K mg base t T;apply T.F_1g.ok sc_1g
 ·obtain⟨b1,b2,a,b,n,rfl,v,C,a5,a6,F,U⟩:=h;refine⟨_,(pL (pW (i:=1) sc_1g.nd rfl (Or.inr rfl) (nH T.z_len (pq 0)))
   (pO (oB (kN (xs:=["i"]) (fr:=[("rows",0),("size",1)]) (g:=(pY 0)) (tt:=(tEl (nF (mD (pZ (tVar 2) tNil)) (pY 0) (tEl (oV (sp_18 K) [] E0 (pZ (tVar 2) (pZ (tVar 0) (pZ (tVar 1) tNil))))) 1 [("i",0),("rows",1)]))) (mQ (sc:=pM s_1g) (N:=N_1g) rfl rfl (nofun)) rfl (lH rfl T.z_range (pJ (pq 1) pK)) (λ_ _ _ d=>(iV (N:=["i","rows","size"]) (i:=0) d rfl (nofun) rfl)) (λ_ _ _ d=>(lE (oQ (N:=["i","rows","size"]) (fr:=[("i",0),("rows",1)]) (te:=(oV (sp_18 K) [] E0 (pZ (tVar 2) (pZ (tVar 0) (pZ (tVar 1) tNil))))) d rfl (nofun) rfl (nofun) (lH rfl T.z_range (pJ (pv 2) pK)) (λ_ _ _ a1=>(pU D hr.mo T.F_18 (pJ (pv 2) (pJ (pv 0) (pJ (pv 1) pK)))))))))))),?_⟩
  show tSeq _ _ _ [some (.ref a),none] H;obtain⟨m,rfl⟩:∃m,n=m+1:=⟨n-1,⋯⟩;right;refine gP v ?_;rw[C.1];symm;refine oC λB eB=>?_;simp only[mD];ext;refine⟨⋯,⋯,λo p=>?_⟩;rw[zW];refine kO (RowR o λi=>(List.range (m+1)).map λk=>cofM m b k i) p ⋯ (RowR.mono (a:=o)) ?_ ?_
  ·intro i c zs hi g Z S L;subst eB;show nF _ _ _ _ _ [some (.int (0+(i:Int))),some (.ref a),some (.int ((m+1:Nat):Int))] c S;refine oC λB eB=>?_;simp only[mD];ext;refine⟨⋯,⋯,λO z=>?_⟩;rw[zW];refine kO (λk y _=>k<m+1/\y=.int (cofM m b k i)) z ⋯ (λ_ _ _ _ r _=>r) ?_ ?_
   ·intro k q a3 u l a2 J R;subst eB;have W:=g.trans l;show oV _ _ _ _ [some (.int (0+(k:Int))),some (.int (0+(i:Int))),some (.ref a)] q J;ext;refine⟨b1,b2,a,b,k,i,m,by rw[uX,uX],v.up W,C,u,hi,⋯,⋯,F,λa4 a0=>?_⟩;exact R _ _ a0 ⟨u,rfl⟩
   ·intro q ys l X f Y;have I:ys=((List.range (m+1)).map λk=>cofM m b k i).map V.int:=by
     refine nE (by simpa using f) λj y e=>?_;obtain⟨N,rfl⟩:=Y j y e;exact⟨_,by rw[zD,yB N];rfl,rfl⟩
    subst I;exact L _ _ l ⟨O,rfl,zS (oY Z z),X⟩
  ·intro c ys g M f G;have x:=MatL.of M G;rw[f]at x;exact U o c p g x
theorem Vt{d:Nat}(b:d=2\/d=3){c:Int}(a:c=1\/c=2\/c=3):crsM d (cM d c)=cM d (c^(d-1)):=by rcases b with rfl|rfl <;> rcases a with rfl|rfl|rfl <;> decide +kernel
theorem Bd{d:Nat}(b:d=2\/d=3){c:Int}(a:c=1\/c=2\/c=3):0<c^(d-1)/\c^(d-1)<=9/\c^(d-1)*c=c^d:=by rcases b with rfl|rfl <;> rcases a with rfl|rfl|rfl <;> decide
theorem Bc{d:Nat}{c:Int}(f:0<c)(g:c<=9){B:Nat}(a:4<=B):nA B (cM d c):=λr hr z b=>by
 have:=Jk r hr z b;have e:c.natAbs<=9:=⋯
 exact zI (xN (zR this e) (∅:9<2^4)) (yC ∅ a)
def sp_22(K:Frag):Sp:=λvs H Q _=>E3 λ(p:Addr)(d:Nat)(c:Int)=>A5 (vs=[.ref p]) (Wy K H p d (vC d c)) ((d=2\/d=3)) ((c=1\/c=2\/c=3)) (∀r H',Same H H'->TbC H' r (cM d (c^(d-1))) (c^d)->Q (.ref r) H')
theorem ok_22(T:Txt K mg t):FnOk P w K mg base CX0 7 t.a_22 t.d_22 pF' (sp_22 K):=by
 have y:=@ok_1o P w K mg base t T;have M:=@ok_1n P w K mg base t T;have R:=@ok_1g P w K mg base t T;apply T.F_22.ok sc_22
 ·obtain⟨p,d,c,rfl,v,e,b,N⟩:=h;have F:FnOk P w K mg base CX0 (d+1) t.a_1 t.d_1 pD' (sp_1 K d):=ok_1 T d;refine⟨_,(pL (pW (i:=1) sc_22.nd rfl (Or.inl rfl) (pU y hr.mo T.F_1o (pJ (pq 0) pK)))
   (pO (oB (oX (pJ (pU M hr.mo T.F_1n (pJ (pU R hr.mo T.F_1g (pJ (pS (pq 1)) pK)) (pJ (pS (pq 1)) pK))) (pJ (pU F hr.mo T.F_1 (pJ (pS (pq 1)) pK)) pK)))))),?_⟩
  show tSeq _ _ _ [some (.ref p),none] H;right;refine⟨p,d,c,rfl,v,e,b,λr V L⟨a,i,k⟩=>?_⟩;obtain⟨D,C,_⟩:=Bd e b;symm;refine⟨true,r,_,_,_,rfl,rfl,SqB.tup i,rfl,?_⟩;refine⟨false,false,a,cM d c,d,rfl,k.b,mU,⋯,⋯,fH b ∅,λG S Y n j=>?_⟩;rw[Vt e b]at j;refine⟨true,r,_,_,_,rfl,rfl,SqB.tup (n _ _ i),rfl,?_⟩;have l1:(cM d (c^(d-1))).length=d:=mU.1;refine⟨false,false,G,cM d (c^(d-1)),1,rfl,j.b,⋯,λx f=>by rw[mU.2 x f];omega,λx f z J=>yG (oN (show(1:Int).natAbs<2^1 by decide)) (oN (Bc D C (zF 4) x f z J)) ∅,λq U X O l=>?_⟩;have I:((cM d (c^(d-1))).map λr=>r.map ((1:Int)*·))=cM d (c^(d-1)):=by
   rw[show(λr:LI'=>r.map ((1:Int)*·))=id from funext λr=>by
    show r.map ((1:Int)*·)=r
    conv=>rhs;rw[←vX r]
    exact yJ λz _=>uO z,vX]
  rw[I]at l;have g:=n.trans O;refine⟨true,r,_,_,_,rfl,rfl,SqB.tup (g _ _ i),rfl,?_⟩;refine cS ⋯ ⋯ ((k.up g).b) mU (fH b (zF 2)) ∅ λW o=>?_;rw[Bf e b];exact⟨(by show 2<=sizeLine;decide),λu m=>N u _ (((L.trans g).trans o).trans (Same.new m)) ⟨q,pN,(l.up o).up (Same.new m)⟩⟩
def sp_26(K:Frag):Sp:=λvs H Q _=>E7 λ(p q:Addr)(d:Nat)(M:LM)(D:Int)(ns:LI')(u:Int)=>A13 (vs=[.ref p,.ref q]) (TbC H p M D) (oA H q ns u) ((d=2\/d=3)) (Sq d M) (nA 4 M) (ns.length=d) (0<D) (D<=27) (0<u) (u<2^400) (kA 2100 ns) (∀r H',Same H H'->oA H' r (redT (D*u) (mv M ns)) (redU (D*u) (mv M ns))->Q (.ref r) H')
theorem ok_26(T:Txt K mg t):FnOk P w K mg base CX0 3 t.a_26 t.d_26 pv' (sp_26 K):=by
 have U:=@ok_20 P w K mg base t T;have O:=@ok_12 P w K mg base t T;apply T.F_26.ok sc_26
 ·obtain⟨p,q,d,M,D,ns,u,rfl,⟨a,C,S⟩,G,b4,c,Y,hl,I,b3,Z,a9,a6,a5⟩:=h;have l1:=c.1;refine⟨_,(pO (oB (mX O hr.mo rfl T.F_12.m T.F_12.kp T.F_12.b .nil lJ (pJ (oQ (sc:=pM s_26) (N:=N_26) (fr:=[("spot",1)]) (te:=(oV (sp_20 K) [] E0 (pZ (tVar 0) (pZ (tOp (rIxB K) (tVar 1) (tC (.int 0))) tNil)))) rfl rfl (nofun) rfl (nofun) (oF (pS (pq 0))) (λ_ _ _ b0=>(pU U hr.mo T.F_20 (pJ (pv 0) (pJ (pS (pv 1)) pK))))) (pJ (pQ oW (pS (pq 0)) (pS (pq 1))) pK))))),?_⟩;show tRet _ _ [some (.ref p),some (.ref q)] H;ext;exfalso;obtain⟨xs,g,l,a1⟩:=(S.b (K:=K)).walk;refine⟨true,p,_,_,_,rfl,rfl,SqB.tup C,rfl,false,a,rfl,⟨_,g⟩,λa7 L=>?_⟩;refine oM (λj y _=>∃n,(mv M ns)[j]?=some n/\y=.int n) L g (by rw[l,l1];omega) (λ_ _ _ _ r _=>r) ?_ ?_
  ·intro i x o zs J b b6 a4 W;obtain⟨F,r,rfl,e,a8⟩:=a1 i x J;have b1:r.length=d:=c.2 r (zqb e);subst eB;show oV _ _ _ _ [some (.ref F),some (.ref q)] o a4;ext;refine mT (G.upS b) λz a2=>?_;refine⟨false,true,F,z,r,ns,rfl,a8.up b,SqB.tup a2,⋯,⋯,λb2 m n e1 X=>yG (oN (Y r (zqb e) m (zqb e1))) (oN (a6 n (zqb X))) ∅,λk f=>?_⟩;exact W _ _ f ⟨_,by unfold mv;rw[zD,e];rfl,rfl⟩
  ·intro o ys b e1 a3 a0;have R:ys=(mv M ns).map V.int:=nE (by rw[a3,l,l1,nY c]) a0;subst R;refine⟨true,p,_,_,_,rfl,rfl,SqB.tup (b _ _ C),rfl,?_⟩;refine kG (G.upS b) ?_
   try ext
   refine⟨yG (oN (show D.natAbs<2^5 by omega)) (oN (show u.natAbs<2^400 by omega)) ∅,?_⟩;have b5:0<D*u:=xC I Z;have v:(mv M ns).length=d:=nY c;refine⟨false,a7,mv M ns,D*u,rfl,SqB.lst e1,⋯,jI (B:=405) (by
    rw[xD,vE 2 5 400];exact tU ⋯ ⋯) ∅,λz=>?_,λ_ _ r k f N=>?_⟩
   ·rcases z with z|z
    ·omega
    ·rw[z]at v;simp at v;omega
   ·exact a5 r k (b.trans f) N
theorem Vr{d:Nat}{ns:LI'}{u:Int}(h:ns.length=d):sumT ns u ((List.replicate d (0:Int)).map (-·)) 1=ns:=by
 subst h;unfold sumT
 induction ns with
 |nil=>rfl
 |cons n ns a =>
  rw[zX,wO,zH,yK,a];simp
theorem mv_c{d:Nat}(f:d=2\/d=3){c:Int}{ns:LI'}(hl:ns.length=d):mv (cM d c) ns=ns.map (c*·):=by
 rcases f with rfl|rfl
 ·obtain⟨a,b,rfl⟩:=v2 hl;simp[mv,cM,idM,List.range,List.range.loop,dotI]
 ·obtain⟨a,b,e,rfl⟩:=v3 hl;simp[mv,cM,idM,List.range,List.range.loop,dotI]
def sp_u(K:Frag)(C:Addr):Sp:=λvs H Q E=>E6 λ(q p:Addr)(d:Nat)(c:Int)(ns:LI')(u:Int)=>A4 (vs=[.ref q,.ref p]) (Wy K H p d (vC d c)) (oA H q ns u) (((ns.length≠d/\E (.ref C) none H)\/((d=2\/d=3)/\(c=1\/c=2\/c=3)/\ns.length=d/\0<u/\u<2^400/\kA 2100 ns/\gl u ns=1/\∀r H' ns' u',Same H H'->oA H' r ns' u'->(c=1->ns'=ns/\u'=u)->Q (.ref r) H')))
theorem ok_u(T:Txt K mg t):FnOk P w K mg base (CX1 P w) 8 t.a_u t.d_u pB' (sp_u K t.a_4):=by
 have W:=@ok_2 P w K mg base t T;have I:=@ok_26 P w K mg base t T;have O:=@ok_22 P w K mg base t T;have D:=@ok_11 P w K mg base t T;refine T.F_u.okX sc_u (λvs H Q E h=>?_) (λcdv A outer s H vs Q E hr h=>?_)
 ·obtain⟨q,p,d,c,ns,u,rfl,_⟩:=h;rfl
 ·obtain⟨q,p,d,c,ns,u,rfl,g,k,h⟩:=h;refine⟨_,(pL (mC (lW W hr.mo rfl T.F_2.m T.F_2.kp T.F_2.b .nil iU (pJ (nH T.z_len (pS (pq 0))) (pJ (pq 1) pK))))
   (pO (oB (pU I hr.mo T.F_26 (pJ (pU O hr.mo T.F_22 (pJ (pq 1) pK)) (pJ (pU D hr.mo T.F_11 (pJ (pq 0) (pJ (pS (pq 1)) pK))) pK)))))),?_⟩
  show tSeq _ _ _ [some (.ref q),some (.ref p)] H;right;refine mT k λx J=>jC (b:=true) (SqB.tup J) ?_;refine⟨p,d,ns.length,_,rfl,g,λz=>?_,λz=>?_⟩
  case refine_2 =>
   rw[mV]at z;rcases h with⟨_,S⟩|⟨_,_,hl,_⟩
   ·exact S
   ·exact absurd hl.symm z
  rw[mV]at z;rcases h with⟨G,_⟩|⟨a,i,hl,b,l,o,m,a2⟩
  ·exact absurd z.symm G
  symm;refine⟨p,d,c,rfl,g,a,i,λr a9 j V=>?_⟩;obtain⟨v,a1,a0,a8,F⟩:=g.up j;refine⟨true,p,_,_,_,rfl,rfl,SqB.tup a0,rfl,?_⟩;refine⟨q,a1,ns,List.replicate d 0,u,1,d,rfl,k.upS j,F,hl,yU,a,o,λz X=>by rw[wF X];exact tZ _,b,l,∅,∅,λZ a7 n f=>?_⟩;rw[vD,Vr hl]at f;obtain⟨a6,C⟩:=gI b m;rw[a6,C]at f;obtain⟨M,L,_⟩:=Bd a i;obtain⟨y,Y⟩:=bK a i;refine⟨r,Z,d,_,_,ns,u,rfl,V.up n,f,a,mU,Bc M L (zF _),hl,y,Y,b,l,o,λR N a3 a4=>a2 R N _ _ ((j.trans n).trans a3) a4 λe=>?_⟩;subst e;rw[mv_c a hl];have e1:((1:Int)^(d-1))=1:=qQ;have U:((1:Int)^d)=1:=qQ;have a5:ns.map ((1:Int)*·)=ns:=by
   conv=>rhs;rw[←vX ns]
   exact yJ λz _=>uO z
  rw[e1,U,uO,a5];exact gI b m
def sp_14(K:Frag)(C:Addr):Sp:=λvs H _ E=>E6 λ(q p:Addr)(d:Nat)(xs:List Pl)(ns:LI')(u:Int)=>A5 (vs=[.ref q,.ref p]) (Wy K H p d xs) (oA H q ns u) (ns.length≠xs.length) (E (.ref C) none H)
theorem ok_14(T:Txt K mg t):FnOk P w K mg base (CX1 P w) 8 t.a_14 t.d_14 pB' (sp_14 K t.a_4):=by
 have c:=@ok_2 P w K mg base t T;refine T.F_14.okX sc_14 (λvs H Q E h=>?_) (λcdv A outer s H vs Q E hr h=>?_)
 ·obtain⟨q,p,d,xs,ns,u,rfl,_⟩:=h;rfl
 ·obtain⟨q,p,d,xs,ns,u,rfl,f,a,e,g⟩:=h;refine⟨_,(pL (mC (lW c hr.mo rfl T.F_2.m T.F_2.kp T.F_2.b .nil iU (pJ (nH T.z_len (pS (pq 0))) (pJ (pq 1) pK))))
   bV),?_⟩
  show tSeq _ _ _ [some (.ref q),some (.ref p)] H;right;refine mT a λx b=>jC (b:=true) (SqB.tup b) ?_;exact⟨p,d,ns.length,xs,rfl,f,λz=>absurd z.symm e,λ_=>g⟩
def sp_9(K:Frag)(C:Addr):Sp:=λvs H _ E=>E6 λ(q p:Addr)(d e:Nat)(xs ys:List Pl)=>A5 (vs=[.ref p,.ref q]) (Wy K H p d xs) (Wy K H q e ys) (xs.length≠ys.length) (E (.ref C) none H)
theorem ok_9(T:Txt K mg t):FnOk P w K mg base (CX1 P w) 9 t.a_9 t.d_9 pw' (sp_9 K t.a_4):=by
 have g:=@ok_2 P w K mg base t T;refine T.F_9.okX sc_9 (λvs H Q E h=>?_) (λcdv A outer s H vs Q E hr h=>?_)
 ·obtain⟨q,p,d,e,xs,ys,rfl,_⟩:=h;rfl
 ·obtain⟨q,p,d,e,xs,ys,rfl,i,j,f,k⟩:=h;obtain⟨v,m,b,a,_⟩:=id j;obtain⟨l,a,c⟩:=a.len;refine⟨_,(pL (mC (lW g hr.mo rfl T.F_2.m T.F_2.kp T.F_2.b .nil iU (pJ (nH T.z_len (pS (pq 1))) (pJ (pq 0) pK))))
   bV),?_⟩
  show tSeq _ _ _ [some (.ref p),some (.ref q),none] H;right;refine⟨true,q,_,_,_,rfl,rfl,SqB.tup b,rfl,true,v,_,rfl,(a:SqB true K H v _),?_⟩
  try ext
  rw[zqe,c];exact⟨p,d,ys.length,xs,rfl,i,λz=>absurd z f,λ_=>k⟩
def MvOk(d:Nat)(srt:Tb)(xs:List Pl):Prop:=∀x∈xs,pV (idM d,x.1,x.2)∈srt.map (·.1)
def sp_p(K:Frag)(t:Adr)(C:Addr):Sp:=λvs H Q E=>E6 λ(g v:Addr)(d:Nat)(ms:List Dd)(srt:Tb)(xs:List Pl)=>A7 (vs=[.ref g,.ref v]) (GrpF K t H g d ms srt) (Vs K H v xs) ((d=2\/d=3)) ((∀x∈xs,x.1.length=d/\0<x.2/\x.2<=2/\gl x.2 x.1=1)) ((MvOk d srt xs->∀H',Same H H'->Q .non H')) ((¬ MvOk d srt xs->∀H',Same H H'->E (.ref C) none H'))
theorem ok_p(T:Txt K mg t):FnOk P w K mg base (CX1 P w) 10 t.a_p t.d_p pm' (sp_p K t t.a_a):=by
 have Y:=@ok_y P w K mg base t T;have a3:=@ok_23 P w K mg base t T;refine T.F_p.okX sc_p (λvs H Q E h=>?_) (λcdv A outer s H vs Q E hr h=>?_)
 ·obtain⟨g,v,d,ms,srt,xs,rfl,_⟩:=h;rfl
 ·have a9:=hr.units;obtain⟨g,v,d,ms,srt,xs,rfl,C,⟨L,N,I⟩,R,f,X,O⟩:=h;have u:∀{H'},Same H H'->SqB true K H' v (L.map V.ref):=λs=>nX s _ _ N;refine⟨_,(pO (lI PassesOwn.leaving rfl (oF (pq 1)) (nP (i:=2) sc_p.nd rfl (Or.inl rfl))
   (pO (oO (oJ Cg (Dy (C:=t.a_c) (pq 0) T.cl_c T.me_y Y hr.mo T.b_y .nil mZ (pJ (pU a3 hr.mo T.F_23 (pJ (pq 2) pK)) pK)) Cr (oG _))
   (pO (jR rfl jP rfl T.m_a T.x_a yE (pJ kX pK)))
   oS)))),?_⟩
  refine lN λB eB=>?_;simp only[iSeq];show qVar 1 [some (.ref g),some (.ref v),none] H _;ext;refine⟨true,⟨_,u (Same.refl _)⟩,?_⟩;refine iA (b:=true) (g:=pY 2) (tb:=B) (λi c H'=>∃v2:Option V,c=[some (.ref g),some (.ref v),v2]/\Same H H'/\MvOk d srt (xs.take i)) ⟨none,rfl,Same.refl _,λx f=>by simp at f⟩ (λi c H' _⟨_,_,s,_⟩=>u s) ?_ ?_
  ·rintro i y c k M ⟨v2,rfl,b,e⟩;obtain⟨q,S,rfl⟩:=nM M;obtain⟨x,m,a1⟩:=nI I S;have o:=zqb m;obtain⟨hl,D,a4,Z⟩:=f x o;subst eB;show tIfS _ _ _ _ [some (.ref g),some (.ref v),some (.ref q)] k;ext;simp only[kD];ext;obtain⟨J,b1,b0,a8,a6,U,_⟩:=id (C.up b);refine⟨J,_,U,rfl,q,_,x.2,d,rfl,oA.upS a1 b,hl,R,⋯,jI (B:=2) (by show x.2.natAbs<2^2;omega) ∅,λr a5 F p=>?_⟩;obtain⟨a2,W⟩:=gI D Z;rw[a2,W]at p;refine⟨g,r,d,ms,srt,(idM d,x.1,x.2),rfl,C.up (b.trans F),nV.s p,by show(idM d).length<=100;rw[nU.1];omega,by show x.1.length<=100;omega,D,λa7 a0=>?_⟩
   try ext
   have G:=(b.trans F).trans a0;rcases Bg (y:=pV (idM d,x.1,x.2)) (srt:=srt) (n:=0) with⟨j,l⟩|⟨j,n,l⟩
   ·rw[l]
    try ext
    rw[zJ (show(none:Option V).getD V.non=V.non from rfl)];exact iteT ⟨by show 1<=sizeLine;decide,O (λz=>j (z x o)) _ G⟩
   ·rw[l]
    try ext
    rw[zK (by simp)];refine iteF ⟨G,λy a=>?_⟩;rw[vY,m]at a;rcases pA.mp a with a|a
    ·exact e y a
    ·rw[show y=x by simpa using a];exact j
  ·rintro c k ⟨v2,rfl,b,e⟩;rw[zqe,oU I,tS]at e;exact X e k b
def scM(k:Int)(M:LM):LM:=M.map λr=>r.map (k*·)
theorem Ji{d:Nat}(c:d=2\/d=3){a:Int}{M:LM}(b:Sq d M):mulM d (cM d a) M=scM a M/\mulM d M (cM d a)=scM a M:=by
 rcases c with e|e <;> subst e
 ·obtain⟨x,y,z,w,rfl⟩:=sq2 b;unfold cM;rw[id2];simp only[List.map_cons,List.map_nil];rw[mul2,mul2];simp[scM,Int.mul_comm]
 ·obtain⟨f,l,j,o,n,g,k,i,m,rfl⟩:=sq3 b;unfold cM;rw[id3];simp only[List.map_cons,List.map_nil];rw[mul3,mul3];simp[scM,Int.mul_comm]
theorem Jh{d:Nat}{a:Int}{M:LM}(b:Sq d M):Sq d (scM a M):=⟨by unfold scM;rw[zqe];exact b.1,λr hr=>by
 obtain⟨x,c,rfl⟩:=pI.mp hr;rw[zqe];exact b.2 x c⟩
theorem Vq{a b:Int}{M:LM}:scM a (scM b M)=scM (b*a) M:=by
 unfold scM;rw[yW];refine yJ λr _=>?_;show(r.map (b*·)).map (a*·)=r.map (b*a*·);rw[yW];refine yJ λz _=>?_;show a*(b*z)=b*a*z;grind
theorem Vp{B:Nat}{a:Int}(e:0<a)(f:a<=9){M:LM}(h:nA B M):nA (B+4) (scM a M):=λr hr z c=>by
 obtain⟨x,d,rfl⟩:=pI.mp hr;obtain⟨y,b,rfl⟩:=pI.mp c;rw[xD,vE,rT];exact tU (h x d y b) ⋯
def sp_k(K:Frag)(C:Addr):Sp:=λvs H Q E=>E5 λ(p q:Addr)(d:Nat)(c:Int)(x:Dd)=>A4 (vs=[.ref p,.ref q]) (DdS K H p x) (Wy K H q d (vC d c)) (((x.1.length≠d/\E (.ref C) none H)\/((d=2\/d=3)/\(c=1\/c=2\/c=3)/\Sq d x.1/\x.2.1.length=d/\(0<x.2.2/\x.2.2<2^150)/\nA 1000 x.1/\kA 1000 x.2.1/\gl x.2.2 x.2.1=1/\∀r H' y,Same H H'->DdAt K H' r y->(c=1->y=x)->Q (.ref r) H')))
theorem ok_k(T:Txt K mg t):FnOk P w K mg base (CX1 P w) 9 t.a_k t.d_k ["one","way"] (sp_k K t.a_4):=by
 have k5:=@ok_2 P w K mg base t T;have h3:=@ok_1o P w K mg base t T;have g5:=@ok_22 P w K mg base t T;have f5:=@ok_1t P w K mg base t T;have k0:=@ok_1a P w K mg base t T;have i4:=@ok_u P w K mg base t T;have k8:=@ok_1r P w K mg base t T;refine T.F_k.okX sc_k (λvs H Q E h=>?_) (λcdv A outer s H vs Q E hr h=>?_)
 ·obtain⟨p,q,d,c,x,rfl,_⟩:=h;rfl
 ·obtain⟨p,q,d,c,⟨M,ts,u⟩,rfl,c5,G,h⟩:=h;refine⟨_,(pL (mC (lW k5 hr.mo rfl T.F_2.m T.F_2.kp T.F_2.b .nil iU (pJ (nH T.z_len (pS (pq 0))) (pJ (pq 1) pK))))
   (pL (pW (i:=2) sc_k.nd rfl (Or.inl rfl) (pU h3 hr.mo T.F_1o (pJ (pq 1) pK)))
   (pL (pW (i:=3) sc_k.nd rfl (Or.inl rfl) (pU g5 hr.mo T.F_22 (pJ (pq 1) pK)))
   (pL (pW (i:=4) sc_k.nd rfl (Or.inl rfl) (pU f5 hr.mo T.F_1t (pJ (pU f5 hr.mo T.F_1t (pJ (pS (pq 3)) (pJ (pS (pq 0)) pK))) (pJ (pS (pq 2)) pK))))
   (pL (pW (i:=5) sc_k.nd rfl (Or.inr rfl) (pQ oW (pS (pq 3)) (pS (pq 2))))
   (pL (oO (jV (oP (dZ rfl) rfl T.z_any (nofun) (pJ (oQ (sc:=pM eL) (N:=N_k) (fr:=[("under",5)]) (te:=(tCB (λxs H Q=>∃(p:Addr)(bs:List Bool),xs=[.ref p]/\SqL K H p (bs.map V.bl)/\Q (.bl (bs.any id)) H) (pZ (nF (iSeq K (tVar 0)) (pY 0) (tEl (tOp (rI0 λi j=>.bl (!decide (i=j))) (tOp (rI (λ_ j=>j≠0) λi j=>.int (i.fmod j)) (tVar 0) (tVar 1)) (tC (.int 0)))) 1 [("under",1)]) tNil))) rfl rfl (nofun) rfl (nofun) (oF (pq 4)) (λ_ _ _ c2=>(oP (dZ rfl) rfl T.z_any (nofun) (pJ (oQ (N:=["row","under"]) (fr:=[("under",1)]) (te:=(tOp (rI0 λi j=>.bl (!decide (i=j))) (tOp (rI (λ_ j=>j≠0) λi j=>.int (i.fmod j)) (tVar 0) (tVar 1)) (tC (.int 0)))) c2 rfl (nofun) rfl (nofun) (oF (pv 0)) (λ_ _ _ j8=>(iQ mJ (pQ nZ (pv 0) (pv 1)) pP (oG _)))) pK)))) pK)))
   (pO iO)
   oS)
   (pL (iB (i:=6) (sc:=pM eL) (N:=N_k) (fr:=[("under",5)]) (te:=(nF (iSeq K (tVar 0)) (pY 0) (tEl (tOp (rI lX λi j=>.int (i.fdiv j)) (tVar 0) (tVar 1))) 1 [("under",1)])) rfl rfl (nofun) rfl sc_k.nd rfl rfl (nofun) (oF (pq 4)) (λ_ _ _ c2=>(oQ (N:=["row","under"]) (fr:=[("under",1)]) (te:=(tOp (rI lX λi j=>.int (i.fdiv j)) (tVar 0) (tVar 1))) c2 rfl (nofun) rfl (nofun) (oF (pv 0)) (λ_ _ _ j8=>(pQ mF (pv 0) (pv 1))))))
   (pO (oB (pU k0 hr.mo T.F_1a (pJ (pq 6) (pJ (mX i4 hr.mo rfl T.F_u.m T.F_u.kp T.F_u.b .nil lJ (pJ (pU k8 hr.mo T.F_1r (pJ (pq 0) (pJ (pS (pq 1)) pK))) (pJ (pq 1) pK))) pK)))))))))))),?_⟩
  show tSeq _ _ _ [some (.ref p),some (.ref q),none,none,none,none,none] H;right;refine jH c5 λa g2=>gP g2 ?_;refine⟨q,d,M.length,_,rfl,G,λz=>?_,λz=>?_⟩
  case refine_2 =>
   rw[mV]at z;rcases h with⟨_,h8⟩|⟨_,_,hl,_⟩
   ·exact h8
   ·exact absurd hl.1.symm z
  rw[mV]at z;rcases h with⟨b2,_⟩|⟨f,l,b,lt,⟨b6,e0⟩,a1,d6,f3,l3⟩
  ·exact absurd z.symm b2
  replace b:Sq d M:=b;replace lt:ts.length=d:=lt;obtain⟨e3,d0,l0⟩:=Bd f l;obtain⟨l9,m9⟩:=bK f l;have e7:=b.1;have d2:∀{A:LM},Sq d A->A≠[]:=λh z=>by have:=h.1;rw[z]at this;simp at this;omega
  left;refine⟨q,d,c,rfl,G,f,l,λo m7 f2 k7=>?_⟩;left;refine⟨q,d,c,rfl,G.up f2,f,l,λn m4 c6 b2=>?_⟩;obtain⟨g3,d3,j3⟩:=b2;obtain⟨i9,f7,h6⟩:=k7.up c6;have c9:=f2.trans c6;have b1:nA 1004 (scM (c^(d-1)) M):=Vp e3 d0 a1;left;refine⟨true,n,_,_,_,rfl,rfl,SqB.tup d3,rfl,?_⟩;refine jH (c5.up c9) λJ a2=>?_;have m0:=(mU (d:=d) (c:=c^(d-1))).1;refine⟨false,false,true,true,g3,J,cM d (c^(d-1)),M,d,rfl,j3.b,a2,d2 b,b.2,λr hr=>by rw[mU.2 r hr,e7],⋯,⋯,⋯,?_,λg1 m1 m5 I c7=>?_⟩
  ·exactλr hr z g a3 b5 y b4=>yG (oN (Bc e3 d0 (zF 4) r hr z g)) (oN (a1 a3 b5 y b4)) ∅
  rw[(Ji f b).1]at c7;have n3:=c6.trans I;refine⟨true,o,_,_,_,rfl,rfl,SqB.tup (I _ _ f7),rfl,?_⟩;have j5:=(mU (d:=d) (c:=c)).1;have c4:=Jh (a:=c^(d-1)) b;have m3:=c4.1;refine⟨false,false,false,false,g1,i9,scM (c^(d-1)) M,cM d c,d,rfl,c7.b,(h6.up I).b,d2 mU,mU.2,λr hr=>by rw[c4.2 r hr,j5],⋯,⋯,⋯,?_,λn1 l7 l6 f6 f0=>?_⟩
  ·exactλr hr z g a3 b5 y b4=>yG (oN (b1 r hr z g)) (oN (fH l (zF 2) a3 b5 y b4)) ∅
  rw[(Ji f c4).2,Vq,l0]at f0;have g6:=(c9.trans I).trans f6;have e9:=I.trans f6;have a8:=Jh (a:=c^d) b;generalize c^d=D at*
  left;refine⟨true,n,_,_,_,rfl,rfl,SqB.tup (e9 _ _ d3),rfl,?_⟩;refine⟨true,o,_,_,_,rfl,rfl,SqB.tup (e9 _ _ f7),rfl,?_⟩
  try ext
  refine⟨yG (oN (show D.natAbs<2^5 by omega)) (oN (show(1:Int).natAbs<2^1 by decide)) ∅,?_⟩;rw[vD];obtain⟨xs,a4,c1,f8⟩:=(f0.b (K:=K)).walk;have b3:=a8.1;have d7:∀(ys:List V),(∀(j:Nat) y,ys[j]?=some y->y=V.bl false)->ys=(List.replicate ys.length false).map V.bl:=λys h=>by
   refine xQ (by rw[zqe,yU]) λj e6 d4=>?_;rw[xU,List.getElem_replicate];exact h j _ (zqd e6)
  have g0:∀n:Nat,(List.replicate n false).any id=false:=λn=>by
   rw[tJ];intro z g;rw[wF g]
   decide
  have h0:∀z:Int,lX z D:=λz=>⟨⋯,zI ((qU ⋯).mpr (show D.natAbs<2^30 by omega)) ∅⟩;left;exfalso;refine⟨false,⟨_,a4⟩,λi3 j7=>?_⟩;refine oM (λj y _=>y=V.bl false) j7 a4 (by rw[c1,b3];omega) (λ_ _ _ _ h _=>h) ?_ ?_
  ·intro j y f9 zs N F n0 l1 k4;obtain⟨b9,r,rfl,Y,X⟩:=f8 j y N;have d5:=zqb Y;have k3:r.length=d:=a8.2 r d5;obtain⟨a0,_,Z⟩:=pI.mp d5;subst eB;show tCB _ _ [some (.ref b9),some (.int D)] f9 l1;ext;exfalso;refine⟨false,⟨_,X.up F⟩,λa5 S=>?_⟩;refine oM (λk y _=>y=V.bl false) S (X.up F) (by rw[zqe];omega) (λ_ _ _ _ h _=>h) ?_ ?_
   ·intro k y L m2 b7 m f4 a9 b8;obtain⟨U,R,rfl⟩:=nS b7;have f1:=zqb R;rw[←Z]at f1;obtain⟨e4,_,c3⟩:=pI.mp f1;subst eB;show tOp _ _ _ [some (.int U),some (.int D)] L a9;ext;refine⟨⋯,b8 _ _ (Same.refl _) ?_⟩;rw[show U.fmod D=0 by rw[←c3];exact Int.mul_fmod_right ..];rfl
   ·intro L ys m a7 j0 c0;have N:=d7 ys c0;refine⟨a5,rfl,List.replicate ys.length false,by rw[←N];exact SqL.of a7,?_⟩;rw[g0];exact k4 _ _ m rfl
  ·intro f9 ys F g9 j0 i1;have N:=d7 ys i1;refine⟨i3,rfl,List.replicate ys.length false,by rw[←N];exact SqL.of g9,?_⟩;rw[g0]
   try ext
   have k9:=g6.trans F;have e5:=SqB.up a4 F;left;exfalso;refine⟨false,⟨_,e5⟩,λJ a2=>?_⟩;refine oM (RowR J λj=>M.getD j []) a2 e5 (by rw[c1,b3];omega) (RowR.mono (a:=J)) ?_ ?_
   ·intro j y L zs b7 m f4 a9 b8;obtain⟨b9,r,rfl,Y,X⟩:=f8 j y b7;have k3:r.length=d:=a8.2 r (zqb Y);have e2:=Y;unfold scM at e2;obtain⟨a0,i8,Z⟩:=nM e2;have i0:M.getD j []=a0:=by rw[zqc,i8];rfl
    have e8:=(X.up F).up m;subst eB;show nF _ _ _ _ _ [some (.ref b9),some (.int D)] L a9;exfalso;refine⟨false,⟨_,e8⟩,λa5 S=>?_⟩;refine oM (λk y _=>∃n,a0[k]?=some n/\y=.int n) S e8 (by rw[zqe];omega) (λ_ _ _ _ h _=>h) ?_ ?_
    ·intro k y b0 l8 a6 C m8 j4 i5;obtain⟨U,R,rfl⟩:=nS a6;rw[Z]at R;obtain⟨e4,c3,h1⟩:=nM R;subst eB;show tOp _ _ _ [some (.int U),some (.int D)] b0 j4;ext;refine⟨h0 _,i5 _ _ (Same.refl _) ⟨e4,c3,?_⟩⟩;rw[h1,Int.mul_fdiv_cancel_left _ ⋯]
    ·intro b0 h7 C k2 l4 O;have a6:h7=a0.map V.int:=nE (by rw[l4,zqe,Z,zqe]) O;subst a6;exact b8 _ _ C ⟨a5,rfl,zS (oY f4 S),by dsimp only;rw[i0];exact k2⟩
   ·intro L j6 m a7 i7 c0;have d1:=MatL.of a7 c0;have e:(List.range j6.length).map (λj=>M.getD j [])=M:=by
     rw[i7,c1,b3,←e7];refine xQ (by rw[zqe,wY]) λi e6 d4=>?_;rw[xU,vV,zqc,zqd d4];rfl
    rw[e]at d1;have W:=k9.trans m;obtain⟨v,l2,k1,n2,k6⟩:=G.up W;symm;refine⟨true,q,_,_,_,rfl,rfl,SqB.tup k1,rfl,?_⟩;have h4:Fine d M ts u:=⟨b,lt,b6,a1.le ∅,d6.le ∅,by have:u<2^150:=e0;omega⟩;refine⟨p,l2,M,ts,List.replicate d 0,u,1,d,rfl,c5.up W,k6.s,h4,⋯,⋯,yU,λz g=>by rw[wF g];exact tZ _,∅,∅,λg8 b0 C O=>?_⟩;rw[(Bn f b lt).1,vD]at O;obtain⟨l5,j2⟩:=gI b6 f3;rw[l5,j2]at O;refine⟨g8,q,d,c,ts,u,rfl,G.up (W.trans C),O,.inr ⟨f,l,lt,b6,by have:u<2^150:=e0;omega,d6.le ∅,f3,λj9 m6 d8 d9 c8 i2 j1=>?_⟩⟩;exact⟨false,false,J,j9,M,d8,d9,rfl,((d1.up C).up c8).b,i2,⋯,λg4 h5 h2 g7=>l3 g4 h5 (M,d8,d9) (((W.trans C).trans c8).trans h2) g7 λz=>by obtain⟨i6,h9⟩:=j1 z;rw[i6,h9]⟩
def sp_1c(K:Frag):Sp:=λvs H Q _=>E5 λ(a s:Addr)(qs:LA)(xs:List Pl)(d:Nat)=>A10 (vs=[.ref a,.ref s]) (H a=some (.lst (qs.map V.ref))) (Paired (λq(x:Pl)=>oA H q x.1 x.2) qs xs) (xs.length=d) (oA H s (List.replicate d 0) 1) ((d=2\/d=3)) ((∀x∈xs,x.1.length=d/\0<x.2/\x.2<=2/\gl x.2 x.1=1)) (nA 2 (xs.map (·.1))) (detM d (xs.map (·.1))≠0) (∀r H',Same H H'->Wy K H' r d xs->Q (.ref r) H')
theorem ok_1c(T:Txt K mg t):FnOk P w K mg base CX0 6 t.a_1c t.d_1c pp' (sp_1c K):=by
 have a9:=@ok_12 P w K mg base t T;apply T.F_1c.ok sc_1c
 ·obtain⟨a,f4,a8,xs,d,rfl,a3,o,R,b7,g3,m,b8,e7,f5⟩:=h;have e8:FnOk P w K mg base CX0 (d+1) t.a_1 t.d_1 pD' (sp_1 K d):=ok_1 T d;have hl:a8.length=d:=(oU o).trans R;refine⟨_,(pL (pW (i:=2) sc_1c.nd rfl (Or.inr rfl) (nH T.z_len (pq 0)))
   (pL (oO (oJ dI (pq 2) (oX (pJ pP (pJ pP pK))) rfl)
   (pO iO)
   oS)
   (pL (oO (PW.pt (fM (jV (oP (dZ rfl) rfl T.z_any (nofun) (pJ (oQ (sc:=pM s_1c) (N:=N_1c) (fr:=[("axes",2)]) (te:=(tOp (rI0 λi j=>.bl (!decide (i=j))) (tCB (iW K) (pZ (tOp (rIxB K) (tVar 0) (tC (.int 0))) tNil)) (tVar 1))) rfl rfl (nofun) rfl (nofun) (oF (pq 0)) (λ_ _ _ b5=>(iQ mJ (nH T.z_len (pS (pv 0))) (pv 1) (oG _)))) pK))) (fK (oJ mJ (nH T.z_len (pS (pq 1))) (pq 2) (oG _)))))
   (pO iO)
   oS)
   (pL (oO (oJ lK (pU e8 hr.mo T.F_1 (pJ (oQ (sc:=pM s_1c) (N:=N_1c) (fr:=[]) (te:=(tOp (rIxB K) (tVar 0) (tC (.int 0)))) rfl rfl (nofun) rfl (nofun) (oF (pq 0)) (λ_ _ _ b5=>(pS (pv 0)))) pK)) pP (oG _))
   (pO iO)
   oS)
   (pO (oB (oX (pJ (oZ mK rfl T.z_tuple (nofun) (pJ (oQ (sc:=pM s_1c) (N:=N_1c) (fr:=[]) (te:=(oV (sp_12 K t.a_1i) [] E0 (pZ (tOp (rIxB K) (tVar 0) (tC (.int 0))) (pZ (tOp (rIxB K) (tVar 0) (tC (.int 1))) tNil)))) rfl rfl (nofun) rfl (nofun) (oF (pq 0)) (λ_ _ _ b5=>(mX a9 hr.mo rfl T.F_12.m T.F_12.kp T.F_12.b .nil lJ (pJ (pS (pv 0)) (pJ (pS (pv 0)) pK))))) pK)) (pJ (mX a9 hr.mo rfl T.F_12.m T.F_12.kp T.F_12.b .nil lJ (pJ (pS (pq 1)) (pJ (pS (pq 1)) pK))) pK))))))))),?_⟩
  show tSeq _ _ _ [some (.ref a),some (.ref f4),none] H;right;refine⟨false,a,_,rfl,SqB.lst a3,?_⟩;rw[zqe,hl];left;refine⟨by show 2<=sizeLine;decide,λa0 f0=>?_⟩;have v:Same H (upd H a0 (.tup [.int 2,.int 3])):=Same.new f0;refine⟨a0,_,rfl,.inr (SqT.of pN),rfl,rfl,_,rfl,?_⟩;generalize upd H a0 (.tup [.int 2,.int 3])=g1 at v;rw[inV2,zJ (show(d:Int)=2\/(d:Int)=3 by omega)];refine iteF ?_;have f:∀{H'},Same H H'->SqB false K H' a (a8.map V.ref):=λs=>SqB.lst (s _ _ a3);left;exfalso;refine⟨false,⟨_,f v⟩,λd6 e4=>?_⟩;refine oM (λj y _=>y=V.bl false) e4 (f v) (by rw[zqe];omega) (λ_ _ _ _ h _=>h) ?_ ?_
  ·intro j y b2 zs c a1 Z G D;obtain⟨q,F,rfl⟩:=nM c;obtain⟨x,g,M⟩:=nI o F;subst eB;show tOp _ _ _ [some (.ref q),some (.int d)] b2 G;ext;refine mT (oA.upS M (v.trans a1)) λa4 u=>jC (b:=true) (SqB.tup u) ?_
   try ext
   refine D _ _ (Same.refl _) ?_;rw[(m x (zqb g)).1,zJ rfl];rfl
  ·intro b2 ys a1 c8 g2 c5;have c:ys=(List.replicate ys.length false).map V.bl:=by
    refine xQ (by rw[zqe,yU]) λj d5 f7=>?_;rw[xU,List.getElem_replicate];exact c5 j _ (zqd d5)
   have f3:(List.replicate ys.length false).any id=false:=by
    rw[tJ];intro z f2;rw[wF f2]
    decide
   refine⟨d6,rfl,List.replicate ys.length false,by rw[←c];exact SqL.of c8,?_⟩;rw[f3]
   try ext
   have k:=v.trans a1;refine mT (b7.upS k) λf9 c7=>jC (b:=true) (SqB.tup c7) ?_
   try ext
   rw[yU,zJ rfl];refine iteF ?_;left;exfalso;refine⟨false,⟨_,f k⟩,λg0 c0=>?_⟩;refine oM (λj y _=>∃q x,y=V.ref q/\xs[j]?=some x/\SqT K H q (x.1.map V.int)) c0 (f k) (by rw[zqe];omega) (λ_ _ _ _ h _=>h) ?_ ?_
   ·intro j y a6 zs c U Z G D;obtain⟨q,F,rfl⟩:=nM c;obtain⟨x,g,z,O,S⟩:=nI o F;subst eB;show tOp _ _ _ [some (.ref q)] a6 G;ext;exact⟨true,q,_,_,_,rfl,rfl,SqB.tup ((k.trans U) _ _ O),rfl,D _ _ (Same.refl _) ⟨z,x,rfl,g,SqT.of S⟩⟩
   ·intro a6 g4 U f6 c6 c3;have b0:=k.trans U;have c9:=Jj o (by rw[c6,zqe]) c3 b0 f6;have e5:Sq d (xs.map (·.1)):=⟨by rw[zqe];exact R,λr hr=>by
     obtain⟨x,u,rfl⟩:=pI.mp hr;exact(m x u).1⟩
    refine cS ⋯ ⋯ c9 e5 b8 ∅ λf8 e3=>?_
    try ext
    have p:=b0.trans e3;rw[zK e7];refine iteF ?_;have a2:=gI (u:=1) (ns:=List.replicate d 0) ∅ (eV _);symm;exfalso;refine⟨false,⟨_,f p⟩,λa7 d2=>?_⟩;refine oM (λj y H'=>∃J x,y=V.ref J/\xs[j]?=some x/\oA (offH a7 H') J x.1 x.2) d2 (f p) (by rw[zqe];omega) (λ_ _ _ _⟨J,x,X,W,N⟩f1=>⟨J,x,X,W,oA.upS N (gG f1)⟩) ?_ ?_
    ·intro j y e zs c L Z G D;obtain⟨q,F,rfl⟩:=nM c;obtain⟨x,g,c1⟩:=nI o F;obtain⟨a5,e6,g5,e9⟩:=m x (zqb g);have M:=oA.upS c1 (p.trans L);subst eB;show oV _ _ _ _ [some (.ref q)] e G;ext;refine mT M λa4 u=>kG M ?_;refine⟨true,a4,_,x.2,rfl,SqB.tup u,⋯,jI (B:=2) (by show x.2.natAbs<2^2;omega) ∅,λz=>?_,λ_ _ r d3 b n=>?_⟩
     ·rcases z with z|z
      ·omega
      ·rw[z]at a5;simp at a5;omega
     ·obtain⟨e0,d7⟩:=gI e6 e9;rw[e0,d7]at n;obtain⟨z,O,S⟩:=n;have tk:=jJ (K:=K) (b _ _ Z);exact D _ _ b ⟨r,x,rfl,g,z,tk.k _ _ O,tk.k _ _ S⟩
    ·intro e d9 L c4 b9 d4;have e2:∃ps:LA,d9=ps.map V.ref/\Paired (λq(x:Pl)=>oA e q x.1 x.2) ps xs:=jS (by rw[b9,zqe,hl,R]) λj y d0=>by
      obtain⟨q,x,X,W,N⟩:=d4 j y d0;exact⟨q,x,X,W,oA.upS N gF⟩
     obtain⟨C,rfl,c2⟩:=e2;refine⟨a7,_,rfl,.inl ⟨SqL.of c4,λl d8=>?_⟩⟩;have b:Same e (upd e l (.tup (C.map V.ref))):=Same.new d8;have b3:(upd e l (.tup (C.map V.ref))) l=some (.tup (C.map V.ref)):=pN;generalize upd e l (.tup (C.map V.ref))=d3 at b b3;have b6:=b7.upS ((p.trans L).trans b);refine mT b6 λx m=>kG b6 ?_;refine⟨true,x,_,1,rfl,SqB.tup m,by rw[yU];omega,jI (B:=1) ∅ ∅,λz=>?_,λ_ _ r b1 Y n=>?_⟩
     ·rcases z with z|z
      ·omega
      ·have:=wE List.length z;rw[yU]at this;simp at this;omega
     ·rw[a2.1,a2.2]at n;refine⟨(by show 2<=sizeLine;decide),λb4 d1=>?_⟩;have I:Same b1 (upd b1 b4 (.tup [.ref l,.ref r])):=Same.new d1;exact f5 b4 _ ((((p.trans L).trans b).trans Y).trans I) ⟨l,r,pN,⟨C,SqT.of (I _ _ (Y _ _ b3)),Paired.mapP c2 λ_ _ z=>oA.upS z ((b.trans Y).trans I)⟩,n.upS I⟩
theorem Bb{k:Nat}{L:List Stp}{a:LI'}{su:Int}(ok:kH k L a su){x:Dd}(b:InK (frk k L a su) x):mO (fmD k) x/\pV x=x:=⟨(bH ok b).fine,(bH ok b).rest⟩
structure GoK(k:Nat)(L:List Stp)(S:LI')(su:Int)(ds ms:List Dd)(srt:Tb):Prop where
 sub:∀m∈ms,m∈ds
 pm:srt.Perm (tab (fmD k) (ms.map pV) 12)
 od:srt.Pairwise λp q=>lx (fl (dat q.1)) (fl (dat p.1))=false
def sp_17(K:Frag)(t:Adr):Sp:=λvs H Q _=>E8 λ(b:Bool)(a:Addr)(ps:LA)(ds:List Dd)(k:Nat)(L:List Stp)(S:LI')(su:Int)=>A7 (vs=[.int (fmD k),.ref a]) (SqB b K H a (ps.map V.ref)) (Paired (DdAt K H) ps ds) (kH k L S su) ((∀m∈ds,mO (fmD k) m/\InK (frk k L S su) (pV m))) (ds.length<=199) (∀g ms srt H',Same H H'->GrpF K t H' g (fmD k) ms srt->GoK k L S su ds ms srt->(∀m∈ds,pV m∈srt.map (·.1))->Q (.ref g) H')
theorem Ba{k:Nat}{L:List Stp}{d:LI'}{su:Int}(ok:kH k L d su){ds:List Dd}(e:∀m∈ds,mO (fmD k) m/\InK (frk k L d su) (pV m)){ms:List Dd}(c:∀m∈ms,m∈ds)(hl:ms.length<=200){H:Hp}{a g j:Addr}{ps:LA}(u:H g=some (.ins t.a_c j []))(r:SqB false K H a (ps.map V.ref))(D:Paired (DdS K H) ps ms){Q:VK}{E:XK}
  (C:∀srt H',(∀b o,b≠g->H b=some o->H' b=some o)->GrpF K t H' g (fmD k) ms srt->GoK k L d su ds ms srt->Q .non H'):Hh K t [.ref g,.int (fmD k),.ref a,.int 200] H Q E:=by
 have f:=ok.ok;have q:∀s∈ms.map pV,InK (frk k L d su) s:=λs h=>by
  obtain⟨m,F,rfl⟩:=pI.mp h;exact(e m (c m F)).2
 have tb:=fF f q 12;exact⟨false,fmD k,a,g,j,ps,ms,InK (frk k L d su),12,rfl,u,lG k,r,D,hl,λs h=>(e s (c s h)).1,λs h=>(Bb ok (e s (c s h)).2).1,λx i=>(Bb ok i).1,bF f,λx s i h=>Bj f i (e s (c s h)).2,
   zR tb.1 ∅,tb.1,λy l=>(Bb ok (tb.2 y l)).1,fD,λsrt n p v z od=>C srt n p v ⟨c,z,od⟩⟩
theorem ok_17(T:Txt K mg t):FnOk P w K mg base CX0 15 t.a_17 t.d_17 ["d","deeds"] (sp_17 K t):=by
 have c9:=@ok_0 P w K mg base t T;have d9:=@ok_y P w K mg base t T;have d6:=@ok_d P w K mg base t T;apply T.F_17.ok sc_17
 ·have g5:=hr.units;obtain⟨b,a,ps,ds,k,L,b6,su,rfl,b7,c3,ok,J,g6,g4⟩:=h;have f4:=lG k;have d5:ps.length=ds.length:=oU c3;refine⟨_,(pL (pW (i:=2) sc_17.nd rfl (Or.inl rfl) (aD (C:=t.a_c) (T.mk_c) c9 hr.mo rfl T.m_c T.bd_Group___init__ (dvs:=[.int 200]) (.cons ⟨_,rfl⟩ .nil) mZ (pJ (pq 0) (pJ (nW pK) pK))))
   (pL (lI yR rfl (oF (pq 1)) (nP (i:=3) sc_17.nd rfl (Or.inl rfl))
   (pO (oO (oJ Cg (Dy (C:=t.a_c) (pq 2) T.cl_c T.me_y d9 hr.mo T.b_y .nil mZ (pJ (pq 3) pK)) Cr (oG _))
   (pO (pW (i:=2) sc_17.nd rfl (Or.inl rfl) (aD (C:=t.a_c) (T.mk_c) c9 hr.mo rfl T.m_c T.bd_Group___init__ (dvs:=[.int 200]) (.cons ⟨_,rfl⟩ .nil) mZ (pJ (pq 0) (pJ (pQ jO (jW (C:=t.a_c) (pq 2) T.cl_c T.me_d d6 hr.mo T.b_d .nil mZ) (nW (pJ (pq 3) pK))) pK)))))
   oS)))
   (pO (oB (pq 2))))),?_⟩
  show tSeq _ _ _ [some (.int (fmD k)),some (.ref a),none,none] H;right;simp only[dF];ext;refine⟨by show 0<=sizeLine;decide,λv b3=>?_⟩;have a3:Same H (upd H v (.lst [])):=Same.new b3;have b0:(upd H v (.lst [])) v=some (.lst (([]:LA).map V.ref)):=pN;generalize upd H v (.lst [])=c0 at a3 b0;intro g c4 a4 g2 f6;have d0:Same c0 (upd (upd c0 c4 (.own g)) g (.ins t.a_c c4 [])):=(Same.new g2).trans (Same.new (by rw[pR (zS f6)];exact a4));refine Ba ok J (ms:=[]) (λm c=>by cases c) ∅ pN (SqB.lst (d0 _ _ b0)) .nil λsrt e4 e0 f8 e8=>⟨rfl,?_⟩;have b5:Same H e4:=λb o e=>e0 b o (λz=>by rw[z]at e;rw[a3 _ _ e]at a4;cases a4) (d0 _ _ (a3 _ _ e));subst e1;refine st λN1 e1=>lN λB eB=>?_;simp only[iSeq];ext;refine⟨b,⟨_,b7.up b5⟩,?_⟩;refine iA (b:=b) (g:=pY 3) (tb:=B) (λi D H'=>∃(g:Addr)(ms:List Dd)(srt:Tb)(v3:Option V),D=[some (.int (fmD k)),some (.ref a),some (.ref g),v3]/\Same H H'/\GrpF K t H' g (fmD k) ms srt/\GoK k L b6 su ds ms srt/\ms.length<=i/\∀(j:Nat) m,j<i->ds[j]?=some m->pV m∈srt.map (·.1)) ⟨g,[],srt,none,rfl,b5,f8,e8,zF _,λj m f=>absurd f (rZ j)⟩ (λi D H' _⟨_,_,_,_,_,s,_⟩=>b7.up s) ?_ ?_
  ·rintro i y D W f2 ⟨g,ms,srt,v3,rfl,N,u,r,b4,I⟩;obtain⟨q,d7,rfl⟩:=nM f2;obtain⟨x,O,a7⟩:=nI c3 d7;have c2:=zqb O;obtain⟨a5,e5⟩:=J x c2;have hi:i<ds.length:=(zqa O).1;subst eB;show tIfS _ _ _ _ [some (.int (fmD k)),some (.ref a),some (.ref g),some (.ref q)] W;ext;simp only[kD];ext;obtain⟨f7,g3,g1,f9,f5,Y,_⟩:=id u;refine⟨f7,_,Y,rfl,g,q,fmD k,ms,srt,x,rfl,u,nV.s (a7.up N),by rw[a5.sq.1];omega,by rw[a5.len];omega,a5.pos,λg7 c8=>?_⟩
   try ext
   have R:=N.trans c8;have a0:=u.up c8;rcases Bg (y:=pV x) (srt:=srt) (n:=0) with⟨a8,X⟩|⟨a8,n,X⟩
   case inr =>
    rw[X]
    try ext
    rw[zK (by simp)];refine iteF ⟨R,ms,srt,a0,r,⋯,λj m f d=>?_⟩
    by_cases Z:j=i
    ·subst Z;rw[O]at d;cases d;exact a8
    ·exact I j m ⋯ d
   rw[X]
   try ext
   rw[zJ (show(none:Option V).getD V.non=V.non from rfl)];refine iteT ?_;simp only[dF];ext;simp only[kD];ext;obtain⟨d3,g3,g1,f9,f5,Y,_⟩:=id a0;refine⟨d3,_,Y,rfl,g,fmD k,ms,srt,rfl,a0,λl p F f1 b3 hl a9=>?_⟩;have g8:p.length=ms.length:=oU a9;refine⟨by show 1<=sizeLine;decide,λl1 f3=>?_⟩;have M:Same F (upd F l1 (.lst [.ref q])):=Same.new f3;have c7:(upd F l1 (.lst [.ref q])) l1=some (.lst [.ref q]):=pN;generalize upd F l1 (.lst [.ref q])=G at M c7;refine⟨l,l1,_,_,rfl,rfl,M _ _ hl,c7,by rw[zqe];exact zR (show p.length+1<=1000 by omega) ∅,λl2 f0=>?_⟩;have S:Same G (upd G l2 (.lst (p.map V.ref++[.ref q]))):=Same.new f0;have c1:(upd G l2 (.lst (p.map V.ref++[.ref q]))) l2=some (.lst ((p++[q]).map V.ref)):=by rw[pN,xK];rfl
   generalize upd G l2 (.lst (p.map V.ref++[.ref q]))=b9 at S c1;intro b2 b8 a6 g0 e7;have C:Same b9 (upd (upd b9 b8 (.own b2)) b2 (.ins t.a_c b8 [])):=(Same.new g0).trans (Same.new (by rw[pR (zS e7)];exact a6));have d8:=(M.trans S).trans C;have U:=(f1.trans M).trans S;refine Ba ok J (ms:=ms++[x]) (λm c=>?_) (by rw[yI];show ms.length+1<=200;omega) pN (SqB.lst (C _ _ c1)) (qF (Paired.mapP a9 λ_ _ z=>DdS.up z d8) (((DdAt.s a7).up R).up (U.trans C))) λc6 e3 e9 e2 a1=>⟨rfl,?_⟩
   ·rcases pA.mp c with h|h
    ·exact r.sub m h
    ·rw[qX.mp h];exact c2
   have d1:Same H e3:=λb o e=>e9 b o (λz=>by rw[z]at e;rw[U _ _ (R _ _ e)]at a6;cases a6) (C _ _ (U _ _ (R _ _ e)));have b1:=ok.ok;have d2:∀s∈(ms++[x]).map pV,InK (frk k L b6 su) s:=λs h=>by
    obtain⟨m,c,rfl⟩:=pI.mp h;exact(J m (a1.sub m c)).2
   have tb:=fF b1 d2 12;have c5:∀y,y∈(tab (fmD k) ((ms++[x]).map pV) 12).map (·.1)->y∈c6.map (·.1):=λy a2=>(a1.pm.map (·.1)).mem_iff.mpr a2;refine⟨d1,ms++[x],c6,e2,a1,by rw[yI];exact Nat.succ_le_succ b4,λj m f d=>?_⟩
   by_cases Z:j=i
   ·subst Z;rw[O]at d;cases d;exact c5 _ (Vy f4 tb.1 (pI.mpr ⟨x,yO _ (.head _),rfl⟩) (bG b1 e5))
   ·have e6:=I j m ⋯ d;have d4:=(r.pm.map (·.1)).mem_iff.mp e6;obtain⟨y,a2,e⟩:=pI.mp d4;rw[←e];exact c5 _ (Vz (λs h=>by rw[xK];exact xJ _ h) tb.1 y a2)
  ·rintro D W ⟨g,ms,srt,v3,rfl,N,u,r,b4,I⟩;symm;refine g4 g ms srt W N u r λm c=>?_;obtain⟨j,f⟩:=xP c;exact I j m (by rw[zqe,d5];exact(zqa f).1) f
theorem ok_1h(T:Txt K mg t):∀n:Nat,FnOk P w K mg base CX0 (n+2) t.a_1h t.d_1h ["thing"] (sp_1h n):=by
 intro n
 induction n with
 |zero =>
  apply T.F_1h.ok sc_1h
  ·obtain⟨x,rfl,⟨i,rfl⟩,f⟩:=h;refine⟨_,(pL (oO (jV (oP (Gv T.k_il T.k_it) (by rfl) T.z_isinstance (nofun) (pJ (pq 0) (pJ (oX (pJ (gJ (v:=.ty "list") rfl T.z_list (nofun) rfl) (pJ (gJ (v:=.ty "tuple") rfl T.z_tuple (nofun) rfl) pK))) pK)))) bV oS) (pO (oB (pq 0)))),?_⟩;show tSeq _ _ _ [some (.int i)] H;ext;refine⟨by show 2<=sizeLine;decide,λp d=>⟨_,p,false,rfl,pN,.inl ⟨i,rfl,rfl⟩,false,rfl,?_⟩⟩;refine iteF ?_;exact f _ _ (Same.new d) λa xs e=>by cases e
 | succ n m =>
  have v:=m;apply T.F_1h.ok sc_1h
  ·obtain⟨x,rfl,⟨a,xs,rfl,c,hl,o⟩,f⟩:=h;refine⟨_,(pL (oO (jV (oP (Gv T.k_il T.k_it) (by rfl) T.z_isinstance (nofun) (pJ (pq 0) (pJ (oX (pJ (gJ (v:=.ty "list") rfl T.z_list (nofun) rfl) (pJ (gJ (v:=.ty "tuple") rfl T.z_tuple (nofun) rfl) pK))) pK))))
   (pO (oB (oQ (sc:=pM s_1h) (N:=N_1h) (fr:=[]) (te:=(oV (sp_1h n) [] E0 (pZ (tVar 0) tNil))) rfl rfl (nofun) rfl (nofun) (oF (pq 0)) (λ_ _ _ I=>(pU v hr.mo T.F_1h (pJ (pv 0) pK))))))
   oS)
   (pO (oB (pq 0)))),?_⟩
   show tSeq _ _ _ [some (.ref a)] H;ext;refine⟨by show 2<=sizeLine;decide,λp d=>⟨_,p,true,rfl,pN,.inr ⟨a,xs,rfl,Same.new d _ _ c,rfl⟩,true,rfl,?_⟩⟩;refine iteT ?_;have b:Same H (upd H p (.tup [.ty "list",.ty "tuple"])):=Same.new d;generalize upd H p (.tup [.ty "list",.ty "tuple"])=L at b;exfalso;refine⟨false,⟨_,SqB.lst (b _ _ c)⟩,λl D=>?_⟩;refine oM (λ_ _ _=>True) D (SqB.lst (b _ _ c)) hl (λ_ _ _ _ _ _=>trivial) ?_ ?_
   ·intro i x j zs k g _ z r;subst eB;show oV _ _ _ _ [some x] j z;ext;exact⟨x,rfl,(o x (zqb k)).up (b.trans g),λy J C _=>r _ _ C trivial⟩
   ·intro j ys g u q _;refine f _ _ (b.trans g) λF G e h=>?_;cases e;rw[c]at h;cases h;exact⟨l,ys,rfl,u,q⟩
theorem ok_6(T:Txt K mg t):FnOk P w K mg base CX0 6 t.a_6 t.d_6 pr' (Sr t.a_8):=by
 have k:=ok_1h (P:=P) (w:=w) (base:=base) T 2;apply T.F_6.ok sc_6
 ·obtain⟨e,a,xs,rfl,f,m,v,r⟩:=h;have n:=2;refine⟨_,(pL (mC (Ry rfl T.m_1d T.h_g (pJ (pq 0) (pJ kX pK))))
   (pO (Rv T.h_h (pU k hr.mo T.F_1h (pJ (pq 1) pK)) (pq 0)))),?_⟩
  show tSeq _ _ _ [some (.ref e),some (.ref a)] H;unfold Gx Gw;ext;refine⟨none,f,by show 1<=sizeLine;decide,.ref a,rfl,v,λy C c j=>?_⟩;obtain⟨l,ys,rfl,hl,p⟩:=j a xs rfl m;refine⟨c _ _ f,λi d g=>?_⟩;have le:l≠e:=λz=>by rw[z,c _ _ f]at hl;cases hl
  have x:l≠i:=λz=>by rw[z,d]at hl;cases hl
  refine r i _ (λb o u z=>?_) pN ⟨l,ys,?_,?_,p⟩
  ·rw[pR u,pR (λq=>by rw[q]at z;rw[c _ _ z]at d;cases d)];exact c _ _ z
  ·rw[jF g,pR g,pN]
  ·rw[jF le,pR le,pR x];exact hl
def TooM(K:Frag)(t:Adr)(H:Hp)(E:XK):Prop:=∀dx H',Same H H'->Apt H' dx 0->E (.ref t.a_8) (some dx) H'
def sp_5(K:Frag)(t:Adr):Sp:=λvs H Q E=>E8 λ(g wy:Addr)(k d:Nat)(most:Int)(xs:List Pl)(ms:List Dd)(srt:Tb)=>A4 (vs=[.ref g,.ref wy,.int most]) (GrpF K t H g (fmD k) ms srt) (Wy K H wy d xs) (((¬ (1<=most/\most<=200)/\∀H',Same H H'->E (.ref t.a_7) none H')\/((1<=most/\most<=200)/\((xs.length≠fmD k/\∀H',Same H H'->E (.ref t.a_4) none H')\/((xs.length=fmD k/\∀x∈xs,x.1.length=fmD k/\0<x.2/\x.2<=2/\gl x.2 x.1=1)/\((¬ MvOk (fmD k) srt xs/\∀H',Same H H'->E (.ref t.a_a) none H')\/∃(L:List Stp)(S:LI')(su:Int),d=fmD k/\kH k L S su/\(∀m∈ms,InK (frk k L S su) (pV m))/\srt.Perm (tab (fmD k) (ms.map pV) 12)/\((xs=vC (fmD k) 3/\most<9*srt.length/\TooM K t H E)\/(xs=vC (fmD k) 1/\srt.length<=most/\∀g' ms' srt' H',Same H H'->GrpF K t H' g' (fmD k) ms' srt'->(∀x,x∈srt'.map (·.1)↔x∈srt.map (·.1))->srt'.length<=63->(srt'.Pairwise λp q=>lx (fl (dat q.1)) (fl (dat p.1))=false)->(srt'.map (·.1)).Nodup->Q (.ref g') H'))))))))
theorem ok_5(T:Txt K mg t):FnOk P w K mg base (CX1 P w) 16 t.a_5 t.d_5 pj' (sp_5 K t):=by
 have n2:=@ok_n P w K mg base t T;have o3:=@ok_2 P w K mg base t T;have m6:=@ok_p P w K mg base t T;have e8:=@ok_h P w K mg base t T;have m9:=@ok_3 P w K mg base t T;have g0:=@ok_k P w K mg base t T;have j8:=@ok_1s P w K mg base t T;have k5:=@ok_l P w K mg base t T;have o8:=@ok_23 P w K mg base t T;have l6:=@ok_6 P w K mg base t T;have k7:=@ok_17 P w K mg base t T;refine T.F_5.okX sc_5 (λvs H Q E h=>?_) (λcdv A outer s H vs Q E hr h=>?_)
 ·obtain⟨g,c,k,d,d0,xs,ms,srt,rfl,_⟩:=h;rfl
 ·have p2:=hr.units;obtain⟨g,c,k,d,d0,xs,ms,srt,rfl,a0,a9,h⟩:=h;have N:=lG k;refine⟨_,(pL (mC (lW n2 hr.mo rfl T.F_n.m T.F_n.kp T.F_n.b .nil iU (pJ (pq 2) pK)))
   (pL (mC (lW o3 hr.mo rfl T.F_2.m T.F_2.kp T.F_2.b .nil iU (pJ (jW (C:=t.a_c) (pq 0) T.cl_c T.me_h e8 hr.mo T.b_h .nil mZ) (pJ (pq 1) pK))))
   (pL (mC (lW m6 hr.mo rfl T.F_p.m T.F_p.kp T.F_p.b .nil iU (pJ (pq 0) (pJ (pS (pq 1)) pK))))
   (pL (iB (i:=3) (sc:=pM s_5) (N:=N_5) (fr:=[("way",1)]) (te:=(oV (sp_k K t.a_4) [] E0 (pZ (tVar 0) (pZ (tVar 1) tNil)))) rfl rfl (nofun) rfl sc_5.nd rfl rfl (nofun) (oF (jW (C:=t.a_c) (pq 0) T.cl_c T.me_3 m9 hr.mo T.b_3 .nil mZ)) (λ_ _ _ h9=>(mX g0 hr.mo rfl T.F_k.m T.F_k.kp T.F_k.b .nil lJ (pJ (pv 0) (pJ (pv 1) pK)))))
   (pL (oO (oJ aA (pU j8 hr.mo T.F_1s (pJ (nH T.z_len (pq 3)) (pJ (pS (pq 1)) pK))) (pq 2) (oG _))
   (pO (Rz rfl Qb rfl T.m_8 T.h_g.cl yE l6 hr.mo T.b_6 mZ (pJ (nW pK) pK)))
   oS)
   (pL (iB (i:=4) (sc:=pM s_5) (N:=N_5) (fr:=[]) (te:=(tTup (pZ (tCB (jY K) (pZ (tVar 0) tNil)) (pZ (tC (.int 1)) tNil)))) rfl rfl (nofun) rfl sc_5.nd rfl rfl (nofun) (oF (pU k5 hr.mo T.F_l (pJ (jW (C:=t.a_c) (pq 0) T.cl_c T.me_h e8 hr.mo T.b_h .nil mZ) pK))) (λ_ _ _ h9=>(oX (pJ (oZ mK rfl T.z_tuple (nofun) (pJ (pv 0) pK)) (pJ pP pK)))))
   (pO (oB (pU k7 hr.mo T.F_17 (pJ (jW (C:=t.a_c) (pq 0) T.cl_c T.me_h e8 hr.mo T.b_h .nil mZ) (pJ (pQ jO (pq 3) (oQ (sc:=pM s_5) (N:=N_5) (fr:=[("way",1)]) (te:=(oV (sp_k K t.a_4) [] E0 (pZ (oV (sp_23 K) [] E0 (pZ (tVar 0) tNil)) (pZ (tVar 1) tNil)))) rfl rfl (nofun) rfl (nofun) (oF (pq 4)) (λ_ _ _ h9=>(mX g0 hr.mo rfl T.F_k.m T.F_k.kp T.F_k.b .nil lJ (pJ (pU o8 hr.mo T.F_23 (pJ (pv 0) pK)) (pJ (pv 1) pK)))))) pK))))))))))),?_⟩
  show tSeq _ _ _ [some (.ref g),some (.ref c),some (.int d0),none,none] H;right;refine⟨d0,rfl,λm3=>?_,λz H' s'=>?_⟩
  case refine_2 =>
   rcases h with⟨_,X⟩|⟨h,_⟩
   ·exact X H' s'
   ·exact absurd h z
  rcases h with⟨z,_⟩|⟨⟨q4,q2⟩,h⟩
  ·exact absurd m3 z
  left;simp only[kD];ext;obtain⟨c9,r2,r0,q7,q6,j4,_⟩:=id a0;refine⟨c9,_,j4,rfl,g,fmD k,ms,srt,rfl,a0,c,d,fmD k,xs,rfl,a9,λz=>?_,λz=>?_⟩
  case refine_2 =>
   rcases h with⟨_,X⟩|⟨⟨h,_⟩,_⟩
   ·exact X H (Same.refl _)
   ·exact absurd h z
  rcases h with⟨i5,_⟩|⟨⟨_,g5⟩,h⟩
  ·exact absurd z i5
  obtain⟨c5,m4,n6,e9,q8⟩:=id a9;have d4:∀{H'},Same H H'->SqB true K H' c [.ref c5,.ref m4]:=λs=>SqB.tup (s _ _ n6);left;refine⟨true,c,_,_,_,rfl,rfl,d4 (Same.refl _),rfl,?_⟩;refine⟨g,c5,fmD k,ms,srt,xs,rfl,a0,e9,N,g5,λmo q3 c7=>?_,λz H' s'=>?_⟩
  case refine_2 =>
   rcases h with⟨_,X⟩|⟨L,a4,su,_,ok,h1,W,h⟩
   ·exact X H' s'
   ·refine absurd (λx n=>?_) z;have e0:oH (fmD k)∈srt.map (·.1):=(W.map (·.1)).mem_iff.mpr (pI.mpr ⟨_,fE,rfl⟩);have g2:x.2=1/\x.1.length=fmD k:=by
     refine⟨?_,(g5 x n).1⟩;obtain⟨i,hi⟩:=xP n;rcases h with⟨e,_⟩|⟨e,_⟩
     ·rw[e]at hi;exact(bJ hi).1
     ·rw[e]at hi;exact(bJ hi).1
    rw[g2.1,Jl g2.2];exact e0
  rcases h with⟨z,_⟩|⟨L,a4,su,j5,ok,h1,W,h⟩
  ·exact absurd mo z
  subst j5;have b8:=ok.ok;have f2:∀s∈ms.map pV,InK (frk k L a4 su) s:=λs h=>by
   obtain⟨m,a3,rfl⟩:=pI.mp h;exact h1 m a3
  have tb:=fF b8 f2 12;have o9:srt.length<=12:=by rw[W.length_eq];exact tb.1
  have g8:∀y∈srt,InK (frk k L a4 su) y.1:=λy f=>tb.2 y (W.mem_iff.mp f);have a3:∀y∈srt,MbK (fmD k) y.1:=λy f=>bH ok (g8 y f);have e0:oH (fmD k)∈srt.map (·.1):=(W.map (·.1)).mem_iff.mpr (pI.mpr ⟨_,fE,rfl⟩);rcases h with⟨O,j0,X⟩|⟨O,j0,o6⟩
  case inl =>
   subst O;left;refine oC λB eB=>?_;simp only[iSeq,kD];ext;have a8:=a0.up c7;obtain⟨d8,m5,j6,i4,i2,d9,_⟩:=id a8;refine⟨d8,_,d9,rfl,g,fmD k,ms,srt,rfl,a8,λl f0 l8 f1 k6 hl b2=>?_⟩;have d5:f0.length=srt.length:=oU b2;have a7:=c7.trans f1;refine⟨false,l,rfl,⟨_,SqB.lst hl⟩,λb1 e5=>?_⟩;refine oM (λ_ _ _=>True) e5 (SqB.lst hl) (by rw[zqe];omega) (λ_ _ _ _ _ _=>trivial) ?_ ?_
   ·intro j y b0 zs Z v a6 a2 a1;obtain⟨m,b6,rfl⟩:=nM Z;obtain⟨x,O,n⟩:=nI b2 b6;have a:=a3 x (zqb O);have c1:=a.le;subst eB;show oV _ _ _ _ [some (.ref m),some (.ref c)] b0 a2;ext;refine⟨m,c,fmD k,3,x.1,rfl,(bI n).up v,a9.up (a7.trans v),.inr ⟨N,∅,a.sq,a.len,⟨a.pos,⋯⟩,a.bm.le ∅,λz p=>?_,a.low,λr S _ D _ _=>a1 _ _ D trivial⟩⟩;have o4:=a.bt z p;exact zI (show z.natAbs<2^7 by omega) (yC ∅ ∅)
   ·intro b0 ys v d1 e3 _;have lq:ys.length=srt.length:=by rw[e3,zqe,d5]
    have Y:=a7.trans v;left;refine⟨false,b1,_,rfl,SqB.lst d1,true,c,_,_,_,rfl,rfl,d4 Y,rfl,?_⟩;rw[lq];refine⟨srt.length,fmD k,3,c5,rfl,e9.up Y,N,∅,⋯,λS D=>?_⟩
    try ext
    have b9:=Y.trans D;have n8:(9:Int)<=3^fmD k:=by rcases N with e|e <;> rw[e] <;> decide
    have r1:(9:Int)*srt.length<=srt.length*3^fmD k:=by rw[xT 9];exact Int.mul_le_mul_of_nonneg_left n8 ⋯
    rw[zJ (show d0<srt.length*3^fmD k by omega)];refine iteT ?_;simp only[Gz];ext;refine⟨yD _,λF o5=>⟨by show 1<=sizeLine;decide,λe d3=>?_⟩⟩;have b5:Same S (upd S F (.lst [])):=Same.new o5;have c0:(upd S F (.lst [])) F=some (.lst []):=pN;generalize upd S F (.lst [])=i0 at b5 c0 d3;have l3:F≠e:=λz=>by rw[z,d3]at c0;cases c0
    have g9:(upd i0 e (XObj e t.a_8 none)) F=some (.lst []):=by rw[pR l3];exact c0
    refine⟨e,F,[],rfl,pN,g9,⟨F,[],rfl,g9,yD _,λy f=>by cases f⟩,λc9 J k1 k2 k3=>⟨rfl,some c9,k2,?_⟩⟩;refine X c9 _ (λb o m2=>?_) k3;have d7:=b5 _ _ (b9 _ _ m2);have e2:b≠e:=λz=>by rw[z,d3]at d7;cases d7
    rw[jF e2];exact k1 b o e2 (by rw[pR e2];exact d7)
  subst O;left;refine oC λB eB=>?_;simp only[iSeq,kD];ext;have a8:=a0.up c7;obtain⟨d8,m5,j6,i4,i2,d9,_⟩:=id a8;refine⟨d8,_,d9,rfl,g,fmD k,ms,srt,rfl,a8,λl f0 l8 f1 k6 hl b2=>?_⟩;have d5:f0.length=srt.length:=oU b2;have a7:=c7.trans f1;refine⟨false,l,rfl,⟨_,SqB.lst hl⟩,λb1 e5=>?_⟩;refine oM (DdR K b1 (srt.map (·.1))) e5 (SqB.lst hl) (by rw[zqe];omega) DdR.mono ?_ ?_
  ·intro j y b0 zs Z v a6 a2 a1;obtain⟨m,b6,rfl⟩:=nM Z;obtain⟨x,O,n⟩:=nI b2 b6;have a:=a3 x (zqb O);have c1:=a.le;subst eB;show oV _ _ _ _ [some (.ref m),some (.ref c)] b0 a2;ext;refine⟨m,c,fmD k,1,x.1,rfl,(bI n).up v,a9.up (a7.trans v),.inr ⟨N,∅,a.sq,a.len,⟨a.pos,⋯⟩,a.bm.le ∅,λz p=>?_,a.low,λr S y D i1 n1=>?_⟩⟩
   ·have o4:=a.bt z p;exact zI (show z.natAbs<2^7 by omega) (yC ∅ ∅)
   ·rw[n1 rfl]at i1;exact a1 _ _ D ⟨r,x.1,rfl,by rw[zD,O];rfl,i1.tk (jJ (D _ _ a6))⟩
  ·intro b0 ys v d1 e3 j7;obtain⟨U,rfl,f3⟩:=Ad (by rw[e3,zqe,zqe];exact d5) j7;have lq:U.length=srt.length:=by rw[oU f3,zqe]
   have Y:=a7.trans v;left;refine⟨false,b1,_,rfl,SqB.lst d1,true,c,_,_,_,rfl,rfl,d4 Y,rfl,?_⟩;rw[zqe,lq];refine⟨srt.length,fmD k,1,c5,rfl,e9.up Y,N,∅,⋯,λS D=>?_⟩;rw[qQ,vD]
   try ext
   have b9:=Y.trans D;rw[zK ⋯];refine iteF ?_;have h2:=a0.up b9;obtain⟨n5,p5,p1,p6,q0,i3,_⟩:=id h2;left;exfalso;simp only[kD];ext;refine⟨n5,_,i3,rfl,g,fmD k,ms,srt,rfl,h2,fmD k,rfl,⋯,λj3 i0 q9 b5 l4=>?_⟩;obtain⟨xs,c1,e6,o2⟩:=(l4.b (K:=K)).walk;have l1:=(nU (d:=fmD k)).1;have p4:∀i,i<fmD k->((idM (fmD k)).getD i []).length=fmD k:=λi hi=>by
    have c3:i<(idM (fmD k)).length:=by rw[nU.1];exact hi
    exact nU.2 _ (by rw[zqc,zqd c3];exact wA c3)
   refine⟨false,j3,rfl,⟨_,c1⟩,λk8 j2=>?_⟩;refine oM (λj y H'=>∃c4,y=V.ref c4/\oA (offH k8 H') c4 ((idM (fmD k)).getD j []) 1) j2 c1 (by rw[e6,l1];omega) (λ_ _ _ _⟨c4,d6,c2⟩o0=>⟨c4,d6,c2.upS (gG o0)⟩) ?_ ?_
   ·intro j y J zs Z c6 a6 a2 a1;obtain⟨h7,r,rfl,R,c8⟩:=o2 j y Z;subst eB;show tTup _ [some (.ref h7)] J a2;ext;refine⟨h7,_,rfl,.inl ⟨c8.up c6,λl1 m1=>?_⟩⟩;have M:Same J (upd J l1 (.tup (r.map V.int))):=Same.new m1;have h5:(upd J l1 (.tup (r.map V.int))) l1=some (.tup (r.map V.int)):=pN;generalize upd J l1 (.tup (r.map V.int))=C at M h5;refine⟨(by show 2<=sizeLine;decide),λh8 n9=>?_⟩;have u:Same C (upd C h8 (.tup [.ref l1,.int 1])):=Same.new n9;have f5:=M.trans u;have tk:=jJ (K:=K) (f5 _ _ a6);have k9:(idM (fmD k)).getD j []=r:=by rw[zqc,R];rfl
    exact a1 _ _ f5 ⟨h8,rfl,by rw[k9];exact⟨l1,tk.k _ _ pN,tk.k _ _ (u _ _ h5)⟩⟩
   ·intro J ys c6 g4 h0 m7;have e4:=(b9.trans b5).trans c6;symm;simp only[kD];ext;have m8:∃ps:LA,ys=ps.map V.ref/\Paired (λq r=>oA J q r 1) ps (idM (fmD k)):=jS (by rw[h0,e6]) λj y g3=>by
     obtain⟨q,d6,c2⟩:=m7 j y g3;have c3:j<(idM (fmD k)).length:=by rw[←e6,←h0];exact(zqa g3).1
     obtain⟨r,R⟩:=iL rfl c3;exact⟨q,r,d6,R,by rw[zqc,R]at c2;exact c2.upS gF⟩
    obtain⟨ps,rfl,c8⟩:=m8;have j9:ps.length=fmD k:=(oU c8).trans l1;have f4:=a0.up e4;obtain⟨i9,p3,q5,p0,p9,n0,_⟩:=id f4;refine⟨i9,_,n0,rfl,g,fmD k,ms,srt,rfl,f4,?_⟩;exfalso;refine⟨false,⟨_,SqB.lst g4⟩,λg1 l2=>?_⟩;refine oM (DdR K g1 ((idM (fmD k)).map λr=>(idM (fmD k),r,1))) l2 (SqB.lst g4) (by rw[zqe];omega) DdR.mono ?_ ?_
    ·intro j y C zs Z M a6 a2 a1;obtain⟨q,b6,rfl⟩:=nM Z;obtain⟨r,R,e7⟩:=nI c8 b6;have b3:r.length=fmD k:=nU.2 r (zqb R);have n4:∀z∈r,z.natAbs<2^1:=λz p=>xN (fG r (zqb R) z p) ∅;subst eB;show oV _ _ _ _ [some (.ref q),some (.ref c)] C a2;ext;refine⟨q,r,1,fmD k,rfl,e7.upS M,b3,N,∅,jI (B:=1) ∅ ∅,λn3 m0 u g6=>?_⟩;obtain⟨o1,l9⟩:=gI (u:=1) (ns:=r) ∅ (eV _);rw[o1,l9]at g6;refine⟨n3,c,fmD k,1,(idM (fmD k),r,1),rfl,nV.s g6,a9.up ((e4.trans M).trans u),.inr ⟨N,∅,nU,b3,⟨by show(0:Int)<1;decide,by show(1:Int)<2^150;decide⟩,λr hr z p=>zI (xN (fG r hr z p) (∅:1<2^1)) (yC ∅ ∅),λz p=>zI (n4 z p) (yC ∅ ∅),eV _,λi8 f9 p8 d2 f7 j1=>?_⟩⟩;rw[j1 rfl]at f7;have f8:=u.trans d2;exact a1 _ _ f8 ⟨i8,_,rfl,by rw[zD,R];rfl,f7.tk (jJ (f8 _ _ a6))⟩
    ·intro C p7 M n7 o7 e7;obtain⟨us,rfl,h4⟩:=Ad (by rw[o7,zqe,zqe,j9,l1]) e7;have q1:us.length=fmD k:=by rw[oU h4,zqe,l1]
     have f6:=((D.trans b5).trans c6).trans M;have l5:=e4.trans M;refine⟨b1,g1,_,_,rfl,rfl,f6 _ _ d1,n7,by rw[zqe,zqe];exact zR (show U.length+us.length<=1000 by omega) ∅,λb4 l7=>?_⟩;have u:Same C (upd C b4 (.lst (U.map V.ref++us.map V.ref))):=Same.new l7;have h6:(upd C b4 (.lst (U.map V.ref++us.map V.ref))) b4=some (.lst ((U++us).map V.ref)):=by rw[pN,xK]
     generalize upd C b4 (.lst (U.map V.ref++us.map V.ref))=m0 at u h6;have b7:∀m∈srt.map (·.1)++(idM (fmD k)).map λr=>((idM (fmD k),r,1):Dd),mO (fmD k) m/\pV m∈srt.map (·.1)/\InK (frk k L a4 su) (pV m):=λm I=>by
      rcases pA.mp I with h|h
      ·obtain⟨y,f,rfl⟩:=pI.mp h;have a:=a3 y f;rw[a.rest];exact⟨a.fine,h,g8 y f⟩
      ·obtain⟨r,h3,rfl⟩:=pI.mp h;have b3:r.length=fmD k:=nU.2 r h3;rw[Jl b3];exact⟨⟨nU,b3,by show(0:Int)<1;decide,Vw,λz p=>zI (xN (fG r h3 z p) (∅:1<2^1)) (yC ∅ ∅),by show(1:Int)<_;decide⟩,e0,bF b8⟩
     refine⟨false,b4,U++us,_,k,L,a4,su,rfl,SqB.lst h6,Vv (Paired.mapP f3 λ_ _ z=>(z.up f6).up u) (Paired.mapP h4 λ_ _ z=>z.up u),ok,λm I=>⟨(b7 m I).1,(b7 m I).2.2⟩,by rw[yI,zqe,zqe,l1];omega,λg' g7 i6 f9 d2 k0 a5 k4=>?_⟩;have i7:∀s∈g7.map pV,InK (frk k L a4 su) s:=λs h=>by
      obtain⟨m,I,rfl⟩:=pI.mp h;exact(b7 m (a5.sub m I)).2.2
     have l0:=fF b8 i7 12;have G:=Ul b8 f2 (N:=12) (zF _);refine o6 g' g7 i6 f9 (l5.trans (u.trans d2)) k0 (λx=>⟨λn=>?_,λn=>?_⟩) (by rw[a5.pm.length_eq];exact zR l0.1 ∅) a5.od ((a5.pm.map _).nodup_iff.mpr fD)
     ·obtain⟨y,f,rfl⟩:=pI.mp n;refine(W.map (·.1)).mem_iff.mpr (Vx G (λs h=>?_) y (a5.pm.mem_iff.mp f));obtain⟨m,I,rfl⟩:=pI.mp h;exact(W.map (·.1)).mem_iff.mp (b7 m (a5.sub m I)).2.1
     ·have:=k4 x (xJ _ n);obtain⟨y,f,rfl⟩:=pI.mp n;rw[(a3 y f).rest]at this;exact this
def sp_x(K:Frag):Sp:=λvs H Q _=>E3 λ(p:Addr)(ns:LI')(k:Int)=>A4 (vs=[.ref p,.int k]) (SqL K H p (ns.map V.int)) (0<=k) (Q (.int (ns.getD k.toNat 0)) H)
def sp_t:Sp:=λvs H Q _=>E2 λ(a b:Int)=>A2 (vs=[.int a,.int b]) (∀H',Same H H'->Q (.int (gcdI a b)) H')
def sp_m(K:Frag):Sp:=λvs H Q _=>E4 λ(b:Bool)(a:Addr)(ns:LI')(u:Int)=>A6 (vs=[.ref a,.int u]) (SqB b K H a (ns.map V.int)) (ns.length<=100) (lQ u) (0<u) (∀p H',Same H H'->oA H' p (redT u ns) (redU u ns)->Q (.ref p) H')
theorem dvs(x y:Int)(b:y≠0)(a:y.natAbs<1073741824):lX x y:=⟨b,zI ((qU ⋯).mpr (show y.natAbs<2^30 from a)) ∅⟩
theorem ok_x(T:Txt K mg t):FnOk P w K mg base CX0 1 t.a_x t.d_x pg' (sp_x K):=by
 apply T.F_x.ok sc_x
 ·obtain⟨p,ns,k,rfl,a,b,q⟩:=h;refine⟨_,(pO (oB (bU (oJ dB (pq 1) (nH T.z_len (pq 0)) (oG _)) (nN ix_B (pq 0) (pq 1) (λ_ _=>rfl)) pP))),?_⟩;show tRet _ _ [some (.ref p),some (.int k)] H;ext;refine jC (b:=false) a ?_;ext
  by_cases z:k<ns.length
  ·rw[zJ z];exact iteT ⟨false,p,_,_,_,rfl,rfl,a,Sz b z,q⟩
  ·rw[zK z];refine iteF ?_;have e:ns.getD k.toNat 0=0:=by
    rw[zqc,wB ⋯];rfl
   rw[e]at q;exact q
theorem ok_t(T:Txt K mg t):FnOk P w K mg base CX0 1 t.a_t t.d_t pf' sp_t:=by
 apply T.F_t.ok sc_t
 ·obtain⟨a,b,rfl,k⟩:=h;refine⟨_,(pL (pW (i:=2) sc_t.nd rfl (Or.inl rfl) (nW (pJ (oP iR rfl T.z_abs (nofun) (pJ (pq 0) pK)) (pJ (oP iR rfl T.z_abs (nofun) (pJ (pq 1) pK)) pK))))
   (pL (bW yR (oJ mJ (pS (pq 2)) pP (oG _))
   (pO (pW (i:=2) sc_t.nd rfl (Or.inl rfl) (nW (pJ (pS (pq 2)) (pJ (pQ nZ (pS (pq 2)) (pS (pq 2))) pK))))))
   (pO (oB (pS (pq 2)))))),?_⟩
  show tSeq _ _ _ [some (.int a),some (.int b),none] H;right;refine⟨by show 2<=sizeLine;decide,λl hl=>?_⟩;have i:Same H (upd H l (.lst [.int (if a<0 then -a else a),.int (if b<0 then -b else b)])):=Same.new hl;have f:(upd H l (.lst [.int (if a<0 then -a else a),.int (if b<0 then -b else b)])) l=some (.lst [.int (if a<0 then -a else a),.int (if b<0 then -b else b)]):=pN;generalize upd H l (.lst [.int (if a<0 then -a else a),.int (if b<0 then -b else b)])=C at i f;subst e1;refine st λN1 e1=>Eo λB eB=>?_;refine⟨λm p c=>∃(l:Addr)(g h:Int),p=[some (.int a),some (.int b),some (.ref l)]/\Same H c/\c l=some (.lst [.int g,.int h])/\0<=g/\0<=h/\Int.gcd g h=Int.gcd a b/\m=h.toNat,
   ⟨_,l,_,_,rfl,i,f,cR a,cR b,Gf a b,rfl⟩,?_⟩
  clear i f;rintro m p c ⟨l,g,h,rfl,i,f,v,hh,e,rfl⟩;have o:∀d:VK,d (.int g) c->rIxB K (.ref l) (.int 0) c d:=λd q=>⟨false,l,_,_,_,rfl,rfl,SqB.lst f,rfl,q⟩;have n:∀d:VK,d (.int h) c->rIxB K (.ref l) (.int 1) c d:=λd q=>⟨false,l,_,_,_,rfl,rfl,SqB.lst f,rfl,q⟩;ext;refine n _ ?_
  try ext
  by_cases z:h=0
  ·rw[zJ z];refine iteF ?_;subst e1
   try ext
   refine o _ ?_;rw[Ge e v z];exact k c i
  ·rw[zK z];refine iteT ⟨λr H'=>∃j:Addr,r=[some (.int a),some (.int b),some (.ref j)]/\Same H H'/\H' j=some (.lst [.int h,.int (g.fmod h)]),?_,?_⟩
   ·rintro r H' ⟨j,rfl,x,u⟩;have l1:=rB g (show 0<h by omega);have l2:=tP g (show 0<h by omega);exact⟨(g.fmod h).toNat,⋯,j,rfl,x,_,_,u,hh,l2,by rw[Gg];exact e,rfl⟩
   ·subst eB
    try ext
    refine n _ ?_
    try ext
    refine o _ ?_
    try ext
    refine n _ ?_
    try ext
    exact⟨z,by show 2<=sizeLine;decide,λj y=>⟨i.trans (Same.new y),pN⟩⟩
theorem Vo{u:Int}(h:0<u)(ns:LI'):gl u ns=ns.foldl gcdI u:=by unfold gl absI;rw[zE ⋯]
theorem ok_m(T:Txt K mg t):FnOk P w K mg base CX0 2 t.a_m t.d_m pe' (sp_m K):=by
 have W:=@ok_t P w K mg base t T;apply T.F_m.ok sc_m
 ·obtain⟨b,a,ns,u,rfl,q,hl,su,O,X⟩:=h;refine⟨_,(pL (pW (i:=2) sc_m.nd rfl (Or.inr rfl) (pq 1))
   (pL (lI yR rfl (oF (pq 0)) (nP (i:=3) sc_m.nd rfl (Or.inl rfl))
   (pO (pW (i:=2) sc_m.nd rfl (Or.inr rfl) (pU W hr.mo T.F_t (pJ (pq 2) (pJ (pq 3) pK))))))
   (pO (oB (oX (pJ (oZ mK rfl T.z_tuple (nofun) (pJ (oQ (sc:=pM cO) (N:=N_m) (fr:=[("_law_by",2)]) (te:=(tOp (rI lX λi j=>.int (i.fdiv j)) (tVar 0) (tVar 1))) rfl rfl (nofun) rfl (nofun) (oF (pq 0)) (λ_ _ _ a0=>(pQ mF (pv 0) (pv 1)))) pK)) (pJ (pQ mF (pq 1) (pq 2)) pK))))))),?_⟩
  show tSeq _ _ _ [some (.ref a),some (.int u),none,none] H;right;subst e1;refine st λN1 e1=>lN λB eB=>?_;simp only[iSeq];ext;refine⟨b,⟨_,q⟩,?_⟩;refine iA (g:=pY 3) (tb:=B) (λi f k=>∃v3,f=[some (.ref a),some (.int u),some (.int (gl u (ns.take i))),v3]/\Same H k) ⟨none,by rw[List.take_zero,Vo O];rfl,Same.refl _⟩ (λi f k _⟨_,_,e⟩=>q.up e) ?_ ?_
  ·rintro i x f k hi ⟨v3,rfl,c⟩;obtain⟨n,o,rfl⟩:=nS hi;subst eB;ext;refine⟨_,_,rfl,λg d=>?_⟩;rw[Hz o,Gk]
   first|exact c.trans d|exact⟨rfl,c.trans d⟩|exact⟨_,rfl,c.trans d⟩
  ·rintro f k ⟨v3,rfl,c⟩;rw[zqe,tS];have m:cs u ns=gl u ns:=by unfold cs;rw[zE ⋯]
   subst e1;have C:u≠0:=⋯
   have S:lQ (gl u ns):=by rw[←m];exact Ga su C (kF (gl_u u ns))
   have v:gl u ns≠0:=by rw[←m];exact gC ns C
   have F:∀x,lX x (gl u ns):=λx=>⟨v,Gb S v⟩;ext;exfalso;have z:=q.up c;refine⟨b,⟨_,z⟩,λY G=>oM (λj y _=>∃n,ns[j]?=some n/\y=.int (n.fdiv (gl u ns))) G z (by rw[zqe];omega) (λ_ _ _ _ r _=>r) ?_ ?_⟩
   ·intro i x g zs J _ _ U N;obtain⟨n,o,rfl⟩:=nS J;subst eB;show tOp _ _ _ [some (.int n),some (.int (gl u ns))] g U;ext;exact⟨F n,N _ g (Same.refl _) ⟨n,o,rfl⟩⟩
   ·intro g ys d e1 R I;have L:ys=(redT u ns).map V.int:=by
     unfold redT;rw[m,yW];exact nE (by simpa using R) I
    subst L;refine⟨Y,_,rfl,.inl ⟨SqL.of e1,λl M=>?_⟩⟩;ext;have Z:u.fdiv (gl u ns)=redU u ns:=by unfold redU;rw[m]
    refine⟨F u,(by show 2<=sizeLine;decide),λp D=>X p _ (((c.trans d).trans (Same.new M)).trans (Same.new D)) ⟨l,?_,?_⟩⟩
    ·rw[Z];exact pN
    ·rw[pR (oY pN D)];exact pN
def UnT(H:Hp)(p:Addr)(d:Nat):Prop:=∃ps:LA,H p=some (.tup (ps.map V.ref))/\Paired (λq r=>H q=some (.tup (r.map V.int))) ps (idM d)
def sp_j(K:Frag):Sp:=λvs H Q _=>E1 λ(d:Nat)=>A3 (vs=[.int d]) ((d=2\/d=3)) (∀p H',Same H H'->MatB true true K H' p (idM d)->UnT H' p d->Q (.ref p) H')
theorem ok_j(T:Txt K mg t):FnOk P w K mg base CX0 1 t.a_j t.d_j ["_law_d"] (sp_j K):=by
 apply T.F_j.ok sc_j
 ·obtain⟨d,rfl,a9,a0⟩:=h;refine⟨_,(pO (oB (oZ mK rfl T.z_tuple (nofun) (pJ (kN (xs:=["_law_i"]) (fr:=[("_law_d",0)]) (g:=(pY 0)) (tt:=(tEl (tCB (jY K) (pZ (nF (mD (pZ (tVar 1) tNil)) (pY 0) (tEl (tCB (λxs H Q=>(∃i,xs=[.int i]/\Q (.int i) H)\/∃k,xs=[.bl k]/\Q (.int (if k then 1 else 0)) H) (pZ (tOp (rI0 λi j=>.bl (decide (i=j))) (tVar 1) (tVar 0)) tNil))) 1 [("_law_i",0)]) tNil)))) (mQ (sc:=pM cP) (N:=N_j) rfl rfl (nofun)) rfl (lH rfl T.z_range (pJ (pq 0) pK)) (λ_ _ _ g=>(iV (N:=["_law_i","_law_d"]) (i:=0) g rfl (nofun) rfl)) (λ_ _ _ g=>(lE (oZ mK rfl T.z_tuple (nofun) (pJ (oQ (N:=["_law_i","_law_d"]) (fr:=[("_law_i",0)]) (te:=(tCB (λxs H Q=>(∃i,xs=[.int i]/\Q (.int i) H)\/∃k,xs=[.bl k]/\Q (.int (if k then 1 else 0)) H) (pZ (tOp (rI0 λi j=>.bl (decide (i=j))) (tVar 1) (tVar 0)) tNil))) g rfl (nofun) rfl (nofun) (lH rfl T.z_range (pJ (pv 1) pK)) (λ_ _ _ a4=>(oZ Cf rfl T.z_int (nofun) (pJ (iQ lK (pv 1) (pv 0) (oG _)) pK)))) pK))))) pK)))),?_⟩;show tRet _ _ [some (.int d)] H;ext;refine oC λB eB=>?_;simp only[mD];ext;refine⟨⋯,⋯,λF I=>?_⟩;rw[zW];refine kO (λi y H'=>∃q r,y=V.ref q/\(idM d)[i]?=some r/\offH F H' q=some (.tup (r.map V.int))) I ⋯ (λ_ _ _ _⟨q,r,c,n,m⟩R=>⟨q,r,c,n,(gG R) _ _ m⟩) ?_ ?_
  ·intro i f zs hi D a3 Z N;subst eB;show tCB _ _ [some (.int (0+(i:Int))),some (.int d)] f Z;ext;refine oC λa5 U=>?_;simp only[mD];ext;refine⟨⋯,⋯,λS W=>?_⟩;rw[zW];refine kO (λj y _=>j<d/\y=.int (if i=j then 1 else 0)) W ⋯ (λ_ _ _ _ r _=>r) ?_ ?_
   ·intro j C a7 o a a6 M X;subst U;show tCB _ _ [some (.int (0+(j:Int))),some (.int (0+(i:Int)))] C M;ext;refine .inr (X _ _ (Same.refl _) ⟨o,?_⟩);have b:(0+(i:Int)=0+(j:Int))↔i=j:=⋯
    by_cases q:i=j
    ·rw[zG q,zG (zJ (b.mpr q))]
    ·rw[zE q,zE λh=>q (b.mp (xF h))]
   ·intro C ys a u p a1;have L:ys=((List.range d).map λj=>if i=j then(1:Int) else 0).map V.int:=by
     refine nE (by rw[p];simp) λj y e=>?_;obtain⟨o,rfl⟩:=a1 j y e;exact⟨_,by rw[zD,yB o];rfl,rfl⟩
    subst L;refine⟨S,_,rfl,.inl ⟨SqL.of u,λl hl=>?_⟩⟩;have G:=a.trans (Same.new (o:=.tup (((List.range d).map λj=>if i=j then(1:Int) else 0).map V.int)) hl);have tk:=jJ (K:=K) (G _ _ a3);exact N _ _ G ⟨l,_,rfl,by unfold idM;rw[zD,yB hi];rfl,tk.k _ _ pN⟩
  ·intro f ys D O p J;have a2:∃ps:LA,ys=ps.map V.ref/\Paired (λq r=>f q=some (.tup (r.map V.int))) ps (idM d):=jS (by rw[p,nU.1]) λj y b=>by
    obtain⟨q,r,c,n,m⟩:=J j y b;exact⟨q,r,c,n,gF _ _ m⟩
   obtain⟨ps,rfl,v⟩:=a2;refine⟨F,_,rfl,.inl ⟨SqL.of O,λl hl=>?_⟩⟩;have a:=Same.new (o:=.tup (ps.map V.ref)) hl;refine a0 l _ (D.trans a) ⟨ps,SqB.tup pN,oU v,λi q r u Y=>?_⟩ ⟨ps,pN,Paired.mapP v λ_ _ z=>a _ _ z⟩;obtain⟨a8,x,z⟩:=nI v u;rw[Y]at x;cases x;exact SqT.of (a _ _ z)
def mkD(k:Nat):PyData:=.list ((mnL k).map dat)
theorem Jg{H:Hp}:∀{ms:List Dd}{ys:List V},Dts K H ys (ms.map dat)->∃ps:LA,ys=ps.map V.ref/\Paired (DdS K H) ps ms
 |[],ys,h=>by cases h;exact⟨[],rfl,.nil⟩
 | m:: ms,ys,h=>by
  cases h with
  | @cons x xs _ _ a c =>
   obtain⟨ps,rfl,b⟩:=Jg c;obtain⟨p,rfl⟩:∃p,x=V.ref p:=by
    replace a:Dt K H x (.tuple [matD true true m.1,iY true m.2.1,.int m.2.2]):=a;cases a;exact⟨_,rfl⟩
   exact⟨p:: ps,rfl,.cons (bI a) b⟩
def LsD(K:Frag)(H:Hp)(l:Addr)(ms:List Dd):Prop:=∃ps:LA,SqL K H l (ps.map V.ref)/\Paired (DdS K H) ps ms
theorem LsD.up{H H':Hp}{l:Addr}{ms:List Dd}(h:LsD K H l ms)(s:Same H H'):LsD K H' l ms:=by
 obtain⟨ps,a,b⟩:=h;exact⟨ps,s.seq a,Paired.mapP b λ_ _ z=>DdS.up z s⟩
theorem Jf{H:Hp}{v:V}{k:Nat}(h:Dt K H v (mkD k)):∃l,v=V.ref l/\LsD K H l (mnL k):=by
 unfold mkD at h;cases h with
 |lst b c =>
  obtain⟨ps,rfl,a⟩:=Jg c;exact⟨_,rfl,ps,b,a⟩
theorem DtE.nil{a:St}{H:Hp}:DtE K a H []:=λe b=>by cases b
theorem DtE.cons{b:St}{H:Hp}{c:nO}{x:Str}{k:Nat}{d:PyData}{v:V}(e:b[k]?=some (some v))(h:Dt K H v d)(r:DtE K b H c):DtE K b H ((x,k,d):: c):=λy a=>by
 rcases yQ.mp a with rfl|a
 ·exact⟨v,e,h⟩
 ·exact r y a
theorem Je{X:Cx}{b b2:List Stmt}{u:TS}(h:b=b2)(p:PSs X b2 u):PSs X b u:=by rw[h];exact p
@[irreducible] def S_p(k:Nat):Stmt:=(nR iH).getD k (.Pass ⟨0,0,0,0⟩)
theorem Vn:nR iH=[S_p 0,S_p 1,S_p 2,S_p 3,S_p 4,S_p 5,S_p 6,S_p 7,S_p 8,S_p 9,S_p 10]:=by unfold S_p;kernel_rfl
theorem Vm{X:Cx}{u:TS}(h:PS X ((nR iH).getD 5 (.Pass ⟨0,0,0,0⟩)) u):PS X (S_p 5) u:=by unfold S_p;exact h
def Jd:LM:=[[-1,0],[0,-1]]
def Jc:LM:=[[-1,0],[0,1]]
def Jb:LM:=[[0,1],[1,0]]
def Ja:LM:=[[0,-1],[1,0]]
def Kz:LM:=[[0,-1],[1,-1]]
def rhoP:nO:=[("_law_turn",1,matD true true Jd),("_law_flip",2,matD true true Jc),("_law_swap",3,matD true true Jb),("_law_four",4,matD true true Ja),("_law_three",5,matD true true Kz),("_law_same_rows",6,matD true true (idM 2))]
theorem q_p0:asgT [] (S_p 0)=some (("_law_turn" :Str),matD true true Jd):=by unfold S_p;kernel_rfl
theorem q_p1:asgT [] (S_p 1)=some (("_law_flip" :Str),matD true true Jc):=by unfold S_p;kernel_rfl
theorem q_p2:asgT [] (S_p 2)=some (("_law_swap" :Str),matD true true Jb):=by unfold S_p;kernel_rfl
theorem q_p3:asgT [] (S_p 3)=some (("_law_four" :Str),matD true true Ja):=by unfold S_p;kernel_rfl
theorem q_p4:asgT [] (S_p 4)=some (("_law_three" :Str),matD true true Kz):=by unfold S_p;kernel_rfl
theorem q_p6:asgL rhoP (S_p 6)=some (("_law_some" :Str),[mkD 0,mkD 1,mkD 2,mkD 3]):=by unfold S_p;kernel_rfl
theorem q_p7:asgC rhoP (S_p 7)=some (("_law_some" :Str),("_law_some" :Str),[mkD 4,mkD 5]):=by unfold S_p;kernel_rfl
theorem q_p8:asgC rhoP (S_p 8)=some (("_law_some" :Str),("_law_some" :Str),[mkD 6,mkD 7]):=by unfold S_p;kernel_rfl
theorem q_p9:asgC rhoP (S_p 9)=some (("_law_some" :Str),("_law_some" :Str),[mkD 8,mkD 9]):=by unfold S_p;kernel_rfl
theorem Vl:retC rhoP (S_p 10)=some (("_law_some" :Str),("_law_number" :Str),12,[mkD 10,mkD 11]):=by unfold S_p;kernel_rfl
theorem jU{H a:Hp}{l l2:Addr}{xs f:List V}{ds c:List PyData}{Q:VK}(s:Same H a)(e1:H l=some (.lst xs))(e:Dts K H xs ds)(i:a l2=some (.lst f))(g:Dts K a f c)(j:ds.length+c.length<=1000)(q:∀p d H',Same a H'->H' p=some (.lst d)->Dts K H' d (ds++c)->Q (.ref p) H'):rCat (.ref l) (.ref l2) a Q:=by
 refine⟨l,l2,_,_,rfl,rfl,s _ _ e1,i,?_,λp b=>?_⟩
 ·rw[e.len,g.len];exact zR j ∅
 ·exact q p _ _ (Same.new b) pN (((g.upS (Same.new b)).app ((e.upS s).upS (Same.new b))))
def sp_r(K:Frag):Sp:=λvs H Q _=>E1 λ(n:Int)=>A2 (vs=[.int n]) (∀l H',Same H H'->LsD K H' l (mnL (n.fmod 12).toNat)->Q (.ref l) H')
theorem Ky{H:Hp}{l:Addr}{xs:List V}{f:Nat->PyData}{m:Nat}(e:H l=some (.lst xs))(d:Dts K H xs ((List.range m).map f)){n:Int}(i:0<m){Q:VK}(q:∀v,Dt K H v (f (n.fmod m).toNat)->Q v H):rIxB K (.ref l) (.int (n.fmod m)) H Q:=by
 have a:=fms n m ⋯;have g:(n.fmod m).toNat<m:=⋯
 obtain⟨v,c,b⟩:=Dts.at d (i:=(n.fmod m).toNat) (d:=f (n.fmod m).toNat) (by rw[zD,yB g];rfl);exact⟨false,l,xs,_,v,rfl,rfl,SqB.lst e,mL c ⋯,q v b⟩
theorem ok_r(T:Txt K mg t):FnOk P w K mg base CX0 2 t.a_r t.d_r py' (sp_r K):=by
 have b8:=@ok_j P w K mg base t T;apply T.F_r.ok sc_r
 ·obtain⟨n,rfl,d6⟩:=h;have j:Ns24 (cxOf CX0 P w K mg base N_r (Str.ofString "_law_plane") (pM iH) t.a_r cdv A outer s H E).nox rhoP:=by
   intro e f;unfold rhoP at f;simp only[List.mem_cons,List.not_mem_nil,or_false]at f;rcases f with rfl|rfl|rfl|rfl|rfl|rfl <;> exact⟨rfl,Or.inl rfl,∅,∅⟩
  have i:Ns24 (cxOf CX0 P w K mg base N_r (Str.ofString "_law_plane") (pM iH) t.a_r cdv A outer s H E).nox []:=λe f=>by cases f
  have b:=sc_r.nd;refine⟨_,Je Vn (pL (gU (i:=1) q_p0 i b rfl rfl) (pL (gU (i:=2) q_p1 i b rfl rfl) (pL (gU (i:=3) q_p2 i b rfl rfl) (pL (gU (i:=4) q_p3 i b rfl rfl) (pL (gU (i:=5) q_p4 i b rfl rfl) (pL (Vm (pW (i:=6) sc_r.nd rfl (Or.inl rfl) (pU b8 hr.mo T.F_j (pJ pP pK)))) (pL (Gq (i:=7) q_p6 j b rfl rfl) (pL (gB (i:=7) q_p7 j b rfl rfl ∅ ∅) (pL (gB (i:=7) q_p8 j b rfl rfl ∅ ∅) (pL (gB (i:=7) q_p9 j b rfl rfl ∅ ∅) (pO (Gp (i:=7) (j:=0) Vl j rfl rfl (Or.inl rfl) ∅ ∅ (Or.inl rfl) ∅ ∅)))))))))))),?_⟩;show tSeq _ _ _ [some (.int n),none,none,none,none,none,none,none] H;refine st λN1 e1=>⟨DtE.nil,λa c0 c3 c9=>?_⟩;show N1 [some (.int n),some a,none,none,none,none,none,none] c0;subst e1;refine st λN1 e1=>⟨DtE.nil,λv2 b4 d7 d8=>?_⟩;show N1 [some (.int n),some a,some v2,none,none,none,none,none] b4;subst e1;refine st λN1 e1=>⟨DtE.nil,λv3 a7 Z U=>?_⟩;show N1 [some (.int n),some a,some v2,some v3,none,none,none,none] a7;subst e1;refine st λN1 e1=>⟨DtE.nil,λc S c7 a4=>?_⟩;show N1 [some (.int n),some a,some v2,some v3,some c,none,none,none] S;subst e1;refine st λN1 e1=>⟨DtE.nil,λd d5 d1 N=>?_⟩;show N1 [some (.int n),some a,some v2,some v3,some c,some d,none,none] d5;left;refine⟨2,rfl,.inl rfl,λk b0 y L _=>?_⟩;have b3:=Dt.matB L;have F:=d1.trans y;have x:=c7.trans F;have q:=Z.trans x;have I:=d7.trans q;have g:∀{H':Hp}(C:Option V),Same b0 H'->DtE K [some (.int n),some a,some v2,some v3,some c,some d,some (.ref k),C] H' rhoP:=λC s'=>DtE.cons rfl (c9.upS (I.trans s')) (DtE.cons rfl (d8.upS (q.trans s')) (DtE.cons rfl (U.upS (x.trans s')) (DtE.cons rfl (a4.upS (F.trans s')) (DtE.cons rfl (N.upS (y.trans s')) (DtE.cons rfl (b3.upS s') DtE.nil)))));have c5:=c3.trans I;subst e1;refine st λN1 e1=>⟨g none (Same.refl _),λd2 e6 b2 z c8 c2=>?_⟩;show N1 [some (.int n),some a,some v2,some v3,some c,some d,some (.ref k),some (.ref d2)] b2;subst e1;refine st λN1 e1=>⟨_,rfl,g _ z,λf8 f6 f1 m c4 d9=>jU m c8 c2 c4 d9 ∅ λb1 f3 a5 a3 O d3=>?_⟩;have p:=(z.trans m).trans a3;show N1 [some (.int n),some a,some v2,some v3,some c,some d,some (.ref k),some (.ref b1)] a5;subst e1;refine st λN1 e1=>⟨_,rfl,g _ p,λe3 e8 f9 r X M=>jU r O d3 X M ∅ λd0 f2 c1 J d4 a8=>?_⟩;have G:=(p.trans r).trans J;show N1 [some (.int n),some a,some v2,some v3,some c,some d,some (.ref k),some (.ref d0)] c1;subst e1;refine st λN1 e1=>⟨_,rfl,g _ G,λe4 f4 f5 o b9 c6=>jU o d4 a8 b9 c6 ∅ λa6 f0 W a9 b7 b5=>?_⟩;have D:=(G.trans o).trans a9;show N1 [some (.int n),some a,some v2,some v3,some c,some d,some (.ref k),some (.ref a6)] W;subst e1;refine⟨_,rfl,g _ D,λe5 e7 f7 u a0 b6=>jU u b7 b5 a0 b6 ∅ λe2 e9 e0 a2 a1 R=>?_⟩;refine⟨_,rfl,n,12,rfl,rfl,(by show(12:Int)≠0;decide),Ky (m:=12) (f:=mkD) a1 R ∅ λv Y=>?_⟩;obtain⟨l,rfl,hl⟩:=Jf Y;exact d6 l e0 (c5.trans ((D.trans u).trans a2)) hl
@[irreducible] def S_s(k:Nat):Stmt:=(nR iI).getD k (.Pass ⟨0,0,0,0⟩)
theorem Vk:nR iI=[S_s 0,S_s 1,S_s 2,S_s 3,S_s 4,S_s 5,S_s 6,S_s 7]:=by unfold S_s;kernel_rfl
theorem Vj{X:Cx}{u:TS}(h:PS X ((nR iI).getD 1 (.Pass ⟨0,0,0,0⟩)) u):PS X (S_s 1) u:=by unfold S_s;exact h
def Kx:LM:=[[-1,0,0],[0,-1,0],[0,0,1]]
def rhoS:nO:=[("_law_half",1,matD true true Kx),("_law_same_rows",2,matD true true (idM 3))]
theorem q_s0:asgT [] (S_s 0)=some (("_law_half" :Str),matD true true Kx):=by unfold S_s;kernel_rfl
theorem q_s2:asgL rhoS (S_s 2)=some (("_law_some" :Str),[mkD 12,mkD 13]):=by unfold S_s;kernel_rfl
theorem q_s3:asgC rhoS (S_s 3)=some (("_law_some" :Str),("_law_some" :Str),[mkD 14]):=by unfold S_s;kernel_rfl
theorem q_s4:asgC rhoS (S_s 4)=some (("_law_some" :Str),("_law_some" :Str),[mkD 15]):=by unfold S_s;kernel_rfl
theorem q_s5:asgC rhoS (S_s 5)=some (("_law_some" :Str),("_law_some" :Str),[mkD 16,mkD 17]):=by unfold S_s;kernel_rfl
theorem q_s6:asgC rhoS (S_s 6)=some (("_law_some" :Str),("_law_some" :Str),[mkD 18]):=by unfold S_s;kernel_rfl
theorem q_s7:retC rhoS (S_s 7)=some (("_law_some" :Str),("_law_number" :Str),8,[mkD 19]):=by unfold S_s;kernel_rfl
def sp_s(K:Frag):Sp:=λvs H Q _=>E1 λ(n:Int)=>A2 (vs=[.int n]) (∀l H',Same H H'->LsD K H' l (mnL (12+(n.fmod 8).toNat))->Q (.ref l) H')
theorem ok_s(T:Txt K mg t):FnOk P w K mg base CX0 2 t.a_s t.d_s py' (sp_s K):=by
 have b3:=@ok_j P w K mg base t T;apply T.F_s.ok sc_s
 ·obtain⟨n,rfl,d0⟩:=h;have d:Ns24 (cxOf CX0 P w K mg base N_s (Str.ofString "_law_space") (pM iI) t.a_s cdv A outer s H E).nox rhoS:=by
   intro e g;unfold rhoS at g;simp only[List.mem_cons,List.not_mem_nil,or_false]at g;rcases g with rfl|rfl <;> exact⟨rfl,Or.inl rfl,∅,∅⟩
  have a7:Ns24 (cxOf CX0 P w K mg base N_s (Str.ofString "_law_space") (pM iI) t.a_s cdv A outer s H E).nox []:=λe g=>by cases g
  have b:=sc_s.nd;refine⟨_,Je Vk (pL (gU (i:=1) q_s0 a7 b rfl rfl) (pL (Vj (pW (i:=2) sc_s.nd rfl (Or.inl rfl) (pU b3 hr.mo T.F_j (pJ pP pK)))) (pL (Gq (i:=3) q_s2 d b rfl rfl) (pL (gB (i:=3) q_s3 d b rfl rfl ∅ ∅) (pL (gB (i:=3) q_s4 d b rfl rfl ∅ ∅) (pL (gB (i:=3) q_s5 d b rfl rfl ∅ ∅) (pL (gB (i:=3) q_s6 d b rfl rfl ∅ ∅) (pO (Gp (i:=3) (j:=0) q_s7 d rfl rfl (Or.inl rfl) ∅ ∅ (Or.inl rfl) ∅ ∅))))))))),?_⟩;show tSeq _ _ _ [some (.int n),none,none,none] H;refine st λN1 e1=>⟨DtE.nil,λa b5 b9 c5=>?_⟩;show N1 [some (.int n),some a,none,none] b5;left;refine⟨3,rfl,.inr rfl,λf a1 u F _=>?_⟩;have a6:=Dt.matB F;have c:∀{H':Hp}(y:Option V),Same a1 H'->DtE K [some (.int n),some a,some (.ref f),y] H' rhoS:=λy s'=>DtE.cons rfl (c5.upS (u.trans s')) (DtE.cons rfl (a6.upS s') DtE.nil);have c1:=b9.trans u;subst e1;refine st λN1 e1=>⟨c none (Same.refl _),λc7 d7 a4 x c3 b8=>?_⟩;show N1 [some (.int n),some a,some (.ref f),some (.ref c7)] a4;subst e1;refine st λN1 e1=>⟨_,rfl,c _ x,λf3 f1 e5 m c0 d1=>jU m c3 b8 c0 d1 ∅ λa3 e7 X W J c8=>?_⟩;have p:=(x.trans m).trans W;show N1 [some (.int n),some a,some (.ref f),some (.ref a3)] X;subst e1;refine st λN1 e1=>⟨_,rfl,c _ p,λd4 d9 f4 q N G=>jU q J c8 N G ∅ λc6 e6 b7 D c9 Z=>?_⟩;have C:=(p.trans q).trans D;show N1 [some (.int n),some a,some (.ref f),some (.ref c6)] b7;subst e1;refine st λN1 e1=>⟨_,rfl,c _ C,λd5 e9 f0 o b4 c2=>jU o c9 Z b4 c2 ∅ λY e4 M a0 b2 b0=>?_⟩;have z:=(C.trans o).trans a0;show N1 [some (.int n),some a,some (.ref f),some (.ref Y)] M;subst e1;refine st λN1 e1=>⟨_,rfl,c _ z,λe8 e2 f5 j b6 a9=>jU j b2 b0 b6 a9 ∅ λc4 e0 a5 a8 I a2=>?_⟩;have i:=(z.trans j).trans a8;show N1 [some (.int n),some a,some (.ref f),some (.ref c4)] a5;subst e1;refine⟨_,rfl,c _ i,λd6 d8 f2 r R b1=>jU r I a2 R b1 ∅ λd3 e3 d2 U S L=>?_⟩;refine⟨_,rfl,n,8,rfl,rfl,(by show(8:Int)≠0;decide),Ky (m:=8) (f:=λk=>mkD (12+k)) S L ∅ λv O=>?_⟩;obtain⟨l,rfl,hl⟩:=Jf O;exact d0 l d2 (c1.trans ((i.trans r).trans U)) hl
theorem bL{n k:Nat}(h:k<n):ixN n (k:Int)=some k:=by
 unfold ixN;rw[zG ⋯,zG ⋯];simp
theorem Vi{H b:Hp}{r c:Addr}{C:LM}{x:LI'}{i:Nat}(h:MatL H r C)(s:Same H b)(g:c≠r)(e:b c=some (.lst (x.map V.int))):∃zs,b r=some (.lst zs)/\zs.length=C.length/\MatL (upd b r (.lst (zs.set i (.ref c)))) r (C.set i x):=by
 obtain⟨ps,l,k,m⟩:=h;refine⟨_,s _ _ l,by rw[zqe,k],ps.set i c,by rw[pN,rO],by simp[k],λj p row ep a=>?_⟩;rw[List.getElem?_set]at ep a
 by_cases f:i=j
 ·subst f;rw[zG rfl]at ep a;split at ep
  ·cases ep;split at a
   ·cases a;exact⟨g,by rw[pR g];exact e⟩
   ·cases a
  ·cases ep
 ·rw[zE f]at ep a;obtain⟨d,n⟩:=m j p row ep a;exact⟨d,by rw[pR d];exact s _ _ n⟩
def sp_e(K:Frag):Sp:=λvs H Q _=>E6 λ(p:Addr)(i j d:Nat)(m:Int)(x:Dd)=>A9 (vs=[.ref p,.int i,.int j,.int m]) (DdS K H p x) (Sq d x.1) (x.2.1.length=d) ((d=2\/d=3)) (i<d) (j<d) (m.natAbs<=1000000) (∀r H',Same H H'->DdS K H' r (shrR i j m x.1,vst i j (-m) x.2.1,x.2.2)->Q (.ref r) H')
theorem ok_e(T:Txt K mg t):FnOk P w K mg base CX0 1 t.a_e t.d_e pb' (sp_e K):=by
 apply T.F_e.ok sc_e
 ·obtain⟨p,i,j,d,m,⟨M,ts,u⟩,rfl,c5,L,lt,i2,hi,h6,h3,G⟩:=h;replace L:Sq d M:=L;replace lt:ts.length=d:=lt;have O:=L.1;have a8:∀z:Int,IntMulOk m z:=λz=>.of_left (uN ⋯ ⋯);refine⟨_,(pL (iB (i:=4) (sc:=pM gW) (N:=N_e) (fr:=[]) (te:=(tCB (fZ K) (pZ (tVar 0) tNil))) rfl rfl (nofun) rfl sc_e.nd rfl rfl (nofun) (oF (pS (pq 0))) (λ_ _ _ S=>(oZ iX rfl T.z_list (nofun) (pJ (pv 0) pK))))
   (pL (lI yR rfl (lH rfl T.z_range (pJ (nH T.z_len (pq 4)) pK)) (nP (i:=5) sc_e.nd rfl (Or.inl rfl))
   (pO (iP (pQ mW (nN ix_B (nN ix_B (pq 4) (pq 5) (λ_ _=>rfl)) (pq 2) (λ_ _=>rfl)) (pQ oW (pq 3) (nN ix_B (nN ix_B (pq 4) (pq 5) (λ_ _=>rfl)) (pq 1) (λ_ _=>rfl)))) (fN (nN ix_B (pq 4) (pq 5) (λ_ _=>rfl)) (pq 2) dH))))
   (pL (iP (kN (xs:=["_law_number","_law_other"]) (fr:=[("_law_by",3)]) (g:=(gTup K 2 (nB (pY 0) (nB (pY 1) gNil)))) (tt:=(tEl (tOp (rI0 λi j=>.int (i-j)) (tVar 0) (tOp (rI (λi j=>IntMulOk i j) λi j=>.int (i*j)) (tVar 2) (tVar 1))))) (mQ (sc:=pM gW) (N:=N_e) rfl rfl (nofun)) rfl (fX rfl T.z_zip (pJ (nN ix_B (pq 4) (pq 1) (λ_ _=>rfl)) (pJ (nN ix_B (pq 4) (pq 2) (λ_ _=>rfl)) pK))) (λ_ _ _ S=>(kY rfl (nQ (mS (N:=["_law_number","_law_other","_law_by"]) (i:=0) S rfl (nofun)) (nQ (mS (N:=["_law_number","_law_other","_law_by"]) (i:=1) S rfl (nofun)) kI)))) (λ_ _ _ S=>(lE (pQ jM (pv 0) (pQ oW (pv 2) (pv 1)))))) (fN (pq 4) (pq 1) dH))
   (pL (pW (i:=6) sc_e.nd rfl (Or.inl rfl) (oZ iX rfl T.z_list (nofun) (pJ (pS (pq 0)) pK)))
   (pL (iP (pQ jM (nN ix_B (pq 6) (pq 1) (λ_ _=>rfl)) (pQ oW (pq 3) (nN ix_B (pq 6) (pq 2) (λ_ _=>rfl)))) (fN (pq 6) (pq 1) dH))
   (pO (oB (oX (pJ (oZ mK rfl T.z_tuple (nofun) (pJ (oQ (sc:=pM gW) (N:=N_e) (fr:=[]) (te:=(tCB (jY K) (pZ (tVar 0) tNil))) rfl rfl (nofun) rfl (nofun) (oF (pq 4)) (λ_ _ _ S=>(oZ mK rfl T.z_tuple (nofun) (pJ (pv 0) pK)))) pK)) (pJ (oZ mK rfl T.z_tuple (nofun) (pJ (pq 6) pK)) (pJ (pS (pq 0)) pK))))))))))),?_⟩
  show tSeq _ _ _ [some (.ref p),some (.int i),some (.int j),some (.int m),none,none,none] H;right;refine oC λg5 eB=>?_;simp only[iSeq];ext;refine jH c5 λa c6=>?_;obtain⟨xs,f1,i3,i5⟩:=c6.walk;refine⟨true,a,rfl,⟨_,f1⟩,λr e3=>?_⟩;subst eB;refine Ol c6 (by rw[O];omega) e3 λh7 g7 c9=>?_;subst e1;refine st λN1 e1=>lN λB eB=>?_;simp only[mD];ext;refine gP (c9.l.b (K:=K)) ?_;rw[O];refine⟨_,rfl,⋯,⋯,?_⟩;rw[zW];refine dW (n:=d) (g:=pY 5) (tb:=B) (λk b7 g=>∃(R:LM)(v:Option V),b7=[some (.ref p),some (.int i),some (.int j),some (.int m),some (.ref r),v,none]/\Same H g/\MatD H g r R/\R.length=d/\∀(n:Nat) row,M[n]?=some row->R[n]?=some (if n<k then shC i j m row else row)) ⟨M,none,rfl,g7,c9,O,λn row e=>by rw[zE (rZ n)];exact e⟩ ?_ ?_
  ·rintro k b7 g f6 ⟨R,v,rfl,a7,a1,b1,J⟩;obtain⟨row,c3⟩:=iL O f6;have i4:row.length=d:=L.2 row (zqb c3);have a0:=J k row c3;rw[zE (yP k)]at a0;have c7:=a1.l.b (K:=K);subst eB;show tAsg _ _ _ [some (.ref p),some (.int i),some (.int j),some (.int m),some (.ref r),some (.int (0+(k:Int))),none] g;ext;refine aT c7 a0 (getD_at (k:=j) ⋯) ⋯ rfl ?_;refine aT c7 a0 (getD_at (k:=i) ⋯) ⋯ rfl ?_;ext;refine⟨a8 _,?_⟩;simp only[gSub,fQ];ext;obtain⟨zs,q,e5,e8,i8,h8,e7,f3,e9⟩:=a1.row a0;refine⟨false,r,zs,_,_,rfl,rfl,SqB.lst e5,mL e8 ⋯,?_⟩;refine⟨q,rfl,_,f3,j,bL (by rw[zqe];omega),?_⟩;have b5:(row.map V.int).set j (.int (row.getD j 0+m*row.getD i 0))=(shC i j m row).map V.int:=by unfold shC;rw[rO]
   rw[b5];have o:Same H (upd g q (.lst ((shC i j m row).map V.int))):=Same.over e7 a7;have d9:=e9 (shC i j m row);generalize upd g q (.lst ((shC i j m row).map V.int))=N at o d9;refine⟨o,_,d9,by rw[uU];exact b1,λn f8 e=>?_⟩
   by_cases d3:n=k
   ·subst d3;rw[c3]at e;cases e;rw[xS ⋯,zG ⋯]
   ·rw[wH (zS d3),J n f8 e]
    by_cases z:n<k
    ·rw[zG z,zG ⋯]
    ·rw[zE z,zE ⋯]
  ·rintro b7 g ⟨R,v,rfl,a7,a1,b1,J⟩;obtain rfl:R=M.map (shC i j m):=by
    refine rG λn=>?_;rw[zD]
    by_cases z:n<d
    ·obtain⟨row,e⟩:=iL O z;rw[J n row e,e,zG z];rfl
    ·rw[wB ⋯,wB ⋯];rfl
   clear J;have f:Sq d (M.map (shC i j m)):=⟨b1,λr hr=>by
    obtain⟨x,W,rfl⟩:=pI.mp hr;unfold shC;rw[uU];exact L.2 x W⟩
   have g4:shrR i j m M=(M.map (shC i j m)).set i (shW m ((M.map (shC i j m)).getD i []) ((M.map (shC i j m)).getD j [])):=rfl;rw[g4]at G;have I:=a1.l;generalize M.map (shC i j m)=C at f I G;have a4:C[i]?=some (C.getD i []):=by have:=f.1;simp[show i<C.length by omega]
   have c1:C[j]?=some (C.getD j []):=by have:=f.1;simp[show j<C.length by omega]
   generalize C.getD i []=x at a4 G;generalize C.getD j []=y at c1 G;have h9:x.length=d:=f.2 x (zqb a4);have h5:y.length=d:=f.2 y (zqb c1);left;refine oC λi1 g6=>?_;simp only[iZip];ext;refine dX (I.b (K:=K)) a4 rfl λf5 W=>?_;refine dX (I.b (K:=K)) c1 rfl λg1 d4=>?_;refine⟨false,false,f5,rfl,g1,rfl,⟨_,W⟩,⟨_,d4⟩,λb2 a6=>?_⟩;have f7:b2≠r:=λe=>by obtain⟨ps,h,_⟩:=I;rw[e,h]at a6;cases a6
   refine eA (λn z _=>∃a b,x[n]?=some a/\y[n]?=some b/\z=.int (a-m*b)) a6 W d4 (by rw[zqe,zqe];omega) (by rw[zqe];omega) (λ_ _ _ _ r _=>r) ?_ ?_
   ·intro n h4 d0 N zs g9 c0 o i0 h1 h0;obtain⟨Y,b9,rfl⟩:=nS g9;obtain⟨a3,a9,rfl⟩:=nS c0;subst g6;show tOp _ _ _ [some (.int Y),some (.int a3),some (.int m)] N h1;ext;exact⟨a8 _,h0 _ _ (Same.refl _) ⟨Y,a3,b9,a9,rfl⟩⟩
   ·intro N zs o g8 e6 h2;have c0:zs=(shW m x y).map V.int:=by
     refine nE (by unfold shW;rw[e6,zqe,yA];omega) λn z e=>?_;obtain⟨Y,a3,b9,a9,rfl⟩:=h2 n z e;exact⟨Y-m*a3,by unfold shW;rw[yX,b9,a9],rfl⟩
    subst c0;obtain⟨zs,U,g2,a5⟩:=Vi (i:=i) I o f7 g8;have c4:Same H (upd N r (.lst (zs.set i (.ref b2)))):=Same.over e3 (a7.trans o);simp only[gSub,fQ];ext;refine⟨_,U,i,bL (by rw[g2,f.1];exact hi),?_⟩;generalize upd N r (.lst (zs.set i (.ref b2)))=D at c4 a5;have e0:Sq d (C.set i (shW m x y)):=by
     refine⟨by rw[uU];exact f.1,λz U=>?_⟩;rcases List.mem_or_eq_of_mem_set U with h|h
     ·exact f.2 z h
     ·rw[h];unfold shW;rw[yA];omega
    generalize C.set i (shW m x y)=F at a5 G e0;left;refine gY (c5.up c4) λd0 f2=>?_;refine⟨true,d0,_,rfl,f2,λl hl=>?_⟩;have d6:Same D (upd D l (.lst (ts.map V.int))):=Same.new hl;have Z:(upd D l (.lst (ts.map V.int))) l=some (.lst (ts.map V.int)):=pN;show N1 [some (.ref p),some (.int i),some (.int j),some (.int m),some (.ref r),v,some (.ref l)] (upd D l (.lst (ts.map V.int)));generalize upd D l (.lst (ts.map V.int))=b4 at d6 Z;left;refine⟨false,l,_,_,_,rfl,rfl,SqB.lst Z,mL (iZ (getD_at (k:=i) ⋯)) rfl,?_⟩;refine⟨false,l,_,_,_,rfl,rfl,SqB.lst Z,mL (iZ (getD_at (k:=j) ⋯)) rfl,?_⟩
    try ext
    refine⟨a8 _,?_⟩;simp only[gSub,fQ];ext;refine⟨_,Z,i,bL (by rw[zqe];omega),?_⟩;have b5:(ts.map V.int).set i (.int (ts.getD i 0-m*ts.getD j 0))=(vst i j (-m) ts).map V.int:=by
     unfold vst;rw[rO,qR,Int.sub_eq_add_neg]
    rw[b5];have c2:Same D (upd b4 l (.lst ((vst i j (-m) ts).map V.int))):=Same.over hl d6;have e2:(upd b4 l (.lst ((vst i j (-m) ts).map V.int))) l=some (.lst ((vst i j (-m) ts).map V.int)):=pN;generalize upd b4 l (.lst ((vst i j (-m) ts).map V.int))=b6 at c2 e2;have g3:=c4.trans c2;symm;refine oC λg5 eB=>?_;simp only[iSeq];ext;have d2:MatB false false K b6 r F:=(a5.up c2).b;obtain⟨i7,f0⟩:∃xs,SqB false K b6 r xs:=let ⟨ps,h,_⟩:=d2;⟨_,h⟩
    refine⟨false,⟨_,f0⟩,λf4 f9=>?_⟩;subst eB;refine Ht d2 (by rw[e0.1];omega) f9 λd7 zs e4 U X=>?_;refine⟨f4,_,rfl,.inl ⟨SqL.of U,λl2 d5=>?_⟩⟩;have b0:Same b6 (upd d7 l2 (.tup zs)):=e4.trans (Same.new d5);replace X:=X l2 d5;generalize upd d7 l2 (.tup zs)=d1 at b0 X
    try ext
    refine⟨l,_,rfl,.inl ⟨SqL.of (b0 _ _ e2),λa2 g0=>?_⟩⟩;have b8:=Same.new (o:=.tup ((vst i j (-m) ts).map V.int)) g0;have c8:(upd d1 a2 (.tup ((vst i j (-m) ts).map V.int))) a2=some (.tup ((vst i j (-m) ts).map V.int)):=pN;generalize upd d1 a2 (.tup ((vst i j (-m) ts).map V.int))=i6 at b8 c8;have d8:=(g3.trans b0).trans b8;refine gD (c5.up d8) ?_;exact⟨(by show 3<=sizeLine;decide),λc b3=>G c _ (d8.trans (Same.new b3)) ⟨l2,a2,SqT.of pN,(X.up b8).up (Same.new b3),SqT.of (Same.new b3 _ _ c8)⟩⟩
def sp_i(K:Frag):Sp:=λvs H Q _=>E6 λ(p q:Addr)(d:Nat)(x:Dd)(s:LI')(su:Int)=>A11 (vs=[.ref p,.ref q]) (DdS K H p x) (oA H q s su) (Sq d x.1) (x.2.1.length=d) (s.length=d) ((d=2\/d=3)) ((0<x.2.2/\x.2.2<=5)) ((0<su/\su<=6)) ((∀z∈s,z.natAbs<=12)) (∀r H',Same H H'->DdS K H' r (spD x s su)->Q (.ref r) H')
theorem Vh{d:Nat}{A:LM}{ts s:LI'}{u su:Int}(a:Sq d A)(lt:ts.length=d)(c:s.length=d){k:Nat}{r:LI'}(e:A[k]?=some r):(spT A ts u s su)[k]?=some (ts.getD k 0*su+(dotI r s-s.getD k 0)*u):=by
 have b:k<d:=by rw[←a.1];exact(zqa e).1
 unfold spT va smul vs mv;rw[yX,zD,zD,yX,zD,e,L2.getD_at (show k<ts.length by omega),L2.getD_at (show k<s.length by omega)];show some _=some _;congr 1;grind
theorem Kw{d:Nat}{A:LM}{ts s:LI'}{u su:Int}(b:Sq d A)(lt:ts.length=d)(a:s.length=d):(spT A ts u s su).length=d:=by
 unfold spT va smul vs mv;rw[yA,zqe,zqe,yA,zqe,b.1,lt,a];omega
theorem ok_i(T:Txt K mg t):FnOk P w K mg base CX0 3 t.a_i t.d_i ph' (sp_i K):=by
 have d8:=@ok_m P w K mg base t T;apply T.F_i.ok sc_i
 ·obtain⟨p,q,d,⟨M,ts,u⟩,f,su,rfl,v,G,m,lt,S,e5,⟨a1,U⟩,⟨b9,c0⟩,b8,d5⟩:=h;replace m:Sq d M:=m;replace lt:ts.length=d:=lt;replace a1:0<u:=a1;replace U:u<=5:=U;have d6:=m.1;have L:∀z k:Int,k.natAbs<=12->IntMulOk z k:=λz k h=>.of_right (uN ⋯ ⋯);refine⟨_,(pL (pW (i:=2) sc_i.nd rfl (Or.inl rfl) (nW pK))
   (pL (lI yR rfl (lH rfl T.z_range (pJ (nH T.z_len (pS (pq 0))) pK)) (nP (i:=3) sc_i.nd rfl (Or.inl rfl))
   (pL (pW (i:=4) sc_i.nd rfl (Or.inl rfl) (pQ jM (oP (Eg rfl) rfl T.z_sum (nofun) (pJ (kN (xs:=["_law_number","_law_top"]) (fr:=[]) (g:=(gTup K 2 (nB (pY 0) (nB (pY 1) gNil)))) (tt:=(tEl (tOp (rI (λi j=>IntMulOk i j) λi j=>.int (i*j)) (tVar 0) (tVar 1)))) (mQ (sc:=pM cQ) (N:=N_i) rfl rfl (nofun)) rfl (fX rfl T.z_zip (pJ (nN ix_B (pS (pq 0)) (pq 3) (λ_ _=>rfl)) (pJ (pS (pq 1)) pK))) (λ_ _ _ W=>(kY rfl (nQ (mS (N:=["_law_number","_law_top"]) (i:=0) W rfl (nofun)) (nQ (mS (N:=["_law_number","_law_top"]) (i:=1) W rfl (nofun)) kI)))) (λ_ _ _ W=>(lE (pQ oW (pv 0) (pv 1))))) pK)) (nN ix_B (pS (pq 1)) (pq 3) (λ_ _=>rfl))))
   (pO (mC (dJ vO PySem.F.slot_list_append PySem.F.type_list_append aI (pq 2) (pJ (pQ mW (pQ oW (nN ix_B (pS (pq 0)) (pq 3) (λ_ _=>rfl)) (pS (pq 1))) (pQ oW (pq 4) (pS (pq 0)))) pK))))))
   (pL (iP (pU d8 hr.mo T.F_m (pJ (pq 2) (pJ (pQ oW (pS (pq 0)) (pS (pq 1))) pK))) (Fw rfl (nQ (nP (i:=2) sc_i.nd rfl (Or.inl rfl)) (nQ (nP (i:=5) sc_i.nd rfl (Or.inl rfl)) kI))))
   (pO (oB (oX (pJ (pS (pq 0)) (pJ (pq 2) (pJ (pq 5) pK))))))))),?_⟩
  show tSeq _ _ _ [some (.ref p),some (.ref q),none,none,none,none] H;right;refine⟨yD _,λl hl=>?_⟩;have a3:Same H (upd H l (.lst [])):=Same.new hl;have a5:(upd H l (.lst [])) l=some (.lst (((spT M ts u f su).take 0).map V.int)):=pN;generalize upd H l (.lst [])=e3 at a3 a5;subst e1;refine st λN1 e1=>lN λB eB=>?_;simp only[mD];ext;refine gY (v.up a3) λy b7=>jC (b:=true) b7 ?_;rw[lt];refine⟨_,rfl,⋯,⋯,?_⟩;rw[zW];refine dW (n:=d) (g:=pY 3) (tb:=B) (λk R x=>∃v3 J:Option V,R=[some (.ref p),some (.ref q),some (.ref l),v3,J,none]/\Same H x/\x l=some (.lst (((spT M ts u f su).take k).map V.int))) ⟨none,none,rfl,a3,a5⟩ ?_ ?_
  ·rintro k R x c2 ⟨v3,J,rfl,o,N⟩;obtain⟨r,O⟩:=iL d6 c2;have e2:r.length=d:=m.2 r (zqb O);subst eB;show tSeq _ _ _ [some (.ref p),some (.ref q),some (.ref l),some (.int (0+(k:Int))),J,none] x;refine st λe6 c4=>?_;ext;refine oC λe8 c8=>?_;simp only[iZip];ext;refine jH (v.up o) λa Y=>dX Y O ⋯ λd2 a6=>?_;refine mT (G.upS o) λps a7=>?_;refine⟨true,true,d2,rfl,ps,rfl,⟨_,a6⟩,⟨_,SqB.tup a7⟩,λc6 c9=>?_⟩;refine eA (λn z _=>∃a b,r[n]?=some a/\f[n]?=some b/\z=.int (a*b)) c9 a6 (SqB.tup a7) (by rw[zqe,zqe];omega) (by rw[zqe];omega) (λ_ _ _ _ r _=>r) ?_ ?_
   ·intro n e4 e0 a0 zs a8 Z D e7 d3 c5;obtain⟨F,X,rfl⟩:=nS a8;obtain⟨C,I,rfl⟩:=nS Z;subst c8;show tOp _ _ _ [some (.int F),some (.int C)] a0 d3;ext;exact⟨L _ _ (b8 C (zqb I)),c5 _ _ (Same.refl _) ⟨F,C,X,I,rfl⟩⟩
   ·intro a0 zs D d1 c3 d4;have Z:zs=(List.zipWith (·*·) r f).map V.int:=by
     refine nE (by rw[c3,zqe,yA];omega) λn z e=>?_;obtain⟨F,C,X,I,rfl⟩:=d4 n z e;exact⟨F*C,by rw[yX,X,I],rfl⟩
    subst Z;have g:=o.trans D;have c7:(List.zipWith (·*·) r f).sum=dotI r f:=rfl;refine⟨c6,rfl,_,SqL.of d1,?_⟩;rw[c7];refine mT (G.upS g) λb2 b1=>⟨true,b2,_,_,_,rfl,rfl,SqB.tup b1,mL (iZ (getD_at (k:=k) ⋯)) ⋯,?_⟩
    try ext
    subst c4
    try ext
    have a4:=D _ _ N;refine⟨.inl ⟨rfl,_,SqL.of a4⟩,gY (v.up g) λb5 b0=>⟨true,b5,_,_,_,rfl,rfl,b0,mL (iZ (getD_at (k:=k) (show k<ts.length by omega))) ⋯,?_⟩⟩;refine kG (G.upS g) ?_
    try ext
    refine⟨L _ _ ⋯,gD (v.up g) ?_⟩
    try ext
    refine⟨L _ _ ⋯,?_⟩;have a9:=Vh (u:=u) (su:=su) m lt S O;have c1:=Kw (u:=u) (su:=su) m lt S;refine⟨l,_,_,rfl,rfl,a4,aJ (by rw[zqe,wP];omega),?_⟩;have d7:(((spT M ts u f su).take k).map V.int)++[V.int (ts.getD k 0*su+(dotI r f-f.getD k 0)*u)]=((spT M ts u f su).take (k+1)).map V.int:=by
     rw[vY,a9,xK];rfl
    rw[d7];exact⟨Same.over hl g,pN⟩
  ·rintro R x ⟨v3,J,rfl,o,N⟩;have c1:=Kw (u:=u) (su:=su) m lt S;rw[wR ⋯]at N;left;refine gD (v.up o) (kG (G.upS o) ?_)
   try ext
   refine⟨L _ _ ⋯,?_⟩;have b3:0<u*su:=xC a1 b9;have d9:u*su<=30:=qH U c0 ⋯ ⋯;refine⟨false,l,_,_,rfl,SqB.lst N,⋯,jI (B:=5) ⋯ ∅,b3,λpl a0 D b4=>?_⟩;obtain⟨z,b6,d0⟩:=b4;refine⟨true,pl,_,rfl,SqB.tup b6,rfl,?_⟩;simp only[nB,gNil,pY];refine⟨_,_,rfl,_,_,rfl,rfl,?_⟩;symm;have g:=o.trans D;refine jH (v.up g) λa Y=>⟨(by show 3<=sizeLine;decide),λc a2=>?_⟩;exact d5 c _ (g.trans (Same.new a2)) ⟨a,z,SqT.of pN,Y.up (Same.new a2),SqT.of (Same.new a2 _ _ d0)⟩
def DsR(K:Frag)(a:Addr)(ms:List Dd)(j:Nat)(y:V)(H:Hp):Prop:=∃q m,y=.ref q/\ms[j]?=some m/\DdS K (offH a H) q m
theorem DsR.mono{K:Frag}{a:Addr}{ms:List Dd}(i:Nat)(y:V)(c b:Hp)(h:DsR K a ms i y c)(s:lY a c b):DsR K a ms i y b:=let ⟨q,m,d,f,e⟩:=h;⟨q,m,d,f,DdS.up e (gG s)⟩
theorem Kv{K:Frag}{a:Addr}{H:Hp}{ms:List Dd}{ys:List V}(hl:ys.length=ms.length)(h:∀(j:Nat) y,ys[j]?=some y->DsR K a ms j y H)(e:H a=some (.lst ys)):LsD K H a ms:=by
 obtain⟨ps,rfl,f⟩:=jS (F:=DdS K H) hl λj y c=>by
  obtain⟨q,m,d,b,g⟩:=h j y c;exact⟨q,m,d,b,DdS.up g gF⟩
 exact⟨ps,SqL.of e,f⟩
def mkS(k:Nat)(L:List Stp)(S:LI')(su:Int):List Dd:=(mnL k).map λm=>spD (shDs (fmD k) L m) S su
def sp_b(K:Frag):Sp:=λvs H Q _=>E2 λ(p:Addr)(ns:LI')=>A4 (vs=[.ref p]) (SqL K H p (ns.map V.int)) ((∀m∈ns,Builtin.Int.intBits m<=1048576)) (∀r l k L S su H',Same H H'->H' r=some (.tup [.int (fmD k),.ref l])->kH k L S su->LsD K H' l (mkS k L S su)->Q (.ref r) H')
theorem dvn(x y:Int)(b:0<y)(a:y<1000000000):lX x y:=dvs x y ⋯ ⋯
theorem Vg{d:Nat}(g:d=2\/d=3)(c m:Int)(l:m.natAbs<=1000000):Stp.Fit d 1000000 ⟨(c.fmod d).toNat,((c.fmod d+1+(c.fdiv d).fmod (d-1)).fmod d).toNat,-m⟩/\0<=c.fmod d/\0<=(c.fmod d+1+(c.fdiv d).fmod (d-1)).fmod d:=by
 have a:=fms c d ⋯;have b:=fms (c.fdiv d) (d-1) ⋯;generalize c.fmod d=i at a;generalize (c.fdiv d).fmod (d-1)=e at b;have f:=fms (i+1+e) d ⋯;refine⟨⟨by show i.toNat<d;omega,by show((i+1+e).fmod d).toNat<d;omega,?_,by show(-m).natAbs<=_;omega⟩,a.1,f.1⟩;show i.toNat≠((i+1+e).fmod d).toNat;intro z;have j:(i+1+e).fmod d=i:=⋯
 have k:=Int.fmod_add_mul_fdiv (i+1+e) d;rw[j]at k;have:(d:Int)*(i+1+e).fdiv d=1+e:=⋯
 rcases g with rfl|rfl
 ·omega
 ·omega
theorem Vf{ns:LI'}(h:∀m∈ns,Builtin.Int.intBits m<=1048576)(k:Nat):Builtin.Int.intBits (ns.getD k 0)<=1048576:=by
 rw[zqc];cases e:ns[k]? with
 |none=>exact(∅:Builtin.Int.intBits 0<=1048576)
 |some m=>exact h m (zqb e)
def spZ(c:Int)(j:Nat):Int:=(c*((0+(j:Int))*c+1)+12).fmod 25-12
theorem Ve(c:Int)(j:Nat):(spZ c j).natAbs<=12:=by
 unfold spZ;have:=fms (c*((0+(j:Int))*c+1)+12) 25 ∅;omega
theorem Vd{c:Int}{j:Nat}(h:Builtin.Int.intBits c<=1048576)(b:j<=2):IntMulOk c ((0+(j:Int))*c+1):=by
 have a:=intBits_le_iff.mp h;refine yG (n:=1048576+2) h (intBits_le_iff.mpr ?_) ∅;rw[vE];generalize 2^1048576=B at a;have e:((0+(j:Int))*c).natAbs=j*c.natAbs:=by rw[xD,uX];rfl
 have l:j*c.natAbs<=2*c.natAbs:=xI _ b;omega
theorem Vc{k:Nat}(c:k<20):(mnL k).map (shDs (fmD k) [])=mnL k:=by
 conv=>rhs;rw[←vX (mnL k)]
 refine yJ λm d=>?_;obtain⟨a,_,b,_⟩:=(kB c).mks m d;exact Uh (lG k) a b
theorem ok_b(T:Txt K mg t):FnOk P w K mg base CX0 4 t.a_b t.d_b pz' (sp_b K):=by
 have c5:=@ok_x P w K mg base t T;have g5:=@ok_r P w K mg base t T;have f9:=@ok_s P w K mg base t T;have h3:=@ok_m P w K mg base t T;have g3:=@ok_e P w K mg base t T;have h2:=@ok_i P w K mg base t T;apply T.F_b.ok sc_b
 ·obtain⟨p,ns,rfl,c6,h5,i8⟩:=h;refine⟨_,(pL (pW (i:=1) sc_b.nd rfl (Or.inl rfl) (pU c5 hr.mo T.F_x (pJ (pq 0) (pJ pP pK))))
   (pL (pW (i:=2) sc_b.nd rfl (Or.inl rfl) (pQ mW pP (pQ mF (pQ nZ (pq 1) pP) pP)))
   (pL (pW (i:=3) sc_b.nd rfl (Or.inl rfl) (pU g5 hr.mo T.F_r (pJ (pQ mF (pq 1) pP) pK)))
   (pL (oO (oJ lK (pq 2) pP (oG _))
   (pO (pW (i:=3) sc_b.nd rfl (Or.inl rfl) (pU f9 hr.mo T.F_s (pJ (pQ mF (pq 1) pP) pK))))
   oS)
   (pL (pW (i:=4) sc_b.nd rfl (Or.inr rfl) (pU c5 hr.mo T.F_x (pJ (pq 0) (pJ pP pK))))
   (pL (pW (i:=5) sc_b.nd rfl (Or.inr rfl) (pU h3 hr.mo T.F_m (pJ (oQ (sc:=pM gX) (N:=N_b) (fr:=[("_law_cell_here",4)]) (te:=(tOp (rI0 λi j=>.int (i-j)) (tOp (rI (λ_ j=>j≠0) λi j=>.int (i.fmod j)) (tOp (rI0 λi j=>.int (i+j)) (tOp (rI (λi j=>IntMulOk i j) λi j=>.int (i*j)) (tVar 1) (tOp (rI0 λi j=>.int (i+j)) (tOp (rI (λi j=>IntMulOk i j) λi j=>.int (i*j)) (tVar 0) (tVar 1)) (tC (.int 1)))) (tC (.int 12))) (tC (.int 25))) (tC (.int 12)))) rfl rfl (nofun) rfl (nofun) (lH rfl T.z_range (pJ (pq 2) pK)) (λ_ _ _ f6=>(pQ jM (pQ nZ (pQ mW (pQ oW (pv 1) (pQ mW (pQ oW (pv 0) (pv 1)) pP)) pP) pP) pP))) (pJ (pQ mW pP (pQ nZ (pQ mF (pq 1) pP) pP)) pK))))
   (pL (pW (i:=6) sc_b.nd rfl (Or.inr rfl) (nN ix_B (nW (pJ pP (pJ (pQ bZ pP pP) pK))) (pQ mF (pQ nZ (pQ mF (pq 1) pP) pP) pP) (λ_ _=>rfl)))
   (pL (lI yR rfl (Lx rfl T.z_range (pJ pP (pJ pP pK))) (nP (i:=7) sc_b.nd rfl (Or.inl rfl))
   (pL (pW (i:=4) sc_b.nd rfl (Or.inr rfl) (pU c5 hr.mo T.F_x (pJ (pq 0) (pJ (pq 7) pK))))
   (pL (pW (i:=8) sc_b.nd rfl (Or.inr rfl) (pQ nZ (pq 4) (pq 2)))
   (pL (pW (i:=9) sc_b.nd rfl (Or.inr rfl) (pQ nZ (pQ mW (pQ mW (pq 8) pP) (pQ nZ (pQ mF (pq 4) (pq 2)) (pQ jM (pq 2) pP))) (pq 2)))
   (pO (iB (i:=3) (sc:=pM gX) (N:=N_b) (fr:=[("_law_cell_here",4),("_law_most",6),("_law_i",8),("_law_j",9)]) (te:=(oV (sp_e K) [] E0 (pZ (tVar 0) (pZ (tVar 3) (pZ (tVar 4) (pZ (tOp (rI0 λi j=>.int (i-j)) (tOp (rI (λ_ j=>j≠0) λi j=>.int (i.fmod j)) (tOp (rI lX λi j=>.int (i.fdiv j)) (tVar 1) (tC (.int 6))) (tOp (rI0 λi j=>.int (i+j)) (tOp (rI (λi j=>IntMulOk i j) λi j=>.int (i*j)) (tC (.int 2)) (tVar 2)) (tC (.int 1)))) (tVar 2)) tNil)))))) rfl rfl (nofun) rfl sc_b.nd rfl rfl (nofun) (oF (pq 3)) (λ_ _ _ f6=>(pU g3 hr.mo T.F_e (pJ (pv 0) (pJ (pv 3) (pJ (pv 4) (pJ (pQ jM (pQ nZ (pQ mF (pv 1) pP) (pQ mW (pQ oW pP (pv 2)) pP)) (pv 2)) pK))))))))))))
   (pO (oB (oX (pJ (pq 2) (pJ (oQ (sc:=pM gX) (N:=N_b) (fr:=[("_law_spot",5)]) (te:=(oV (sp_i K) [] E0 (pZ (tVar 0) (pZ (tVar 1) tNil)))) rfl rfl (nofun) rfl (nofun) (oF (pq 3)) (λ_ _ _ f6=>(pU h2 hr.mo T.F_i (pJ (pv 0) (pJ (pv 1) pK))))) pK))))))))))))),?_⟩
  show tSeq _ _ _ [some (.ref p),none,none,none,none,none,none,none,none,none] H;right;refine⟨p,ns,0,rfl,c6,∅,?_⟩;show N1 [some (.ref p),some (.int (ns.getD 0 0)),none,none,none,none,none,none,none,none] H;generalize ns.getD 0 0=b;left;refine⟨∅,dvn _ _ ∅ ∅,?_⟩;have h4:∃d:Nat,(2:Int)+(b.fmod 3).fdiv 2=d/\(d=2\/d=3):=by
   have a:=fms b 3 ∅;rcases(show b.fmod 3=0\/b.fmod 3=1\/b.fmod 3=2 by omega) with e|e|e <;> rw[e]
   ·exact⟨2,∅,.inl rfl⟩
   ·exact⟨2,∅,.inl rfl⟩
   ·exact⟨3,∅,.inr rfl⟩
  obtain⟨d,g2,u⟩:=h4;rw[g2];left;refine⟨dvn _ _ ∅ ∅,_,rfl,λl1 i0 f3 h0=>?_⟩;subst e1;refine st λN1 e1=>?_;have go:∀(k:Nat)(l:Addr)(D:Hp),k<20->fmD k=d->Same H D->LsD K D l (mnL k)->N1 [some (.ref p),some (.int b),some (.int d),some (.ref l),none,none,none,none,none,none] D:=by
   intro k l D a7 h7 b2 b6;subst h7;left;refine⟨p,ns,1,rfl,b2.seq c6,∅,?_⟩;have e9:=Vf h5 (1:Int).toNat;show N1 [some (.ref p),some (.int b),some (.int (fmD k)),some (.ref l),some (.int (ns.getD (1:Int).toNat 0)),none,none,none,none,none] D;generalize ns.getD (1:Int).toNat 0=m at e9;left;refine oC λB eB=>?_;simp only[mD];ext;refine⟨⋯,⋯,λh1 i4=>?_⟩;rw[zW];refine kO (λj y _=>∃n,((List.range (fmD k)).map (spZ m))[j]?=some n/\y=.int n) i4 ⋯ (λ_ _ _ _ r _=>r) ?_ ?_
   ·intro j e8 zs g8 b9 b0 a4 a0;subst eB;show tOp _ _ _ [some (.int (0+(j:Int))),some (.int m)] e8 a4;ext;refine⟨.of_left (uN ⋯ ⋯),Vd e9 ⋯,∅,a0 _ _ (Same.refl _) ⟨_,by rw[zD,yB g8];rfl,rfl⟩⟩
   ·intro e8 ys b9 f8 Z g4;have X:ys=((List.range (fmD k)).map (spZ m)).map V.int:=nE (by rw[Z,zqe,wY]) g4;subst X;have f0:((List.range (fmD k)).map (spZ m)).length=fmD k:=by rw[zqe,wY]
    have e3:∀z∈(List.range (fmD k)).map (spZ m),z.natAbs<=12:=λz J=>by
     obtain⟨j,_,rfl⟩:=pI.mp J;exact Ve m j
    generalize (List.range (fmD k)).map (spZ m)=v at f0 e3 f8;have j4:=fms (b.fdiv 36) 6 ∅;refine⟨dvn _ _ ∅ ∅,∅,false,h1,v,_,rfl,SqB.lst f8,⋯,jI (B:=3) ⋯ ∅,⋯,λq e4 f4 b7=>?_⟩;obtain⟨i9,d1,j5⟩:=Bm (U:=1+(b.fdiv 36).fmod 6) (ts:=v) ⋯;have c4:(redT (1+(b.fdiv 36).fmod 6) v).length=fmD k:=by rw[Jw];exact f0
    have c8:∀z∈redT (1+(b.fdiv 36).fmod 6) v,z.natAbs<=12:=λz J=>by
     obtain⟨t,i5,h⟩:=i9 z J;exact zR h (e3 t i5)
    have d5:redU (1+(b.fdiv 36).fmod 6) v<=6:=⋯
    generalize redT (1+(b.fdiv 36).fmod 6) v=a9 at c4 c8 b7;generalize redU (1+(b.fdiv 36).fmod 6) v=su at d5 d1 b7;have g1:=(b2.trans b9).trans f4;have h6:=b9.trans f4;left;refine⟨⟨∅,∅,∅⟩,by show 2<=sizeLine;decide,λa6 G=>⟨dvn _ _ ∅ ∅,∅,dvn _ _ ∅ ∅,?_⟩⟩;have b1:=Same.new (o:=.lst [.int 3,.int (10^(6:Int).toNat)]) G;have e5:(upd e4 a6 (.lst [.int 3,.int (10^(6:Int).toNat)])) a6=some (.lst [.int 3,.int (10^(6:Int).toNat)]):=pN;generalize upd e4 a6 (.lst [.int 3,.int (10^(6:Int).toNat)])=i7 at b1 e5;have g0:∃(i:Nat)(f:Int),((b.fdiv 216).fmod 4).fdiv 3=i/\[V.int 3,V.int (10^(6:Int).toNat)][i]?=some (.int f)/\3<=f/\f<=1000000:=by
     have a:=fms (b.fdiv 216) 4 ∅;rcases(show(b.fdiv 216).fmod 4=0\/(b.fdiv 216).fmod 4=1\/(b.fdiv 216).fmod 4=2\/(b.fdiv 216).fmod 4=3 by omega) with e|e|e|e <;> rw[e]
     ·exact⟨0,3,∅,rfl,∅,∅⟩
     ·exact⟨0,3,∅,rfl,∅,∅⟩
     ·exact⟨0,3,∅,rfl,∅,∅⟩
     ·exact⟨1,_,∅,rfl,∅,∅⟩
    obtain⟨i,f,g6,h8,j1,j7⟩:=g0;refine⟨false,a6,_,_,.int f,rfl,rfl,SqB.lst e5,mL h8 g6,?_⟩;have u:=lG k;have f7:=g1.trans b1;have i6:=h6.trans b1;have i2:=b7.upS b1;have F:=kB a7;subst e1;refine st λN1 e1=>lN λB eB=>?_;simp only[Ci];ext;refine⟨∅,∅,∅,∅,?_⟩;refine dW (n:=4) (g:=pY 7) (tb:=B) (λn c3 H'=>∃(l:Addr)(L:List Stp)(a5:Int)(d3 S a3:Option V),c3=[some (.ref p),some (.int b),some (.int (fmD k)),some (.ref l),some (.int a5),some (.ref q),some (.int f),d3,S,a3]/\Same i7 H'/\L.length=n/\(∀z∈L,z.Fit (fmD k) 1000000)/\LsD K H' l ((mnL k).map (shDs (fmD k) L))) ⟨l,[],m,none,none,none,rfl,Same.refl _,rfl,(λz J=>by cases J),(by rw[Vc a7];exact b6.up i6)⟩ ?_ ?_
    ·rintro n c3 c2 j6 ⟨c1,L,a5,d3,S,a3,rfl,W,f2,M,b3⟩;subst eB;show tSeq _ _ _ [some (.ref p),some (.int b),some (.int (fmD k)),some (.ref c1),some (.int a5),some (.ref q),some (.int f),some (.int (2+(n:Int))),S,a3] c2;refine st λb8 R=>?_;ext;refine⟨p,ns,2+(n:Int),rfl,(f7.trans W).seq c6,⋯,?_⟩;show b8 [some (.ref p),some (.int b),some (.int (fmD k)),some (.ref c1),some (.int (ns.getD (2+(n:Int)).toNat 0)),some (.ref q),some (.int f),some (.int (2+(n:Int))),S,a3] c2;generalize ns.getD (2+(n:Int)).toNat 0=c;subst R;refine st λb8 R=>?_;ext;refine⟨⋯,?_⟩;subst R;refine st λb8 R=>?_;ext;refine⟨dvn _ _ ⋯ ⋯,⋯,⋯,?_⟩;have j8:=fms (c.fdiv 6) (2*f+1) ⋯;obtain⟨I,e6,e2⟩:=Vg u c ((c.fdiv 6).fmod (2*f+1)-f) ⋯;generalize (c.fmod (fmD k:Nat)+1+(c.fdiv (fmD k:Nat)).fmod ((fmD k:Nat)-1)).fmod (fmD k:Nat)=k0 at I e2;generalize c.fmod (fmD k:Nat)=j9 at I e6;obtain⟨b5,rfl⟩:=vN e6;obtain⟨d9,rfl⟩:=vN e2;rw[zW,zW]at I;subst R;ext;refine oC λi3 c9=>?_;simp only[iSeq];ext;obtain⟨ps,a1,G⟩:=b3;have c0:ps.length=(mnL k).length:=by rw[oU G,zqe]
     have l2:=F.l2;refine⟨false,⟨_,a1⟩,λN d2=>?_⟩;refine oM (DsR K N ((mnL k).map (shDs (fmD k) (⟨b5,d9,-((c.fdiv 6).fmod (2*f+1)-f)⟩:: L)))) d2 a1 (by rw[zqe];omega) DsR.mono ?_ ?_
     ·intro j y U zs X o b0 a4 a0;obtain⟨O,d8,rfl⟩:=nM X;obtain⟨x,d4,b4⟩:=nI G d8;obtain⟨C,a2,rfl⟩:=nM d4;obtain⟨f1,_,e7,_⟩:=F.mks C (zqb a2);have Y:=kC u M;subst c9;show oV _ _ _ _ [some (.ref O),some (.int c),some (.int f),some (.int b5),some (.int d9)] U a4;ext;refine⟨dvn _ _ ∅ ∅,.of_left (uN ∅ ∅),⋯,?_⟩;refine⟨O,b5,d9,fmD k,_,shDs (fmD k) L C,rfl,b4.up o,kS Y _,nY Y.p,u,I.hi,I.hj,⋯,λr h9 g a8=>?_⟩;have d0:=Ug u M I f1 e7;unfold shD at d0;rw[qT]at d0;rw[d0]at a8;exact a0 _ _ g ⟨r,_,rfl,by rw[zD,a2];rfl,DdS.tk a8 (jJ (g _ _ b0))⟩
     ·intro U ys o d7 Z d6;have c7:=Kv (by rw[Z,zqe,zqe];exact c0) d6 d7;exact⟨N,rfl,W.trans o,_,by rw[zX,f2],λz J=>(yQ.mp J).elim (λe=>by rw[e];exact I) (M z),c7⟩
    ·rintro c3 c2 ⟨c1,L,a5,d3,S,a3,rfl,W,f2,M,b3⟩;have g7:kH k L a9 su:=⟨a7,M,⋯,c4,c8,d1,d5⟩;symm;refine oC λi3 c9=>?_;simp only[iSeq];ext;obtain⟨ps,a1,G⟩:=b3;have c0:ps.length=(mnL k).length:=by rw[oU G,zqe]
     have l2:=F.l2;refine⟨false,⟨_,a1⟩,λN d2=>?_⟩;refine oM (DsR K N (mkS k L a9 su)) d2 a1 (by rw[zqe];omega) DsR.mono ?_ ?_
     ·intro j y U zs X o b0 a4 a0;obtain⟨O,d8,rfl⟩:=nM X;obtain⟨x,d4,b4⟩:=nI G d8;obtain⟨C,a2,rfl⟩:=nM d4;obtain⟨f1,_,e7,e0,i1,_⟩:=F.mks C (zqb a2);have Y:=kC u M;subst c9;show oV _ _ _ _ [some (.ref O),some (.ref q)] U a4;ext;refine⟨O,q,fmD k,shDs (fmD k) L C,a9,su,rfl,b4.up o,i2.upS (W.trans o),kS Y _,nY Y.p,c4,u,⟨e0,?_⟩,⟨d1,d5⟩,c8,λr h9 g a8=>?_⟩
      ·show C.2.2<=5;have j3:=F.p5;have f5:=jT a7;rw[i1]at f5;have g9:(1:Int)<=(mnP k/C.2.2.toNat:Nat):=tE f5 e0;have:=Int.mul_le_mul_of_nonneg_right g9 (wT e0);omega
      ·exact a0 _ _ g ⟨r,_,rfl,by unfold mkS;rw[zD,a2];rfl,DdS.tk a8 (jJ (g _ _ b0))⟩
     ·intro U ys o d7 Z d6;have c7:=Kv (by unfold mkS;rw[Z,zqe,zqe];exact c0) d6 d7;refine⟨(by show 2<=sizeLine;decide),λr hr=>?_⟩;have g:=Same.new (o:=.tup [.int (fmD k),.ref N]) hr;exact i8 r N k L a9 su _ (((f7.trans W).trans o).trans g) pN g7 (c7.up g)
  ext;have j0:=fms (b.fdiv 3) 12 ∅;have j2:=fms (b.fdiv 3) 8 ∅;rcases u with rfl|rfl
  ·rw[zK (show¬ ((2:Nat):Int)=3 by decide)];refine iteF (go _ l1 i0 ⋯ ?_ f3 h0);unfold fmD;exact zG ⋯
  ·rw[zJ (show((3:Nat):Int)=3 by decide)];refine iteT ⟨dvn _ _ ∅ ∅,_,rfl,λl2 D b2 b6=>go _ l2 D ⋯ ?_ (f3.trans b2) b6⟩;unfold fmD;exact zE ⋯
def sp_o:Sp:=λvs H Q _=>E1 λ(c:Int)=>A2 (vs=[.int c]) (∀m H',Same H H'->¬ (1<=m/\m<=200)->Q (.int m) H')
theorem ok_o(T:Txt K mg t):FnOk P w K mg base CX0 1 t.a_o t.d_o pq' sp_o:=by
 apply T.F_o.ok sc_o
 ·obtain⟨c,rfl,g⟩:=h;refine⟨_,(pO (oB (nN ix_B (nW (pJ pP (pJ pP (pJ (pQ jM (kJ kK pP) (pQ nZ (pQ mF (pq 0) pP) (pQ bZ pP pP))) (pJ (pQ mW pP (pQ nZ (pQ mF (pq 0) pP) (pQ bZ pP pP))) pK))))) (pQ nZ (pq 0) pP) (λ_ _=>rfl)))),?_⟩;show tRet _ _ [some (.int c)] H;ext;have k:((10:Int)^(9:Int).toNat)=1000000000:=∅
  rw[k];have a:=fms (c.fdiv 4) 1000000000 ∅;have b:=fms c 4 ∅;refine⟨dvn _ _ ∅ ∅,⟨∅,∅,∅⟩,∅,dvn _ _ ∅ ∅,⟨∅,∅,∅⟩,∅,by show 4<=sizeLine;decide,λl hl=>⟨∅,?_⟩⟩;generalize (c.fdiv 4).fmod 1000000000=z at a;have j:=Same.new (o:=.lst [.int 0,.int 201,.int (-1-z),.int (202+z)]) hl;have e1:(upd H l (.lst [.int 0,.int 201,.int (-1-z),.int (202+z)])) l=some (.lst [.int 0,.int 201,.int (-1-z),.int (202+z)]):=pN;have d:∃(i:Nat)(m:Int),c.fmod 4=i/\[V.int 0,V.int 201,V.int (-1-z),V.int (202+z)][i]?=some (.int m)/\¬ (1<=m/\m<=200):=by
   rcases(show c.fmod 4=0\/c.fmod 4=1\/c.fmod 4=2\/c.fmod 4=3 by omega) with e|e|e|e <;> rw[e]
   ·exact⟨0,0,rfl,rfl,∅⟩
   ·exact⟨1,201,rfl,rfl,∅⟩
   ·exact⟨2,_,rfl,rfl,⋯⟩
   ·exact⟨3,_,rfl,rfl,⋯⟩
  obtain⟨i,m,f,n,d⟩:=d;exact⟨false,l,_,_,.int m,rfl,rfl,SqB.lst e1,mL n f,g m _ j d⟩
theorem vC_i{d j:Nat}{c:Int}{r:LI'}(e:(idM d)[j]?=some r):(vC d c)[j]?=some (r.map (c*·),1):=by
 unfold vC cM;rw[zD,zD,e];rfl
theorem Ku{d j:Nat}(h:j<d):∃r,(idM d)[j]?=some r/\r.length=d:=by
 obtain⟨r,e⟩:=iL (nU (d:=d)).1 h;exact⟨r,e,nU.2 r (zqb e)⟩
theorem Kt{d:Nat}{ys:List V}(hl:ys.length=d)(h:∀(j:Nat) y,ys[j]?=some y->y=V.int 0):ys=(List.replicate d (0:Int)).map V.int:=by
 refine nE (by rw[hl,yU]) λj y e=>⟨0,?_,h j y e⟩;rw[tF,zG (by rw[←hl];exact(zqa e).1)]
def sp_z(K:Frag):Sp:=λvs H Q _=>E2 λ(d:Nat)(c:Int)=>A4 (vs=[.int d,.int c]) ((d=2\/d=3)) ((c=1\/c=2\/c=3)) (∀r H',Same H H'->Wy K H' r d (vC d c)->Q (.ref r) H')
theorem Cz{d:Nat}{c:Int}:∀x∈vC d c,x.1.length=d/\0<x.2/\x.2<=2/\gl x.2 x.1=1:=λx a=>by
 obtain⟨r,hr,rfl⟩:=pI.mp a;exact⟨mU.2 r hr,(by show(0:Int)<1;decide),(by show(1:Int)<=2;decide),eV _⟩
theorem ok_z(T:Txt K mg t):FnOk P w K mg base CX0 7 t.a_z t.d_z pl' (sp_z K):=by
 have b1:=@ok_j P w K mg base t T;have b2:=@ok_1c P w K mg base t T;apply T.F_z.ok sc_z
 ·obtain⟨d,c,rfl,v,M,d0⟩:=h;refine⟨_,(pL (iB (i:=2) (sc:=pM eM) (N:=N_z) (fr:=[("_law_by",1)]) (te:=(tTup (pZ (tCB (jY K) (pZ (nF (iSeq K (tVar 0)) (pY 0) (tEl (tOp (rI (λi j=>IntMulOk i j) λi j=>.int (i*j)) (tVar 1) (tVar 0))) 1 [("_law_by",1)]) tNil)) (pZ (tC (.int 1)) tNil)))) rfl rfl (nofun) rfl sc_z.nd rfl rfl (nofun) (oF (pU b1 hr.mo T.F_j (pJ (pq 0) pK))) (λ_ _ _ Y=>(oX (pJ (oZ mK rfl T.z_tuple (nofun) (pJ (oQ (N:=["_law_row","_law_by"]) (fr:=[("_law_by",1)]) (te:=(tOp (rI (λi j=>IntMulOk i j) λi j=>.int (i*j)) (tVar 1) (tVar 0))) Y rfl (nofun) rfl (nofun) (oF (pv 0)) (λ_ _ _ d3=>(pQ oW (pv 1) (pv 0)))) pK)) (pJ pP pK)))))
   (pO (oB (pU b2 hr.mo T.F_1c (pJ (pq 2) (pJ (oX (pJ (oZ mK rfl T.z_tuple (nofun) (pJ (oQ (sc:=pM eM) (N:=N_z) (fr:=[]) (te:=(tC (.int 0))) rfl rfl (nofun) rfl (nofun) (lH rfl T.z_range (pJ (pq 0) pK)) (λ_ _ _ Y=>pP)) pK)) (pJ pP pK))) pK)))))),?_⟩
  show tSeq _ _ _ [some (.int d),some (.int c),none] H;right;exfalso;refine⟨d,rfl,v,λc0 d6 c6 b7 _=>?_⟩;obtain⟨xs,U,X,c1⟩:=b7.walk;have l1:=(nU (d:=d)).1;refine⟨true,c0,rfl,⟨_,U⟩,λa1 a3=>?_⟩;refine oM (λj y H'=>∃q x,y=V.ref q/\(vC d c)[j]?=some x/\oA (offH a1 H') q x.1 x.2) a3 U (by rw[X,l1];omega) (λ_ _ _ _⟨b9,x,C,G,F⟩b6=>⟨b9,x,C,G,oA.upS F (gG b6)⟩) ?_ ?_
  ·intro j y D zs g u a0 Z I;obtain⟨c8,r,rfl,W,p⟩:=c1 j y g;have d5:r.length=d:=nU.2 r (zqb W);subst eB;show tTup _ [some (.ref c8),some (.int c)] D Z;ext;refine oC λd1 N=>?_;simp only[iSeq];ext;refine⟨true,⟨_,p.up u⟩,λb8 c4=>?_⟩;refine oM (λn y _=>∃z,(r.map (c*·))[n]?=some z/\y=.int z) c4 (p.up u) (by rw[zqe];omega) (λ_ _ _ _ r _=>r) ?_ ?_
   ·intro n y a d7 a4 m d4 c7 a5;obtain⟨z,c2,rfl⟩:=nS a4;subst N;show tOp _ _ _ [some (.int z),some (.int c)] a c7;ext;exact⟨.of_left (uN ⋯ ⋯),a5 _ _ (Same.refl _) ⟨_,by rw[zD,c2];rfl,rfl⟩⟩
   ·intro a ys m S O R;have g:ys=(r.map (c*·)).map V.int:=nE (by rw[O,zqe,zqe]) R;subst g;refine⟨b8,_,rfl,.inl ⟨SqL.of S,λl hl=>?_⟩⟩;have o:=Same.new (o:=.tup ((r.map (c*·)).map V.int)) hl;have k:(upd a l (.tup ((r.map (c*·)).map V.int))) l=some (.tup ((r.map (c*·)).map V.int)):=pN;generalize upd a l (.tup ((r.map (c*·)).map V.int))=L at o k
    try ext
    refine⟨(by show 2<=sizeLine;decide),λb J=>?_⟩;have f:=Same.new (o:=.tup [.ref l,.int 1]) J;have e:=(m.trans o).trans f;have tk:=jJ (K:=K) (e _ _ a0);exact I _ _ e ⟨b,_,rfl,vC_i W,l,tk.k _ _ pN,tk.k _ _ (f _ _ k)⟩
  ·intro D ys u b4 O a7;obtain⟨a9,rfl,p⟩:=jS (D:=vC d c) (F:=λq(x:Pl)=>oA D q x.1 x.2) (by rw[O,X,l1,mV]) λj y b5=>by
    obtain⟨q,x,C,G,F⟩:=a7 j y b5;exact⟨q,x,C,G,oA.upS F gF⟩
   have a6:=c6.trans u;symm;refine oC λd1 N=>?_;simp only[mD];ext;refine⟨⋯,⋯,λa8 c3=>?_⟩;rw[zW];refine kO (λj y _=>y=V.int 0) c3 ⋯ (λ_ _ _ _ r _=>r) ?_ ?_
   ·intro j a zs d8 m a0 Z I;subst N;exact I _ _ (Same.refl _) rfl
   ·intro a ys m S b3 R;have g:=Kt b3 R;subst g;refine⟨a8,_,rfl,.inl ⟨SqL.of S,λl hl=>?_⟩⟩;have o:=Same.new (o:=.tup ((List.replicate d (0:Int)).map V.int)) hl;have k:(upd a l (.tup ((List.replicate d (0:Int)).map V.int))) l=some (.tup ((List.replicate d (0:Int)).map V.int)):=pN;generalize upd a l (.tup ((List.replicate d (0:Int)).map V.int))=L at o k
    try ext
    refine⟨(by show 2<=sizeLine;decide),λb J=>?_⟩;have f:=Same.new (o:=.tup [.ref l,.int 1]) J;have a2:(upd L b (.tup [.ref l,.int 1])) b=some (.tup [.ref l,.int 1]):=pN;generalize upd L b (.tup [.ref l,.int 1])=d9 at f a2;have e:=(m.trans o).trans f;obtain⟨d2,_⟩:=bK v M;refine⟨a1,b,a9,vC d c,d,rfl,e _ _ b4,Paired.mapP p λ_ _ z=>oA.upS z e,mV,⟨l,a2,f _ _ k⟩,v,Cz,by rw[Be];exact fH M (zF _),by rw[Be,Bf v M];omega,λr c5 b0 c9=>d0 r c5 ((a6.trans e).trans b0) c9⟩
def sp_q(K:Frag):Sp:=λvs H Q _=>E2 λ(d k:Nat)=>A4 (vs=[.int d,.int k]) ((d=2\/d=3)) (k<d) (∀r H',Same H H'->Wy K H' r d (vH d k)->Q (.ref r) H')
theorem bN{d k:Nat}:(vH d k).length=d:=by unfold vH;rw[zqe,wY]
theorem Vb{d k j:Nat}{r:LI'}(e:(idM d)[j]?=some r):(vH d k)[j]?=some (r,if j=k then 2 else 1):=by
 have a:j<d:=by rw[←(nU (d:=d)).1];exact(zqa e).1
 unfold vH;rw[zD,yB a];show some ((idM d).getD j [],_)=some _;rw[zqc,e];rfl
theorem paired_of{d c:Type}{F:d->c->Prop}:∀{as:List d}{bs:List c},as.length=bs.length->(∀(i:Nat) a b,as[i]?=some a->bs[i]?=some b->F a b)->Paired F as bs
 |[],[],_,_=>.nil
 |[],_:: _,h,_=>by cases h
 |_:: _,[],h,_=>by cases h
 |_:: _,_:: _,h,k=>.cons (k 0 _ _ rfl rfl) (paired_of (sB h) λi a b e f=>k (i+1) a b e f)
theorem oA.ov{H:Hp}{q a:Addr}{ns:LI'}{u:Int}{zs:List V}{o:HO}(h:oA H q ns u)(e:H a=some (.lst zs)):oA (upd H a o) q ns u:=by
 obtain⟨y,b,c⟩:=h;exact⟨y,by rw[pR (λz=>by rw[z,e]at b;cases b)];exact b,by rw[pR (λz=>by rw[z,e]at c;cases c)];exact c⟩
theorem Ks{d:Nat}(a:d=2\/d=3){k:Nat}(b:k<d):(∀x∈vH d k,x.1.length=d/\0<x.2/\x.2<=2/\gl x.2 x.1=1)/\(vH d k).map (·.1)=idM d:=by
 rcases a with rfl|rfl
 ·rcases(show k=0\/k=1 by omega) with rfl|rfl <;> decide +kernel
 ·rcases(show k=0\/k=1\/k=2 by omega) with rfl|rfl|rfl <;> decide +kernel
theorem ok_q(T:Txt K mg t):FnOk P w K mg base CX0 7 t.a_q t.d_q po' (sp_q K):=by
 have d8:=@ok_j P w K mg base t T;have d4:=@ok_1c P w K mg base t T;apply T.F_q.ok sc_q
 ·obtain⟨d,k,rfl,G,L,e8⟩:=h;refine⟨_,(pL (iB (i:=2) (sc:=pM eN) (N:=N_q) (fr:=[]) (te:=(tTup (pZ (tVar 0) (pZ (tC (.int 1)) tNil)))) rfl rfl (nofun) rfl sc_q.nd rfl rfl (nofun) (oF (pU d8 hr.mo T.F_j (pJ (pq 0) pK))) (λ_ _ _ e4=>(oX (pJ (pv 0) (pJ pP pK)))))
   (pL (iP (oX (pJ (pS (nN ix_B (pq 2) (pq 1) (λ_ _=>rfl))) (pJ pP pK))) (fN (pq 2) (pq 1) dH))
   (pO (oB (pU d4 hr.mo T.F_1c (pJ (pq 2) (pJ (oX (pJ (oZ mK rfl T.z_tuple (nofun) (pJ (oQ (sc:=pM eN) (N:=N_q) (fr:=[]) (te:=(tC (.int 0))) rfl rfl (nofun) rfl (nofun) (lH rfl T.z_range (pJ (pq 0) pK)) (λ_ _ _ e4=>pP)) pK)) (pJ pP pK))) pK))))))),?_⟩
  show tSeq _ _ _ [some (.int d),some (.int k),none] H;right;exfalso;refine⟨d,rfl,G,λe6 f4 a8 _ c1=>?_⟩;obtain⟨us,a3,b2⟩:=c1;have l1:=(nU (d:=d)).1;have b7:us.length=d:=(oU b2).trans l1;refine⟨true,e6,rfl,⟨_,SqB.tup a3⟩,λe Y=>?_⟩;refine oM (λj y H'=>∃q r,y=V.ref q/\(idM d)[j]?=some r/\oA (offH e H') q r 1) Y (SqB.tup a3) (by rw[zqe];omega) (λ_ _ _ _⟨c9,x,R,M,J⟩e5=>⟨c9,x,R,M,oA.upS J (gG e5)⟩) ?_ ?_
  ·intro j y u zs S a2 b0 b5 Z;obtain⟨X,e3,rfl⟩:=nM S;obtain⟨r,I,v⟩:=nI b2 e3;subst eB;show tTup _ [some (.ref X)] u b5;ext;refine⟨(by show 2<=sizeLine;decide),λc a0=>?_⟩;have n:=Same.new (o:=.tup [.ref X,.int 1]) a0;have tk:=jJ (K:=K) (n _ _ b0);exact Z _ _ n ⟨c,_,rfl,I,X,tk.k _ _ pN,tk.k _ _ (n _ _ (a2 _ _ v))⟩
  ·intro u ys a2 N e2 c6;obtain⟨f,rfl,v⟩:=jS (D:=idM d) (F:=λq r=>oA u q r 1) (by rw[e2,zqe,b7,l1]) λj y c8=>by
    obtain⟨q,x,R,M,J⟩:=c6 j y c8;exact⟨q,x,R,M,oA.upS J gF⟩
   have lq:f.length=d:=(oU v).trans l1;have b9:=a8.trans a2;obtain⟨r,I,_⟩:=Ku L;obtain⟨q,b3⟩:=iL lq L;obtain⟨c2,p,f0⟩:=nI v b3;rw[I]at p;cases p;left;refine⟨false,e,_,_,_,rfl,rfl,SqB.lst N,mL (by rw[zD,b3];rfl) rfl,?_⟩;refine mT f0 λy d6=>⟨(by show 2<=sizeLine;decide),λc a0=>?_⟩;have g:=Same.new (o:=.tup [.ref y,.int 2]) a0;have b6:(upd u c (.tup [.ref y,.int 2])) c=some (.tup [.ref y,.int 2]):=pN;have d0:H e=none:=by
    cases h:H e with
    |none=>rfl
    |some o=>rw[a8 _ _ h]at Y;cases Y
   generalize upd u c (.tup [.ref y,.int 2])=m at g b6;simp only[gSub,fQ];ext;refine⟨_,g _ _ N,k,bL (by rw[zqe];omega),?_⟩;have d5:(f.map V.ref).set k (.ref c)=(f.set k c).map V.ref:=by rw[rO]
   rw[d5];have b1:Same H (upd m e (.lst ((f.set k c).map V.ref))):=Same.over d0 (b9.trans g);have a9:(upd m e (.lst ((f.set k c).map V.ref))) e=some (.lst ((f.set k c).map V.ref)):=pN;have a4:Paired (λq(x:Pl)=>oA (upd m e (.lst ((f.set k c).map V.ref))) q x.1 x.2) (f.set k c) (vH d k):=by
    refine paired_of (by rw[uU,lq,bN]) λi a b F U=>?_;have hi:i<d:=by rw[←bN (d:=d) (k:=k)];exact(zqa U).1
    obtain⟨c3,C,_⟩:=Ku hi;rw[Vb C]at U;cases U;refine oA.ov ?_ (g _ _ N)
    by_cases z:i=k
    ·subst z;rw[xS ⋯]at F;cases F;rw[I]at C;cases C;show oA m c r (if i=i then 2 else 1);rw[zG rfl];exact⟨y,b6,g _ _ d6⟩
    ·rw[wH (zS z)]at F;obtain⟨c2,p,e9⟩:=nI v F;rw[C]at p;cases p;show oA m a c3 (if i=k then 2 else 1);rw[zE z];exact e9.upS g
   generalize upd m e (.lst ((f.set k c).map V.ref))=f1 at b1 a9 a4;symm;refine oC λf5 e0=>?_;simp only[mD];ext;refine⟨⋯,⋯,λc7 d1=>?_⟩;rw[zW];refine kO (λj y _=>y=V.int 0) d1 ⋯ (λ_ _ _ _ r _=>r) ?_ ?_
   ·intro j a1 zs f2 n b0 b5 Z;subst e0;exact Z _ _ (Same.refl _) rfl
   ·intro a1 ys n c4 c0 d2;have S:=Kt c0 d2;subst S;refine⟨c7,_,rfl,.inl ⟨SqL.of c4,λl hl=>?_⟩⟩;have a7:=Same.new (o:=.tup ((List.replicate d (0:Int)).map V.int)) hl;have a5:(upd a1 l (.tup ((List.replicate d (0:Int)).map V.int))) l=some (.tup ((List.replicate d (0:Int)).map V.int)):=pN;generalize upd a1 l (.tup ((List.replicate d (0:Int)).map V.int))=a6 at a7 a5
    try ext
    refine⟨(by show 2<=sizeLine;decide),λD d9=>?_⟩;have W:=Same.new (o:=.tup [.ref l,.int 1]) d9;have b4:(upd a6 D (.tup [.ref l,.int 1])) D=some (.tup [.ref l,.int 1]):=pN;generalize upd a6 D (.tup [.ref l,.int 1])=f3 at W b4;have O:=(n.trans a7).trans W;obtain⟨c5,v2⟩:=Ks G L;refine⟨e,D,_,vH d k,d,rfl,O _ _ a9,Paired.mapP a4 λ_ _ z=>oA.upS z O,bN,⟨l,b4,W _ _ a5⟩,G,c5,by rw[v2];exact(λr hr z e7=>xN (fG r hr z e7) ∅),by rw[v2];rcases G with rfl|rfl <;> decide +kernel,λr d7 b8 d3=>e8 r d7 ((b1.trans O).trans b8) d3⟩
theorem bO{K:Frag}{C:Addr}{v:Value}(h:PySem.W.mroIn K C v=some true):(PySem.W.clsIn K C).isSome=true:=by
 unfold PySem.W.mroIn at h;cases e:PySem.W.clsIn K C with
 |none=>rw[e]at h;cases h
 |some c=>rfl
def excE(t:Adr):Nat->Addr
 |0=>t.a_7
 |1=>t.a_4
 |2=>t.a_a
 |_=>t.a_8
theorem ecls(T:Txt K mg t):∀n,gM K (excE t n)
 |0=>⟨T.n_ga,T.n_gt,T.n_ca,T.e_cg,T.e_tk,T.n_ob,T.n_bx,bO T.n_ob⟩
 |1=>⟨T.c_ga,T.c_gt,T.c_ca,T.e_cg,T.e_tk,T.c_ob,T.c_bx,bO T.c_ob⟩
 |2=>⟨T.k_ga,T.k_gt,T.k_ca,T.e_cg,T.e_tk,T.k_ob,T.k_bx,bO T.k_ob⟩
 |_+3=>⟨T.y_ga,T.y_gt,T.y_ca,T.e_cg,T.e_tk,T.y_ob,T.y_bx,bO T.y_ob⟩
theorem Va(T:Txt K mg t):∀n:Nat,PySem.W.exmOne K (.ref (excE t n)) (.ref t.a_1d)=some true
 |0=>T.nm
 |1=>T.cm
 |2=>T.km
 |_+3=>T.ym
theorem Wz(T:Txt K mg t):∀n:Nat,kitOne K (.ref (excE t n)) (.type "ValueError")=some true
 |0=>T.n_VE
 |1=>T.c_VE
 |2=>T.k_VE
 |_+3=>T.y_VE
def ExF(K:Frag)(t:Adr)(n:Nat):Prop:=kitOne K (.ref (excE t n)) (.ref t.a_7)=some (decide (n=0))/\kitOne K (.ref (excE t n)) (.ref t.a_4)=some (decide (n=1))/\kitOne K (.ref (excE t n)) (.ref t.a_a)=some (decide (n=2))/\kitOne K (.ref (excE t n)) (.ref t.a_8)=some (decide (n=3))/\kitOne K (.ref (excE t n)) (.ref t.a_1m)=some (decide (n=4))/\kitOne K (.ref (excE t n)) (.ref t.a_1k)=some (decide (n=5))/\kitOne K (.ref (excE t n)) (.ref t.a_1y)=some (decide (n=6))/\kitOne K (.ref (excE t n)) (.ref t.a_21)=some (decide (n=7))/\kitOne K (.ref (excE t n)) (.ref t.a_1i)=some (decide (n=8))/\kitOne K (.ref (excE t n)) (.ref t.a_25)=some (decide (n=9))/\kitOne K (.ref (excE t n)) (.ref t.a_1u)=some (decide (n=10))/\kitOne K (.ref (excE t n)) (.ref t.a_1z)=some (decide (n=11))/\kitOne K (.ref (excE t n)) (.ref t.a_1q)=some (decide (n=12))/\kitOne K (.ref (excE t n)) (.ref t.a_1j)=some (decide (n=13))/\kitOne K (.ref (excE t n)) (.ref t.a_1p)=some (decide (n=14))
theorem exf(T:Txt K mg t){n:Nat}(h:n<4):ExF K t n:=by
 rcases(show n=0\/n=1\/n=2\/n=3 by omega) with rfl|rfl|rfl|rfl
 ·exact⟨T.n_7,T.n_4,T.n_a,T.n_8,T.n_1m,T.n_1k,T.n_1y,T.n_21,T.n_1i,T.n_25,T.n_1u,T.n_1z,T.n_1q,T.n_1j,T.n_1p⟩
 ·exact⟨T.c_7,T.c_4,T.c_a,T.c_8,T.c_1m,T.c_1k,T.c_1y,T.c_21,T.c_1i,T.c_25,T.c_1u,T.c_1z,T.c_1q,T.c_1j,T.c_1p⟩
 ·exact⟨T.k_7,T.k_4,T.k_a,T.k_8,T.k_1m,T.k_1k,T.k_1y,T.k_21,T.k_1i,T.k_25,T.k_1u,T.k_1z,T.k_1q,T.k_1j,T.k_1p⟩
 ·exact⟨T.y_7,T.y_4,T.y_a,T.y_8,T.y_1m,T.y_1k,T.y_1y,T.y_21,T.y_1i,T.y_25,T.y_1u,T.y_1z,T.y_1q,T.y_1j,T.y_1p⟩
theorem Kr(T:Txt K mg t):XGt K t.a_8 "apart" := ⟨ecls T 3,T.h_1n,T.h_j⟩
section
open PySem.Spec PyProof.Rows
variable {X:Cx} {e:Expr} {f:Str} {pos:Pos} {te:TE} {C:Addr}
def tXg(C:Addr)(f:Str)(te:TE):TE:=λσ H Q=>te σ H λy H1=>∃p dx v,y=.ref p/\H1 p=some (jA p (.ref C) (some dx))/\H1 dx=some (XDct dx f v)/\Q v H1
theorem Kq(g:XGt X.K C f)(z:PE X e te)(D:attributeBase e f X.env (eval e X.env)=eval e X.env):PE X (.Attribute e f pos) (tXg C f te):=by
 intro l s k H Q I h;refine Dz D (thn (z l s k H _ I h) ?_);rintro u d ⟨x,b,a,m,p,r,v,i,ep,F,q⟩;subst i;obtain rfl:u=Value.ref p:=m;obtain⟨⟨o,k1,k2,k3,j⟩,_⟩:=(show oK X.prog X.w b d.heap _ (jA _ _ _) from a.hok _ _ ep);obtain⟨⟨J,u,n,G,c⟩,_⟩:=(show oK X.prog X.w b d.heap _ (XDct _ _ _) from a.hok _ _ F);obtain⟨od,y,hl⟩:=Ce n;exact Ru g.F g.na g.hd a.kIn ⟨k1,k2,k3,by rw[j r rfl];exact y⟩ (by rw[hl,G]) (Cb c) ⟨v,b,a.tok _,c,q⟩
end
theorem Cy{b:Hp}{l:Addr}{xs ys:List V}{Q:VK}(e:b l=some (.lst xs))(d:xs.length+ys.length<=1000)(q:∀a H',Same b H'->H' a=some (.lst (xs++ys))->Q (.ref a) H'):ys.length<=sizeLine/\∀p,b p=none->rCat (.ref l) (.ref p) (upd b p (.lst ys)) Q:=by
 refine⟨zR (show ys.length<=1000 by omega) ∅,λp g=>?_⟩;have c:=Same.new (o:=.lst ys) g;exact⟨l,p,_,_,rfl,rfl,c _ _ e,pN,zR d ∅,λa f=>q a _ (c.trans (Same.new f)) pN⟩
def clB(n:Nat):List Bool:=(List.range 15).map λj=>decide (n=j)
theorem Wx{n:Nat}(h:n<4):(clB n).countP id=1/\(clB n)[n]?=some true/\∀i,i<n->(clB n)[i]?=some false:=by
 rcases(show n=0\/n=1\/n=2\/n=3 by omega) with rfl|rfl|rfl|rfl <;> decide
def AptN(H:Hp)(od:Option Addr):Prop:=∃dx,od=some dx/\Apt H dx 0
def sp_g(t:Adr):Sp:=λvs H Q _=>E3 λ(e:Addr)(n:Nat)(od:Option Addr)=>A5 (vs=[.ref e]) (n<4) (H e=some (jA e (.ref (excE t n)) od)) ((n=3->AptN H od)) (∀H',Same H H'->Q (.int n) H')
theorem ok_g(T:Txt K mg t):fR P w K mg base 1 t.a_g t.d_g ["_law_e"] (sp_g t):=by
 refine T.F_g.okA sc_g (λvs H Q E h=>?_) (λcdv A outer s H vs Q E hr h=>?_)
 ·obtain⟨e,n,od,rfl,_⟩:=h;rfl
 ·obtain⟨e,n,od,rfl,r,F,b9,b5⟩:=h;have b0:=hr.calm.units;obtain⟨b6,S,a7,C,a1,R,b1,b8,a2,X,a4,b4,Z,a6,U⟩:=exf T r;have a:∀{H':Hp}{c:V}{L:Bool}{M:VK},Same H H'->Et c=true->kitOne K (.ref (excE t n)) (clsV c)=some L->M (.bl L) H'->rIsi K [.ref e,c] H' M:=λs' b3 a3 N=>⟨_,_,_,_,rfl,.exc (s' _ _ F) (ecls T n),b3,a3,N⟩;have j:=Same.refl H;refine⟨_,(pL (pW (i:=1) sc_g.nd rfl (Or.inl rfl) (nW (pJ (oP mG rfl T.z_isinstance (nofun) (pJ (pq 0) (pJ (mH (v:=.ref t.a_7) rfl T.m_7 rfl) pK))) (pJ (oP mG rfl T.z_isinstance (nofun) (pJ (pq 0) (pJ (mH (v:=.ref t.a_4) rfl T.m_4 rfl) pK))) (pJ (oP mG rfl T.z_isinstance (nofun) (pJ (pq 0) (pJ (mH (v:=.ref t.a_a) rfl T.m_a rfl) pK))) (pJ (oP mG rfl T.z_isinstance (nofun) (pJ (pq 0) (pJ (mH (v:=.ref t.a_8) rfl T.m_8 rfl) pK))) pK))))))
   (pL (pW (i:=1) sc_g.nd rfl (Or.inl rfl) (pQ jO (pq 1) (nW (pJ (oP mG rfl T.z_isinstance (nofun) (pJ (pq 0) (pJ (mH (v:=.ref t.a_1m) rfl T.m_1m rfl) pK))) (pJ (oP mG rfl T.z_isinstance (nofun) (pJ (pq 0) (pJ (mH (v:=.ref t.a_1k) rfl T.m_1k rfl) pK))) (pJ (oP mG rfl T.z_isinstance (nofun) (pJ (pq 0) (pJ (mH (v:=.ref t.a_1y) rfl T.m_1y rfl) pK))) (pJ (oP mG rfl T.z_isinstance (nofun) (pJ (pq 0) (pJ (mH (v:=.ref t.a_21) rfl T.m_21 rfl) pK))) pK)))))))
   (pL (pW (i:=1) sc_g.nd rfl (Or.inl rfl) (pQ jO (pq 1) (nW (pJ (oP mG rfl T.z_isinstance (nofun) (pJ (pq 0) (pJ (mH (v:=.ref t.a_1i) rfl T.m_1i rfl) pK))) (pJ (oP mG rfl T.z_isinstance (nofun) (pJ (pq 0) (pJ (mH (v:=.ref t.a_25) rfl T.m_25 rfl) pK))) (pJ (oP mG rfl T.z_isinstance (nofun) (pJ (pq 0) (pJ (mH (v:=.ref t.a_1u) rfl T.m_1u rfl) pK))) (pJ (oP mG rfl T.z_isinstance (nofun) (pJ (pq 0) (pJ (mH (v:=.ref t.a_1z) rfl T.m_1z rfl) pK))) pK)))))))
   (pL (pW (i:=1) sc_g.nd rfl (Or.inl rfl) (pQ jO (pq 1) (nW (pJ (oP mG rfl T.z_isinstance (nofun) (pJ (pq 0) (pJ (mH (v:=.ref t.a_1q) rfl T.m_1q rfl) pK))) (pJ (oP mG rfl T.z_isinstance (nofun) (pJ (pq 0) (pJ (mH (v:=.ref t.a_1j) rfl T.m_1j rfl) pK))) (pJ (oP mG rfl T.z_isinstance (nofun) (pJ (pq 0) (pJ (mH (v:=.ref t.a_1p) rfl T.m_1p rfl) pK))) pK))))))
   (pL (oO (PW.pt (fM (oJ mJ (dJ vO PySem.F.slot_list_count PySem.F.type_list_count Rq (pq 1) (pJ iM pK)) pP (oG _)) (fK (Co (jV (oP mG rfl T.z_isinstance (nofun) (pJ (pq 0) (pJ (gJ (v:=.ty "ValueError") rfl T.z_ValueError (nofun) rfl) pK))))))))
   (pO (oB (kJ kK pP)))
   oS)
   (pL (oO (PW.pt (Cp (jV (oP mG rfl T.z_isinstance (nofun) (pJ (pq 0) (pJ (mH (v:=.ref t.a_8) rfl T.m_8 rfl) pK)))) (Cq (PW.pt (fM (Co (jV (oP mG rfl T.z_isinstance (nofun) (pJ (Kq (Kr T) (pv 0) rfl) (pJ (gJ (v:=.ty "list") rfl T.z_list (nofun) rfl) pK))))) (fK (oJ (Nt b0) (Kq (Kr T) (pv 0) rfl) (nW pK) (oG _))))))))
   (pO (oB (kJ kK pP)))
   oS)
   (pO (oB (dJ vO PySem.F.slot_list_index PySem.F.type_list_index Ro (pq 1) (pJ iM pK)))))))))),?_⟩
  show tSeq _ _ _ [some (.ref e),none] H;right;refine a j rfl b6 (a j rfl S (a j rfl a7 (a j rfl C ⟨by show 4<=sizeLine;decide,λl1 a5=>?_⟩)));have g:=Same.new (o:=.lst [.bl (decide (n=0)),.bl (decide (n=1)),.bl (decide (n=2)),.bl (decide (n=3))]) a5;have o:(upd H l1 (.lst [.bl (decide (n=0)),.bl (decide (n=1)),.bl (decide (n=2)),.bl (decide (n=3))])) l1=some _:=pN;generalize upd H l1 (.lst [.bl (decide (n=0)),.bl (decide (n=1)),.bl (decide (n=2)),.bl (decide (n=3))])=c2 at g o;left;refine a g rfl a1 (a g rfl R (a g rfl b1 (a g rfl b8 (Cy o (by show 4+4<=1000;decide) λl2 c0 f Y=>?_))));replace f:=g.trans f;left;refine a f rfl a2 (a f rfl X (a f rfl a4 (a f rfl b4 (Cy Y (by show 8+4<=1000;decide) λc3 c1 i a9=>?_))));replace i:=f.trans i;left;refine a i rfl Z (a i rfl a6 (a i rfl U (Cy a9 (by show 12+3<=1000;decide) λk m b d=>?_)));replace b:=i.trans b;replace d:m k=some (.lst ((clB n).map V.bl)):=d;obtain⟨J,v,D⟩:=Wx r;generalize clB n=bs at d J v D;left;refine⟨.inl ⟨rfl,_,SqL.of d⟩,k,bs,rfl,rfl,d,?_⟩;rw[J];refine⟨_,_,rfl,rfl,_,rfl,iteF (a b rfl (Wz T n) ⟨_,rfl,iteF ?_⟩)⟩;subst e1;refine st λb2 a8=>?_;have x:∀H',Same m H'->b2 [some (.ref e),some (.ref k)] H':=by
   intro H' s';subst a8;ext;exact⟨.inl ⟨rfl,_,SqL.of (s' _ _ d)⟩,k,bs,n,rfl,rfl,s' _ _ d,v,D,⋯,b5 H' (b.trans s')⟩
  ext;refine a b rfl C ⟨_,rfl,?_⟩
  by_cases z:n=3
  ·subst z;obtain⟨q,rfl,l,ys,a0,W,O⟩:=b9 rfl;obtain rfl:ys=[]:=List.length_eq_zero_iff.mp O;rw[zJ rfl];have G:=b _ _ F;have u:=b _ _ a0;have y:=b _ _ W;refine iteT ⟨_,rfl,e,q,.ref l,rfl,G,u,?_⟩;refine⟨_,_,_,true,rfl,.ty (.lst y),rfl,T.k_ll,true,rfl,iteF ?_⟩;refine⟨_,rfl,e,q,.ref l,rfl,G,u,yD _,λp b7=>?_⟩;have I:=Same.new (o:=.lst []) b7;exact⟨.list [],.list [],.lst (SqL.of (I _ _ y)) .nil,.lst (SqL.of pN) .nil,rfl,rfl,rfl,_,rfl,iteF (x _ I)⟩
  ·rw[zK z];exact iteF (x m (Same.refl _))
def RefN(K:Frag)(t:Adr)(H:Hp)(g wy:Addr)(most:Int)(n:Nat):Prop:=∃(k d:Nat)(xs:List Pl)(ms:List Dd)(srt:Tb),GrpF K t H g (fmD k) ms srt/\Wy K H wy d xs /\
 ((n=0/\¬ (1<=most/\most<=200))\/((1<=most/\most<=200)/\((n=1/\xs.length≠fmD k)\/((xs.length=fmD k/\∀x∈xs,x.1.length=fmD k/\0<x.2/\x.2<=2/\gl x.2 x.1=1)/\((n=2/\¬ MvOk (fmD k) srt xs)\/(n=3/\∃(L:List Stp)(S:LI')(su:Int),d=fmD k/\kH k L S su/\(∀m∈ms,InK (frk k L S su) (pV m))/\srt.Perm (tab (fmD k) (ms.map pV) 12)/\xs=vC (fmD k) 3/\most<9*srt.length))))))
theorem Ww{H:Hp}{g b:Addr}{c:Int}{n:Nat}(r:RefN K t H g b c n){Q:VK}{E:XK}(a:n<4->∀od H',Same H H'->(n=3->AptN H' od)->E (.ref (excE t n)) od H'):sp_5 K t [.ref g,.ref b,.int c] H Q E:=by
 obtain⟨k,d,xs,ms,srt,u,x,h⟩:=r;refine⟨g,b,k,d,c,xs,ms,srt,rfl,u,x,?_⟩;rcases h with⟨rfl,h⟩|⟨y,h⟩
 ·exact .inl ⟨h,λH' s'=>a ∅ none H' s' λz=>by cases z⟩
 refine .inr ⟨y,?_⟩;rcases h with⟨rfl,h⟩|⟨o,h⟩
 ·exact .inl ⟨h,λH' s'=>a ∅ none H' s' λz=>by cases z⟩
 refine .inr ⟨o,?_⟩;rcases h with⟨rfl,h⟩|⟨rfl,L,p,su,f,q,m,i,l,j⟩
 ·exact .inl ⟨h,λH' s'=>a ∅ none H' s' λz=>by cases z⟩
 ·exact .inr ⟨L,p,su,f,q,m,i,.inl ⟨l,j,λe H' s' v=>a ∅ (some e) H' s' λ_=>⟨e,rfl,v⟩⟩⟩
def sp_f(K:Frag)(t:Adr):Sp:=λvs H Q _=>E4 λ(g wy:Addr)(most:Int)(n:Nat)=>A3 (vs=[.ref g,.ref wy,.int most]) (RefN K t H g wy most n) (∀H',Same H H'->Q (.int n) H')
theorem ok_f(T:Txt K mg t):FnOk P w K mg base CX0 17 t.a_f t.d_f pc' (sp_f K t):=by
 have k:=@ok_5 P w K mg base t T;have D:fR P w K mg base 1 t.a_g t.d_g ["_law_e"] (sp_g t):=ok_g T;apply T.F_f.ok sc_f
 ·obtain⟨g,u,o,n,rfl,r,C⟩:=h;refine⟨_,(pL (pW (i:=3) sc_f.nd rfl (Or.inl rfl) (kJ kK pP))
   (pL (Ev (i:=4) rfl rfl rfl sc_f.nd rfl rfl rfl T.m_1d (λ_ _ _ v =>
   (pO (mC (lW k hr.mo rfl T.m_5 T.F_5.kp T.b_5 .nil v (pJ (pq 0) (pJ (pq 1) (pJ (pq 2) pK))))))) (λ_ =>
   (pO (pW (i:=3) sc_f.nd rfl (Or.inl rfl) (Es D ((hr.a.mark _).mono ⋯) rfl T.F_g.m T.F_g.kp T.F_g.b .nil (pJ (pq 4) pK))))))
   (pO (oB (pq 3))))),?_⟩
  show tSeq _ _ _ [some (.ref g),some (.ref u),some (.int o),none,none] H;right;subst e1;refine st λN1 e1=>?_;simp only[tTry];ext;refine Ww r λf od G x q=>⟨Va T n,λe p=>?_⟩;have a:=Same.new (o:=jA e (.ref (excE t n)) od) p;refine⟨e,n,od,rfl,f,pN,λz=>?_,λi F=>?_⟩
  ·obtain⟨d,y,l,ys,m,c,b⟩:=q z;exact⟨d,y,l,ys,a _ _ m,a _ _ c,b⟩
  have j:=(x.trans a).trans F;symm;exact C i j
def sp_v(K:Frag):Sp:=λvs H Q _=>E12 λ(n:Nat)(p s wy ot:Addr)(x:Dd)(d d':Nat)(c c':Int)(ns:LI')(u:Int)=>A9 (vs=[.int n,.ref p,.ref s,.ref wy,.ref ot]) (DdS K H p x) (x.1.length=d) (oA H s ns u) (ns.length=d) (Wy K H wy d' (vC d' c)) (Wy K H ot d (vC d c')) (d≠d') (∀H',Same H H'->Q (.int 1) H')
theorem ok_v(T:Txt K mg t):FnOk P w K mg base CX0 10 t.a_v t.d_v pa' (sp_v K):=by
 have G:=@ok_k P w K mg base t T;have O:=@ok_14 P w K mg base t T;have D:=@ok_u P w K mg base t T;have m:=@ok_9 P w K mg base t T;have M:fR P w K mg base 1 t.a_g t.d_g ["_law_e"] (sp_g t):=ok_g T;apply T.F_v.ok sc_v
 ·obtain⟨n,p,i,a,j,x,d,d',c,W,ns,u,rfl,N,X,k,U,f,y,r,L⟩:=h;refine⟨_,(pL (pW (i:=5) sc_v.nd rfl (Or.inl rfl) (kJ kK pP))
   (pL (Ev (i:=6) rfl rfl rfl sc_v.nd rfl rfl rfl T.m_1d (λ_ _ _ g =>
   (pO (oO (oJ lK (pq 0) pP (oG _))
   (pO (mC (lW G hr.mo rfl T.F_k.m T.F_k.kp T.F_k.b .nil g (pJ (pq 1) (pJ (pq 3) pK)))))
   (pO (oO (oJ lK (pq 0) pP (oG _))
   (pO (mC (lW O hr.mo rfl T.F_14.m T.F_14.kp T.F_14.b .nil g (pJ (pq 2) (pJ (pq 3) pK)))))
   (pO (oO (oJ lK (pq 0) pP (oG _))
   (pO (mC (lW D hr.mo rfl T.F_u.m T.F_u.kp T.F_u.b .nil g (pJ (pq 2) (pJ (pq 3) pK)))))
   (pO (oO (oJ lK (pq 0) pP (oG _))
   (pO (mC (lW m hr.mo rfl T.F_9.m T.F_9.kp T.F_9.b .nil g (pJ (pq 4) (pJ (pq 3) pK)))))
   (pO (mC (lW m hr.mo rfl T.F_9.m T.F_9.kp T.F_9.b .nil g (pJ (pq 3) (pJ (pq 4) pK)))))))))))))) (λ_ =>
   (pO (pW (i:=5) sc_v.nd rfl (Or.inl rfl) (Es M ((hr.a.mark _).mono ⋯) rfl T.F_g.m T.F_g.kp T.F_g.b .nil (pJ (pq 6) pK))))))
   (pO (oB (pq 5))))),?_⟩
  show tSeq _ _ _ [some (.int n),some (.ref p),some (.ref i),some (.ref a),some (.ref j),none,none] H;right;subst e1;refine st λN1 e1=>?_;simp only[tTry];ext;have b:∀e,H e=none->sp_g t [V.ref e] (upd H e (jA e (.ref t.a_4) none)) (λx J=>N1 [some (.int n),some (.ref p),some (.ref i),some (.ref a),some (.ref j),some x,none] J) E0:=λe I=>by
   have R:=Same.new (o:=jA e (.ref t.a_4) none) I;refine⟨e,1,none,rfl,∅,pN,(λz=>by cases z),λF S=>?_⟩;symm;exact L F (R.trans S)
  have l:ns.length≠d':=⋯
  by_cases q:(n:Int)=0
  ·rw[zJ q];exact iteT ⟨p,a,d',c,x,rfl,N,f,.inl ⟨⋯,T.cm,b⟩⟩
  rw[zK q];refine iteF ?_
  by_cases o:(n:Int)=1
  ·rw[zJ o];exact iteT ⟨i,a,d',vC d' c,ns,u,rfl,f,k,by rw[mV];exact l,T.cm,b⟩
  rw[zK o];refine iteF ?_
  by_cases v:(n:Int)=2
  ·rw[zJ v];exact iteT ⟨i,a,d',c,ns,u,rfl,f,k,.inl ⟨l,T.cm,b⟩⟩
  rw[zK v];refine iteF ?_
  by_cases C:(n:Int)=3
  ·rw[zJ C];exact iteT ⟨a,j,d,d',_,_,rfl,y,f,by rw[mV,mV];exact r,T.cm,b⟩
  rw[zK C];exact iteF ⟨j,a,d',d,_,_,rfl,f,y,by rw[mV,mV];exact zS r,T.cm,b⟩
def DlAt(K:Frag)(H:Hp)(r:Addr)(L:List Dd):Prop:=∃ps:LA,H r=some (.lst (ps.map V.ref))/\Paired (λp x=>Dt K H (.ref p) (dat x)) ps L
theorem bQ{H:Hp}{a:Addr}{L:List Dd}(h:DlAt K H a L):Dt K H (.ref a) (.list (L.map dat)):=by
 obtain⟨e,b,d⟩:=h;refine .lst (SqL.of b) ?_;clear b
 induction d with
 |nil=>exact .nil
 |cons h _ c=>exact .cons h c
theorem bR(ms:List Dd):iT 5 (.list (ms.map dat))=true:=by
 show(ms.map dat).all (iT 4)=true;rw[uJ];intro d a;obtain⟨x,_,rfl⟩:=pI.mp a;exact iC 4 _ (kQ x)
theorem Wv{K:Frag}{H:Hp}{ps:LA}{L:List Dd}(h:Paired (λp x=>Dt K H (.ref p) (dat x)) ps L):∃d:List (V×PyData),d.map (·.1)=ps.map V.ref/\d.map (·.2)=L.map dat/\∀q∈d,Dt K H q.1 q.2:=by
 induction h with
 |nil=>exact⟨[],rfl,rfl,λq f=>by cases f⟩
 |@cons p x ps L i _ g =>
  obtain⟨d,a,b,c⟩:=g;refine⟨(.ref p,dat x):: d,by rw[zH,zH,a],by rw[zH,zH,b],λq f=>?_⟩;rcases yQ.mp f with e|e
  ·rw[e];exact i
  ·exact c q e
theorem DlAt.up{H H':Hp}{l:Addr}{L:List Dd}(h:DlAt K H l L)(s:Same H H'):DlAt K H' l L:=let ⟨ps,a,b⟩:=h;⟨ps,s _ _ a,Paired.mapP b λ_ x z=>lZ (nX s) 4 (kQ x) z⟩
theorem Cv{H:Hp}{l:Addr}{a:LA}{srt:Tb}(b:H l=some (.lst (a.map V.ref)))(d:Paired (λp(x:Dd×List Nat)=>Dt K H (.ref p) (dat x.1)) a srt):DlAt K H l (srt.map (·.1)):=by
 refine⟨a,b,?_⟩;clear b
 induction d with
 |nil=>exact .nil
 |cons h _ c=>exact .cons h c
theorem Wu{H:Hp}{l:Addr}{L:List Dd}{Q:VK}{n:Nat}{I:Int}{y:Dd}(h:DlAt K H l L)(e:L[n]?=some y)(d:I=n)(q:∀p,DdS K H p y->Q (.ref p) H):rIxB K (.ref l) (.int I) H Q:=by
 obtain⟨i,c,b⟩:=h;obtain⟨p,ep⟩:=iL (oU b) (zqa e).1;obtain⟨g,a,f⟩:=nI b ep;rw[e]at a;cases a;exact⟨false,l,_,_,.ref p,rfl,rfl,SqB.lst c,mL (by rw[zD,ep];rfl) d,q p (bI f)⟩
theorem Kp{H:Hp}{l:Addr}{L:List Dd}{Q:VK}(h:DlAt K H l L)(q:Q (.int L.length) H):iW K [.ref l] H Q:=by
 obtain⟨c,a,b⟩:=h;refine⟨false,l,_,rfl,SqB.lst a,?_⟩;rw[zqe,oU b];exact q
theorem Ws{H:Hp}{l p:Addr}{L:List Dd}{x:Dd}{Q:VK}(h:DlAt K H l L)(o:DdS K H p x)(q:∀b:Bool,(b=true↔x∉L)->Q (.bl b) H):rInD K true (.ref p) (.ref l) H Q:=by
 obtain⟨ps,j,k⟩:=h;obtain⟨f,a,b,c⟩:=Wv k;have r:∀y∈f,tT 4 y.2=true/\Dt K H y.1 y.2:=λy d=>by
  refine⟨?_,c y d⟩;have:y.2∈L.map dat:=by rw[←b];exact pI.mpr ⟨y,d,rfl⟩
  obtain⟨z,_,e⟩:=pI.mp this;rw[←e];exact kQ z
 refine⟨l,f,dat x,rfl,.inl (by rw[a];exact SqL.of j),r,kQ x,DdS.dt o,?_⟩;refine q _ ?_;have g:(f.any λy=>decide (y.2=dat x))=true↔x∈L:=by
  rw[rW];constructor
  ·rintro⟨y,d,e⟩;have:y.2∈L.map dat:=by rw[←b];exact pI.mpr ⟨y,d,rfl⟩
   obtain⟨z,n,i⟩:=pI.mp this;rw[←gE.mp (i.trans (xF e))];exact n
  ·intro m;have:dat x∈f.map (·.2):=by rw[b];exact pI.mpr ⟨x,m,rfl⟩
   obtain⟨y,d,e⟩:=pI.mp this;exact⟨y,d,zJ e⟩
 cases z:(f.any λy=>decide (y.2=dat x)) with
 |true=>exact⟨(λh=>by cases h),λh=>absurd (g.mp z) h⟩
 |false=>exact⟨(λ_ m=>by rw[g.mpr m]at z;cases z),λ_=>rfl⟩
theorem Wr{d:Nat}{L M:List Dd}(c:∀x∈L,MbK d x)(k:L.Nodup)(i:M.Nodup)(g:L.Pairwise λx y=>lx (fl (dat y)) (fl (dat x))=false)(j:M.Pairwise λx y=>lx (fl (dat y)) (fl (dat x))=false)(h:∀x,x∈M↔x∈L):M=L:=by
 have f:∀x∈L,∀y∈L,sm (dat x) (dat y)=true:=λx b y a=>Hi (c x b).fine (c y a).fine;exact Jn (f:=λx=>fl (dat x)) (Jm (f:=dat) i (λx _ y _ e=>gE.mp e) (λx b y a=>f x ((h x).mp b) y ((h y).mp a)) j) (Jm (f:=dat) k (λx _ y _ e=>gE.mp e) f g) h
theorem Wq{d k:Nat}(a:d=2\/d=3)(b:k<d):pV (idM d,(idM d).getD k [],2)=(idM d,(idM d).getD k [],2):=by
 rcases a with rfl|rfl
 ·rcases(show k=0\/k=1 by omega) with rfl|rfl <;> decide +kernel
 ·rcases(show k=0\/k=1\/k=2 by omega) with rfl|rfl|rfl <;> decide +kernel
theorem Wp{d k:Nat}(a:k<d):((idM d).getD k [],(2:Int))∈vH d k:=by
 unfold vH;exact pI.mpr ⟨k,pH.mpr a,by rw[zG rfl]⟩
theorem Wo{d k:Nat}(a:k<d):(idM d).getD k []=(List.range d).map λj=>if k=j then(1:Int) else 0:=by
 unfold idM;rw[zqc,zD,yB a];rfl
theorem ok_24(T:Txt K mg t):FnOk P w K mg base CX0 19 t.a_24 t.d_24 pz' (Ep K):=by
 have n3:=@ok_b P w K mg base t T;have q1:=@ok_0 P w K mg base t T;have e5:=@ok_3 P w K mg base t T;have d2:=@ok_x P w K mg base t T;have n1:=@ok_j P w K mg base t T;have b5:=@ok_z P w K mg base t T;have g6:=@ok_q P w K mg base t T;have b3:=@ok_f P w K mg base t T;have q3:=@ok_o P w K mg base t T;have j6:=@ok_v P w K mg base t T;have f8:=@ok_5 P w K mg base t T;apply T.F_24.ok sc_24
 ·have c5:=hr.units;obtain⟨a,ns,rfl,d3,t7,d1,q2⟩:=h;refine⟨_,(pL (iP (pU n3 hr.mo T.F_b (pJ (pq 0) pK)) (Fw rfl (nQ (nP (i:=1) sc_24.nd rfl (Or.inl rfl)) (nQ (nP (i:=2) sc_24.nd rfl (Or.inl rfl)) kI))))
   (pL (pW (i:=3) sc_24.nd rfl (Or.inl rfl) (aD (C:=t.a_c) (T.mk_c) q1 hr.mo rfl T.m_c T.bd_Group___init__ (dvs:=[.int 200]) (.cons ⟨_,rfl⟩ .nil) mZ (pJ (pq 1) (pJ (pq 2) pK))))
   (pL (pW (i:=4) sc_24.nd rfl (Or.inl rfl) (jW (C:=t.a_c) (pq 3) T.cl_c T.me_3 e5 hr.mo T.b_3 .nil mZ))
   (pL (pW (i:=5) sc_24.nd rfl (Or.inl rfl) (pU d2 hr.mo T.F_x (pJ (pq 0) (pJ pP pK))))
   (pL (pW (i:=6) sc_24.nd rfl (Or.inr rfl) (pQ nZ (pq 5) (pq 1)))
   (pL (pW (i:=7) sc_24.nd rfl (Or.inl rfl) (oX (pJ (pU n1 hr.mo T.F_j (pJ (pq 1) pK)) (pJ (oZ mK rfl T.z_tuple (nofun) (pJ (oQ (sc:=pM s_24) (N:=N_24) (fr:=[("_law_k",6)]) (te:=(tCB (λxs H Q=>(∃i,xs=[.int i]/\Q (.int i) H)\/∃k,xs=[.bl k]/\Q (.int (if k then 1 else 0)) H) (pZ (tOp (rI0 λi j=>.bl (decide (i=j))) (tVar 0) (tVar 1)) tNil))) rfl rfl (nofun) rfl (nofun) (lH rfl T.z_range (pJ (pq 1) pK)) (λ_ _ _ s9=>(oZ Cf rfl T.z_int (nofun) (pJ (iQ lK (pv 0) (pv 1) (oG _)) pK)))) pK)) (pJ pP pK)))))
   (pL (pW (i:=8) sc_24.nd rfl (Or.inl rfl) (pU b5 hr.mo T.F_z (pJ (pq 1) (pJ pP pK))))
   (pL (pW (i:=9) sc_24.nd rfl (Or.inl rfl) (pU b5 hr.mo T.F_z (pJ (pQ jM pP (pq 1)) (pJ pP pK))))
   (pL (lI yR rfl (oF (nW (pJ (pq 8) (pJ (pq 9) (pJ (pU g6 hr.mo T.F_q (pJ (pq 1) (pJ (pq 6) pK))) (pJ (pU b5 hr.mo T.F_z (pJ (pq 1) (pJ pP pK))) pK)))))) (nP (i:=10) sc_24.nd rfl (Or.inl rfl))
   (pO (oO (oJ mJ (pU b3 hr.mo T.F_f (pJ (pq 3) (pJ (pq 10) (pJ (pU q3 hr.mo T.F_o (pJ (pU d2 hr.mo T.F_x (pJ (pq 0) (pJ pP pK))) pK)) pK)))) pP (oG _))
   (pO (oB iM))
   oS)))
   (pL (oO (oJ mJ (pU b3 hr.mo T.F_f (pJ (pq 3) (pJ (pq 9) (pJ pP pK)))) pP (oG _))
   (pO (oB iM))
   oS)
   (pL (lI yR rfl (lH rfl T.z_range (pJ pP pK)) (nP (i:=11) sc_24.nd rfl (Or.inl rfl))
   (pO (oO (oJ mJ (pU j6 hr.mo T.F_v (pJ (pq 11) (pJ (pS (pq 4)) (pJ (pS (pq 8)) (pJ (pq 9) (pJ (pq 8) pK)))))) pP (oG _))
   (pO (oB iM))
   oS)))
   (pL (oO (PW.pt (Cp (oJ (Qi c5) (pq 7) (pq 4) rfl) (Cq (oJ mJ (pU b3 hr.mo T.F_f (pJ (pq 3) (pJ (pU g6 hr.mo T.F_q (pJ (pq 1) (pJ (pq 6) pK))) (pJ pP pK)))) pP (oG _)))))
   (pO (oB iM))
   oS)
   (pL (pW (i:=12) sc_24.nd rfl (Or.inl rfl) (pQ mW pP (pQ nZ (pU d2 hr.mo T.F_x (pJ (pq 0) (pJ pP pK))) (pQ jM (pQ oW pP (nH T.z_len (pq 4))) pP))))
   (pL (oO (oJ mJ (pU b3 hr.mo T.F_f (pJ (pq 3) (pJ (pU b5 hr.mo T.F_z (pJ (pq 1) (pJ pP pK))) (pJ (oP (Lp rfl) rfl T.z_min (nofun) (pJ (pq 12) (pJ pP pK))) pK)))) pP (oG _))
   (pO (oB iM))
   oS)
   (pL (pW (i:=13) sc_24.nd rfl (Or.inl rfl) (mX f8 hr.mo rfl T.m_5 T.F_5.kp T.b_5 .nil lJ (pJ (pq 3) (pJ (pq 8) (pJ (nH T.z_len (pq 4)) pK)))))
   (pO (oB (Kd (iQ (Eu c5) (jW (C:=t.a_c) (pq 13) T.cl_c T.me_3 e5 hr.mo T.b_3 .nil mZ) (pq 4) (oG _)) (Ke (iQ (Eu c5) (jW (C:=t.a_c) (mX f8 hr.mo rfl T.m_5 T.F_5.kp T.bd_changed (dvs:=[.int 200]) (.cons ⟨_,rfl⟩ .nil) lJ (pJ (pq 3) (pJ (pq 8) pK))) T.cl_c T.me_3 e5 hr.mo T.b_3 .nil mZ) (pq 4) (oG _))))))))))))))))))))),?_⟩
  show tSeq _ _ _ [some (.ref a),none,none,none,none,none,none,none,none,none,none,none,none,none] H;right;refine⟨a,ns,rfl,d3,d1,λr l k L C su e0 n6 j0 ok hl=>⟨true,r,_,rfl,SqB.tup j0,rfl,?_⟩⟩;simp only[nB,gNil,pY];refine⟨_,_,rfl,_,_,rfl,rfl,?_⟩;have M:=lG k;have j1:=ok.ok;have b6:∀m∈mkS k L C su,mO (fmD k) m/\InK (frk k L C su) (pV m):=λm D=>by
   obtain⟨l5,h4,rfl⟩:=pI.mp D;exact⟨(mkK ok h4).fine,Uc ok.hk ok.fit ok.ls ok.s0 _ (pI.mpr ⟨l5,h4,rfl⟩)⟩
  have o2:(mkS k L C su).length<=2:=by unfold mkS;rw[zqe];exact(kB ok.hk).l2
  obtain⟨ps,p6,n4⟩:=hl;left;simp only[dF];ext;intro g h5 h3 q0 o7;have f2:Same e0 (upd (upd e0 h5 (.own g)) g (.ins t.a_c h5 [])):=(Same.new q0).trans (Same.new (by rw[pR (zS o7)];exact h3));refine Ba ok b6 (λm D=>D) ⋯ pN (f2.seq p6) (Paired.mapP n4 λ_ _ z=>DdS.up z f2) λsrt m3 j7 b9 d0=>⟨rfl,?_⟩;have W:Same e0 m3:=λb o e=>j7 b o (λz=>by rw[z,h3]at e;cases e) (f2 _ _ e);have i0:=n6.trans W;have f3:∀s∈(mkS k L C su).map pV,InK (frk k L C su) s:=λs h=>by
   obtain⟨m,D,rfl⟩:=pI.mp h;exact(b6 m D).2
  have tb:=fF j1 f3 12;have S:=d0.pm;have q6:srt.length<=12:=by rw[S.length_eq];exact tb.1
  have f4:∀x∈srt.map (·.1),MbK (fmD k) x:=λx i1=>by
   obtain⟨y,m7,rfl⟩:=pI.mp i1;exact bH ok (tb.2 y (S.mem_iff.mp m7))
  have n2:oH (fmD k)∈srt.map (·.1):=(S.map (·.1)).mem_iff.mpr (pI.mpr ⟨_,fE,rfl⟩);have j9:0<srt.length:=by rw[←zqe (f:=(·.1))];exact List.length_pos_of_mem n2
  have k0:(srt.map (·.1)).Nodup:=(S.map _).nodup_iff.mpr fD;have od:(srt.map (·.1)).Pairwise λx y=>lx (fl (dat y)) (fl (dat x))=false:=pC.mpr d0.od;have d4:∀m∈mkS k L C su,InK (frk k L C su) (pV m):=λm D=>(b6 m D).2;generalize mkS k L C su=ms at b9 S d4;clear d0 b6 o2 f3 tb;left;simp only[kD];ext;obtain⟨m9,t8,t4,t1,s7,j2,_⟩:=id b9;refine⟨m9,_,j2,rfl,g,fmD k,ms,srt,rfl,b9,λa1 t5 k7 h7 _ i6 m4=>?_⟩;have l0:=Cv i6 m4;have g4:=i0.trans h7;have i4:=b9.up h7;left;refine⟨a,ns,6,rfl,g4.seq d3,∅,?_⟩;show N1 [some (.ref a),some (.int (fmD k)),some (.ref l),some (.ref g),some (.ref a1),some (.int (ns.getD (6:Int).toNat 0)),none,none,none,none,none,none,none,none] k7;generalize ns.getD (6:Int).toNat 0=O;left;refine⟨⋯,?_⟩;have e9:=fms O (fmD k) ⋯;generalize O.fmod (fmD k:Nat)=s4 at e9;obtain⟨c,rfl⟩:=vN e9.1;have a0:c<fmD k:=⋯
  clear e9;left;refine⟨fmD k,rfl,M,λc0 q9 o6 k4 _=>?_⟩
  try ext
  refine oC λB eB=>?_;simp only[mD];ext;refine⟨⋯,⋯,λi2 o3=>?_⟩;rw[zW];refine kO (λj y _=>j<fmD k/\y=.int (if c=j then 1 else 0)) o3 ⋯ (λ_ _ _ _ r _=>r) ?_ ?_
  ·intro j c1 zs c7 f0 s5 b1 p4;subst eB;show tCB _ _ [some (.int (0+(j:Int))),some (.int c)] c1 b1;ext;refine .inr (p4 _ _ (Same.refl _) ⟨c7,?_⟩);have g1:(0+(j:Int)=(c:Int))↔c=j:=⋯
   by_cases q:c=j
   ·rw[zG q,zG (zJ (g1.mpr q))]
   ·rw[zE q,zE λh=>q (g1.mp (xF h))]
  intro c1 ys f0 j8 n7 l6;have d7:ys=((idM (fmD k)).getD c []).map V.int:=by
   rw[Wo a0];refine nE (by rw[n7,zqe,wY]) λj y e=>?_;obtain⟨c7,rfl⟩:=l6 j y e;exact⟨_,by rw[zD,yB c7];rfl,rfl⟩
  subst d7;refine⟨i2,_,rfl,.inl ⟨SqL.of j8,λR p5=>?_⟩⟩;have d5:=Same.new (o:=.tup (((idM (fmD k)).getD c []).map V.int)) p5;have g2:(upd c1 R (.tup (((idM (fmD k)).getD c []).map V.int))) R=some (.tup (((idM (fmD k)).getD c []).map V.int)):=pN;generalize upd c1 R (.tup (((idM (fmD k)).getD c []).map V.int))=g3 at d5 g2;refine⟨by show 3<=sizeLine;decide,λF j5=>?_⟩;have b8:=Same.new (o:=.tup [.ref c0,.ref R,.int 2]) j5;have b7:DdS K (upd g3 F (.tup [.ref c0,.ref R,.int 2])) F (idM (fmD k),(idM (fmD k)).getD c [],2):=⟨c0,R,SqT.of pN,((k4.up f0).up d5).up b8,SqT.of (b8 _ _ g2)⟩;generalize upd g3 F (.tup [.ref c0,.ref R,.int 2])=r9 at b8 b7;have j4:=((o6.trans f0).trans d5).trans b8;left;refine⟨fmD k,1,rfl,M,.inl rfl,λf s1 h9 Z=>?_⟩;have m6:(5:Int)-(fmD k:Nat)=((5-fmD k:Nat):Int):=⋯
  left;rw[m6];refine⟨5-fmD k,2,rfl,⋯,.inr (.inl rfl),λn r5 k3 a8=>?_⟩;subst e1;refine st λN1 e1=>lN λB eB=>?_;simp only[iSeq];ext;refine⟨fmD k,c,rfl,M,a0,λa6 t6 m1 c8=>?_⟩;refine⟨fmD k,3,rfl,M,.inr (.inr rfl),λN h1 h8 f1=>⟨by show 4<=sizeLine;decide,λe8 l3=>?_⟩⟩;have W:=Same.new (o:=.lst [.ref f,.ref n,.ref a6,.ref N]) l3;have d9:(upd h1 e8 (.lst [.ref f,.ref n,.ref a6,.ref N])) e8=some (.lst [.ref f,.ref n,.ref a6,.ref N]):=pN;generalize upd h1 e8 (.lst [.ref f,.ref n,.ref a6,.ref N])=a4 at W d9;have i7:=W;have d6:=h8.trans W;have e7:=m1.trans d6;have d8:=k3.trans e7;have e2:=h9.trans d8;have c2:=j4.trans e2;have a7:=i4.up c2;have X:=l0.up c2;have f5:SqL K a4 a (ns.map V.int):=(g4.trans c2).seq d3;replace b7:=DdS.up b7 e2;replace Z:=Z.up d8;replace a8:=a8.up e7;replace c8:=c8.up d6;replace f1:=f1.up W;clear i7 d6 e7 d8 e2 c2;have g5:∀(a5:Int){a9:Hp}{b1:VK},Same a4 a9->1<=a5->a5<=200->srt.length<=a5->(∀g' c9 b2 H',Same a9 H'->GrpF K t H' g' (fmD k) c9 b2->b2.map (·.1)=srt.map (·.1)->b1 (.ref g') H')->sp_5 K t [.ref g,.ref f,.int a5] a9 b1 E0:=λa5 a9 b1 J e4 e3 c4 q=>⟨g,f,k,fmD k,a5,vC (fmD k) 1,ms,srt,rfl,a7.up J,Z.up J,.inr ⟨⟨e4,e3⟩,.inr ⟨⟨mV,Cz⟩,.inr ⟨L,C,su,rfl,ok,d4,S,.inr ⟨rfl,c4,λg' c9 b2 H' s' p8 hi t9 n8 p3=>q g' c9 b2 H' s' p8 (Wr f4 k0 p3 od (pC.mpr n8) hi)⟩⟩⟩⟩⟩;refine⟨false,⟨_,SqB.lst d9⟩,?_⟩;have all:∀(i:Nat) y,[V.ref f,V.ref n,V.ref a6,V.ref N][i]?=some y->∃w d xs,y=V.ref w/\Wy K a4 w d xs:=λi y e=>by
   rcases i with _|_|_|_|i
   ·cases e;exact⟨f,_,_,rfl,Z⟩
   ·cases e;exact⟨n,_,_,rfl,a8⟩
   ·cases e;exact⟨a6,_,_,rfl,c8⟩
   ·cases e;exact⟨N,_,_,rfl,f1⟩
   ·simp at e
  refine iA (b:=false) (g:=pY 10) (tb:=B) (λi G H'=>∃Y:Option V,G=[some (.ref a),some (.int (fmD k)),some (.ref l),some (.ref g),some (.ref a1),some (.int O),some (.int c),some (.ref F),some (.ref f),some (.ref n),Y,none,none,none]/\Same a4 H') ⟨none,rfl,Same.refl _⟩ (λi G H' _⟨_,_,s⟩=>SqB.lst (s _ _ d9)) ?_ ?_
  ·rintro i y G f6 d7 ⟨Y,rfl,I⟩;obtain⟨f9,d',l9,rfl,n0⟩:=all i y d7;subst eB;show tIfS _ _ _ _ [some (.ref a),some (.int (fmD k)),some (.ref l),some (.ref g),some (.ref a1),some (.int O),some (.int c),some (.ref F),some (.ref f),some (.ref n),some (.ref f9),none,none,none] f6;ext;refine⟨a,ns,7,rfl,I.seq f5,∅,?_⟩;refine⟨_,rfl,λm p2 U D=>?_⟩;refine⟨g,f9,m,0,rfl,⟨k,d',l9,ms,srt,a7.up (I.trans U),n0.up (I.trans U),.inl ⟨rfl,D⟩⟩,λc3 u=>?_⟩;exact⟨_,_,rfl,rfl,_,rfl,iteF ((I.trans U).trans u)⟩
  rintro G f6 ⟨Y,rfl,I⟩;left;refine⟨g,n,1,1,rfl,⟨k,5-fmD k,_,ms,srt,a7.up I,a8.up I,.inr ⟨∅,.inl ⟨rfl,by rw[mV];omega⟩⟩⟩,λp2 U=>⟨_,_,rfl,rfl,_,rfl,iteF ?_⟩⟩;replace U:=I.trans U;obtain⟨h2,h6⟩:=iL (i:=0) (show(srt.map λx=>x.1).length=srt.length by rw[zqe]) j9;have l7:=f4 h2 (zqb h6);subst e1;refine st λN1 e1=>lN λo4 n5=>?_;simp only[mD];ext;refine⟨∅,∅,?_⟩;refine dW (n:=5) (g:=pY 11) (tb:=o4) (λi G H'=>∃b4:Option V,G=[some (.ref a),some (.int (fmD k)),some (.ref l),some (.ref g),some (.ref a1),some (.int O),some (.int c),some (.ref F),some (.ref f),some (.ref n),Y,b4,none,none]/\Same a4 H') ⟨none,rfl,U⟩ ?_ ?_
  ·rintro i G c3 hi ⟨b4,rfl,u⟩;subst n5;show tIfS _ _ _ _ [some (.ref a),some (.int (fmD k)),some (.ref l),some (.ref g),some (.ref a1),some (.int O),some (.int c),some (.ref F),some (.ref f),some (.ref n),Y,some (.int (0+(i:Int))),none,none] c3;ext;refine Wu (X.up u) h6 rfl λp o5=>?_;obtain⟨r7,n9,o9,t0,N⟩:=id (Z.up u);refine⟨true,f,_,_,_,rfl,rfl,SqB.tup o9,rfl,?_⟩;rw[uX];refine⟨i,p,n9,n,f,h2,fmD k,5-fmD k,2,1,_,1,rfl,o5,l7.sq.1,N,yU,a8.up u,Z.up u,⋯,λb0 v=>⟨_,_,rfl,rfl,_,rfl,iteF (u.trans v)⟩⟩
  rintro G c3 ⟨b4,rfl,u⟩;subst e1;refine st λN1 e1=>?_;have go:∀b0,Same a4 b0->N1 [some (.ref a),some (.int (fmD k)),some (.ref l),some (.ref g),some (.ref a1),some (.int O),some (.int c),some (.ref F),some (.ref f),some (.ref n),Y,b4,none,none] b0:=by
   intro b0 v;left;refine⟨a,ns,8,rfl,v.seq f5,∅,Kp (X.up v) ?_⟩;rw[zqe];generalize ns.getD (8:Int).toNat 0=f7
   try ext
   refine⟨.of_left (uN ∅ ∅),⋯,?_⟩;have p9:=fms f7 (9*srt.length-1) ⋯;generalize f7.fmod (9*(srt.length:Int)-1)=c6 at p9;left;refine⟨fmD k,3,rfl,M,.inr (.inr rfl),λq4 g7 a2 q5=>?_⟩;replace a2:=v.trans a2;have m5:∃a3:Int,(if 200<1+c6 then 200 else 1+c6)=a3/\1<=a3/\a3<=200/\a3<9*srt.length:=by
    by_cases q:200<1+c6
    ·rw[zG q];exact⟨_,rfl,⋯,⋯,⋯⟩
    ·rw[zE q];exact⟨_,rfl,⋯,⋯,⋯⟩
   obtain⟨a3,j3,e4,e3,c4⟩:=m5
   try ext
   rw[j3];refine⟨g,q4,a3,3,rfl,⟨k,fmD k,vC (fmD k) 3,ms,srt,a7.up a2,q5,.inr ⟨⟨e4,e3⟩,.inr ⟨⟨mV,Cz⟩,.inr ⟨rfl,L,C,su,rfl,ok,d4,S,rfl,c4⟩⟩⟩⟩,λa9 J=>⟨_,_,rfl,rfl,_,rfl,iteF ?_⟩⟩;replace J:=a2.trans J;left;refine Kp (X.up J) ?_;rw[zqe];refine g5 _ J ⋯ ⋯ ⋯ λk6 l2 o8 s2 p7 g9 k9=>?_;symm;simp only[kD];ext;obtain⟨i3,r0,r6,r8,s6,l8,_⟩:=id g9;refine⟨i3,_,l8,rfl,k6,fmD k,l2,o8,rfl,g9,λt3 r2 s3 k2 _ l1 i9=>?_⟩;have g0:=Cv l1 i9;rw[k9]at g0;have e6:=(J.trans p7).trans k2;refine Ee 5 ∅ (bQ g0) (bQ (X.up e6)) (bR _) (bR _) (b:=true) (by simp) ⟨_,rfl,iteT ?_⟩;refine g5 200 e6 ∅ ∅ ⋯ λl4 p1 p0 r3 o0 h0 o1=>?_
   try ext
   obtain⟨i5,q8,q7,r4,s8,m0,_⟩:=id h0;refine⟨i5,_,m0,rfl,l4,fmD k,p1,p0,rfl,h0,λr1 t2 s0 k1 _ m2 m8=>?_⟩;have g8:=Cv m2 m8;rw[o1]at g8;exact Ee 5 ∅ (bQ g8) (bQ (X.up ((e6.trans o0).trans k1))) (bR _) (bR _) (b:=true) (by simp) (q2 _)
  ext;refine Ws (X.up u) (DdS.up b7 u) λb d1=>⟨b,rfl,?_⟩;cases b with
  |false=>exact iteF (go c3 u)
  |true =>
   have nm:=d1.mp rfl;refine iteT ⟨fmD k,c,rfl,M,a0,λk8 b0 v i8=>?_⟩;replace v:=u.trans v;obtain⟨k5,v2⟩:=Ks M a0;refine⟨g,k8,1,2,rfl,⟨k,fmD k,vH (fmD k) c,ms,srt,a7.up v,i8,.inr ⟨∅,.inr ⟨⟨bN,k5⟩,.inl ⟨rfl,λmo=>nm ?_⟩⟩⟩⟩,λg7 a2=>⟨_,_,rfl,rfl,_,rfl,iteF (go g7 (v.trans a2))⟩⟩;have:=mo _ (Wp a0);rw[Wq M a0]at this;exact this
end
theorem us1{a:Type}{us:List a}(h:us.length=1):∃a0,us=[a0]:=match us,h with|[a0],_=>⟨a0,rfl⟩
theorem us2{b:Type}{us:List b}(h:us.length=2):∃a0 a,us=[a0,a]:=match us,h with|[a0,a],_=>⟨a0,a,rfl⟩
theorem us3{c:Type}{us:List c}(h:us.length=3):∃a0 a b,us=[a0,a,b]:=match us,h with|[a0,a,b],_=>⟨a0,a,b,rfl⟩
theorem us4{d:Type}{us:List d}(h:us.length=4):∃a0 a b c,us=[a0,a,b,c]:=match us,h with|[a0,a,b,c],_=>⟨a0,a,b,c,rfl⟩
theorem us5{e:Type}{us:List e}(h:us.length=5):∃a0 d b c a,us=[a0,d,b,c,a]:=match us,h with|[a0,d,b,c,a],_=>⟨a0,d,b,c,a,rfl⟩
abbrev caG(K:Frag)(C:Addr):Prop:=findIn K (.ref C) "__class__"=some (some (.builtin "object.__class__"))
abbrev nG(K:Frag)(x:Str)(f:Addr):Prop:=nsIn K mainGlobals x=some (some (.ref f))
local macro_rules | `(tactic| walk_at "1")=>`(tactic| (intro _ _ _ _ _ _ us hl; obtain ⟨_,hh⟩:=us1 hl; subst hh; rfl))
local macro_rules | `(tactic| walk_at "2")=>`(tactic| (intro _ _ _ _ _ _ us hl; obtain ⟨_,_,hh⟩:=us2 hl; subst hh; rfl))
theorem txt_mk{K:Frag}{h:Heap}{f8:MT}(X:K.In h)(G:h.Ns mainGlobals f8)
  {f g i c l a b d k o n r j p q m e a6 z c2 b7 F a1 d0 a2 D a3 b4 d6 b1 d1 U c9 c5 b9 c7 V Y b2 S I c0 W a5 b6 O b5 e0 M c6 a9 d2 N a7 w C u y c4 d8 d9 d4 b3 d7 c1 e3 c8 c3 a4 d3 Z e2 b0 a0 J L P:Addr}{ei w9 ed t5 bi bw t1 br ax fz n9 w2 o4 p5 cf gi l2 dm bu w0 u2 aw m8 bp gd w4 as bm v0 q0 x7 t9 dx ai ah fa m2 m3 n5 q6 dd fh q3 m9 l4 r9 w3 r6 au dr o3 u6 ez t6 aj fq cg l9 u5 ds:FuncData}
  {t:Addr}{eh fi:Option Addr}{m1:Array (Option Value)}{y9 dh dg k8 h9 s7:Value}
  {f2:Addr}{q2:Value}{fb:Option Addr}{de:Nat}{dq:Array (Option Value)}{b8:Tok}
  {x:Addr}{o5 cn:Option Addr}{s3:Array (Option Value)}{y1 o8 eu dv i5 dy:Value}
  {e5:Addr}{be:Value}{n0:Option Addr}{s0:Nat}{dz:Array (Option Value)}{R:Tok}
  {s1:Tok}
  (x6:nG K "CrystalError" f)
  (z0:nG K "NoPlace" g)
  (ea:nG K "NoDeed" i)
  (cl:nG K "NoNumber" c)
  (dc:nG K "NoText" l)
  (z2:nG K "TooMany" a)
  (z4:nG K "NoChange" b)
  (dp:nG K "NotKept" d)
  (x2:nG K "NoForm" k)
  (x4:nG K "NotWithin" o)
  (t3:nG K "NotLeast" n)
  (ae:nG K "NoDrawing" r)
  (al:nG K "OffSheet" j)
  (p0:nG K "NoSheet" p)
  (az:nG K "NoRow" q)
  (ex:nG K "NoName" m)
  (p1:nG K "Group" e)
  (fo:nG K "copied" a6)
  (k1:Fun K "copied" "copied" s_1h a6 ei)
  (gj:findIn K (.ref a) "__init__"=some (some (.ref z)))
  (h7:Fun K "__init__" "TooMany.__init__" s_6 z w9)
  (m4:nG K "divisor" c2)
  (g1:Fun K "divisor" "divisor" s_15 c2 ed)
  (es:nG K "multiple" b7)
  (f9:Fun K "multiple" "multiple" s_16 b7 t5)
  (u1:nG K "place" F)
  (j1:Fun K "place" "place" s_12 F bi)
  (r8:nG K "rest_place" a1)
  (h8:Fun K "rest_place" "rest_place" cL a1 bw)
  (m6:nG K "place_sum" d0)
  (k0:Fun K "place_sum" "place_sum" s_13 d0 t1)
  (x3:nG K "opposite" a2)
  (k5:Fun K "opposite" "opposite" s_19 a2 br)
  (u4:nG K "place_less" D)
  (g9:Fun K "place_less" "place_less" s_11 D ax)
  (da:nG K "still_rows" a3)
  (f3:Fun K "still_rows" "still_rows" cN a3 fz)
  (n1:nG K "dot" b4)
  (g7:Fun K "dot" "dot" s_20 b4 n9)
  (v6:nG K "turned" d6)
  (f7:Fun K "turned" "turned" s_1e d6 w2)
  (p8:nG K "times" b1)
  (e6:Fun K "times" "times" s_1t b1 o4)
  (x9:nG K "without" d1)
  (h4:Fun K "without" "without" s_1b d1 p5)
  (r0:nG K "determinant" U)
  (j8:Fun K "determinant" "determinant" s_1 U cf)
  (ba:nG K "cofactor" c9)
  (j3:Fun K "cofactor" "cofactor" s_18 c9 gi)
  (bx:nG K "crossed" c5)
  (e9:Fun K "crossed" "crossed" s_1g c5 l2)
  (ay:nG K "scaled" b9)
  (g8:Fun K "scaled" "scaled" s_1n b9 dm)
  (gg:nG K "joined" c7)
  (k4:Fun K "joined" "joined" s_1a c7 bu)
  (w1:nG K "deed" V)
  (i4:Fun K "deed" "deed" s_1v V w0)
  (cp:nG K "still" Y)
  (g0:Fun K "still" "still" s_1w Y u2)
  (ct:nG K "move" b2)
  (i3:Fun K "move" "move" s_23 b2 aw)
  (aq:nG K "moved" S)
  (g2:Fun K "moved" "moved" s_1r S m8)
  (o9:nG K "behind" I)
  (i9:Fun K "behind" "behind" s_1l I bp)
  (ck:nG K "rest" c0)
  (f6:Fun K "rest" "rest" s_1x c0 gd)
  (r1:nG K "change" W)
  (f0:Fun K "change" "change" s_1c W w4)
  (t8:nG K "check_beside" a5)
  (i0:Fun K "check_beside" "check_beside" s_2 a5 as)
  (ca:nG K "forth" b6)
  (e8:Fun K "forth" "forth" s_1o b6 bm)
  (y8:nG K "home" O)
  (j9:Fun K "home" "home" s_22 O v0)
  (bo:nG K "led" b5)
  (i8:Fun K "led" "led" s_26 b5 q0)
  (x1:nG K "change_behind" e0)
  (h6:Fun K "change_behind" "change_behind" s_9 e0 x7)
  (t7:nG K "old_place" M)
  (e7:Fun K "old_place" "old_place" s_14 M t9)
  (bj:nG K "new_place" c6)
  (e4:Fun K "new_place" "new_place" At c6 dx)
  (an:nG K "new_deed" a9)
  (i2:Fun K "new_deed" "new_deed" eL a9 ai)
  (y6:nG K "check_most" d2)
  (j6:Fun K "check_most" "check_most" As d2 ah)
  (ge:nG K "check_axes" N)
  (h0:Fun K "check_axes" "check_axes" s_10 N fa)
  (u7:nG K "closed" a7)
  (f1:Fun K "closed" "closed" s_1f a7 m2)
  (gp:findIn K (.ref e) "__init__"=some (some (.ref t)))
  (cx:K.lookup t=some ⟨y9,eh,.func (fnOf "__init__" "Group.__init__" (kL s_0) (nR s_0) (pM s_0) (.ref f2) dh dg k8 fi h9 s7),m1⟩)
  (bt:K.lookup f2=some ⟨q2,fb,.seq #[.int 200 b8] de,dq⟩)
  (ek:codeIn K h9 "Group.__init__"=true)
  (s4:keepIn K (.ref t)=true)
  (gn:findIn K (.ref e) "axes"=some (some (.ref w)))
  (g4:Fun K "axes" "Group.axes" Ar w m3)
  (gm:findIn K (.ref e) "makers"=some (some (.ref C)))
  (k7:Fun K "makers" "Group.makers" Aq C n5)
  (gq:findIn K (.ref e) "members"=some (some (.ref u)))
  (h1:Fun K "members" "Group.members" s_3 u q6)
  (gk:findIn K (.ref e) "at"=some (some (.ref y)))
  (g6:Fun K "at" "Group.at" Ap y dd)
  (av:nG K "group_of" c4)
  (j5:Fun K "group_of" "group_of" s_17 c4 fh)
  (fx:nG K "check_moves" d8)
  (h3:Fun K "check_moves" "check_moves" Ao d8 q3)
  (z1:nG K "grown" d9)
  (g3:Fun K "grown" "grown" s_1s d9 m9)
  (p3:nG K "changed" x)
  (cy:K.lookup x=some ⟨y1,o5,.func (fnOf "changed" "changed" (kL s_5) (nR s_5) (pM s_5) (.ref e5) o8 eu dv cn i5 dy),s3⟩)
  (y2:K.lookup e5=some ⟨be,n0,.seq #[.int 200 R] s0,dz⟩)
  (m7:codeIn K i5 "changed"=true)
  (fu:keepIn K (.ref x)=true)
  (gc:nG K "_law_cell" d4)
  (g5:Fun K "_law_cell" "_law_cell" An d4 l4)
  (di:nG K "_law_divides" b3)
  (j7:Fun K "_law_divides" "_law_divides" Am b3 r9)
  (cq:nG K "_law_lowest" d7)
  (j4:Fun K "_law_lowest" "_law_lowest" cO d7 w3)
  (df:nG K "_law_units" c1)
  (i7:Fun K "_law_units" "_law_units" cP c1 r6)
  (gb:nG K "_law_plane" e3)
  (f4:Fun K "_law_plane" "_law_plane" iH e3 au)
  (fr:nG K "_law_space" c8)
  (j0:Fun K "_law_space" "_law_space" iI c8 dr)
  (s2:nG K "_law_sheared" c3)
  (k3:Fun K "_law_sheared" "_law_sheared" gW c3 o3)
  (v9:nG K "_law_at_spot" a4)
  (i6:Fun K "_law_at_spot" "_law_at_spot" cQ a4 u6)
  (l1:nG K "_law_makers" d3)
  (k2:Fun K "_law_makers" "_law_makers" gX d3 ez)
  (db:nG K "_law_class" Z)
  (h2:Fun K "_law_class" "_law_class" Al Z t6)
  (fm:nG K "_law_refused" e2)
  (k6:Fun K "_law_refused" "_law_refused" Ak e2 aj)
  (v4:nG K "_law_beside" b0)
  (i1:Fun K "_law_beside" "_law_beside" Aj b0 fq)
  (et:nG K "_law_flat" a0)
  (h5:Fun K "_law_flat" "_law_flat" eM a0 cg)
  (ev:nG K "_law_halved" J)
  (f5:Fun K "_law_halved" "_law_halved" eN J l9)
  (r4:nG K "_law_bad_most" L)
  (j2:Fun K "_law_bad_most" "_law_bad_most" Ai L u5)
  (l8:nG K "law" P)
  (a8:Fun K "law" "law" s_24 P ds)
  (q7:nsIn K mainGlobals "MOST_MEMBERS"=some (some (.int 200 s1)))
  (r7:nsIn K mainGlobals "any"=some none)
  (ch:nsIn K mainGlobals "sum"=some none)
  (r2:nsIn K mainGlobals "zip"=some none)
  (q1:nsIn K mainGlobals "enumerate"=some none)
  (p9:nsIn K mainGlobals "range"=some none)
  (u9:nsIn K mainGlobals "len"=some none)
  (cj:nsIn K mainGlobals "abs"=some none)
  (n7:nsIn K mainGlobals "isinstance"=some none)
  (v1:nsIn K mainGlobals "int"=some none)
  (q8:nsIn K mainGlobals "list"=some none)
  (eg:nsIn K mainGlobals "tuple"=some none)
  (q9:nsIn K mainGlobals "sorted"=some none)
  (s9:nsIn K mainGlobals "dict"=some none)
  (t4:nsIn K mainGlobals "min"=some none)
  (am:nsIn K mainGlobals "ValueError"=some none)
  (l5:kitOne K (.type "list") (.type "list")=some true)
  (n6:PySem.W.excIn K g [.type "ValueError",.type "Exception",.type "BaseException",.type "object"] "ValueError.__new__"=true)
  (ga:PySem.W.excIn K i [.type "ValueError",.type "Exception",.type "BaseException",.type "object"] "ValueError.__new__"=true)
  (dj:L2.Cls K e)
  (co:L2.Mk K e t)
  (n2:L2.Meth K e "members" u)
  (w7:findIn K (.ref e) "dimension"=some none)
  (ff:findIn K (.ref e) "given"=some none)
  (fw:findIn K (.ref e) "ordered"=some none)
  (er:findIn K (.ref e) "shortest"=some none)
  (x0:findIn K (.ref e) "numbers"=some none)
  (m5:L2.Meth K e "makers" C)
  (fj:kitOne K (.type "int") (.type "list")=some false)
  (ab:kitOne K (.type "int") (.type "tuple")=some false)
  (z3:L2.XIn K a f z)
  (n8:L2.XSt K a "apart")
  (ep:PySem.W.excIn K c [.type "ValueError",.type "Exception",.type "BaseException",.type "object"] "ValueError.__new__"=true)
  (bb:PySem.W.specialIn K (.builtin "object.__class__") "__get__"=some (some (.builtin "getset_descriptor.__get__")))
  (o2:PySem.W.takesIn K (.builtin "object.__class__")=some true)
  (l7:findIn K (.ref a) "apart"=some none)
  (gh:PySem.W.hasDictIn K a=true)
  (z5:L2.Meth K e "axes" w)
  (r5:L2.Meth K e "at" y)
  (aa:PySem.W.excIn K b [.type "ValueError",.type "Exception",.type "BaseException",.type "object"] "ValueError.__new__"=true)
  (cc:PySem.W.excIn K d [.type "ValueError",.type "Exception",.type "BaseException",.type "object"] "ValueError.__new__"=true)
  (p6:PySem.W.exmOne K (.ref c) (.ref f)=some true)
  (r3:findIn K (.ref c) "__getattribute__"=some (some (.builtin "BaseException.__getattribute__")))
  (t2:findIn K (.ref c) "__getattr__"=some none)
  (bg:caG K c)
  (l3:PySem.W.mroIn K c (.type "object")=some true)
  (ft:PySem.W.mroIn K c (.type "BaseException")=some true)
  (em:kitOne K (.ref c) (.type "ValueError")=some true)
  (v8:kitOne K (.ref c) (.ref c)=some true)
  (z7:kitOne K (.ref c) (.ref b)=some false)
  (ew:kitOne K (.ref c) (.ref d)=some false)
  (u0:kitOne K (.ref c) (.ref a)=some false)
  (af:kitOne K (.ref c) (.ref i)=some false)
  (ce:kitOne K (.ref c) (.ref r)=some false)
  (eq:kitOne K (.ref c) (.ref k)=some false)
  (q4:kitOne K (.ref c) (.ref m)=some false)
  (v7:kitOne K (.ref c) (.ref g)=some false)
  (fc:kitOne K (.ref c) (.ref q)=some false)
  (fp:kitOne K (.ref c) (.ref p)=some false)
  (du:kitOne K (.ref c) (.ref l)=some false)
  (l6:kitOne K (.ref c) (.ref n)=some false)
  (ci:kitOne K (.ref c) (.ref o)=some false)
  (fg:kitOne K (.ref c) (.ref j)=some false)
  (ac:PySem.W.exmOne K (.ref b) (.ref f)=some true)
  (bv:findIn K (.ref b) "__getattribute__"=some (some (.builtin "BaseException.__getattribute__")))
  (fv:findIn K (.ref b) "__getattr__"=some none)
  (bz:caG K b)
  (o6:PySem.W.mroIn K b (.type "object")=some true)
  (dl:PySem.W.mroIn K b (.type "BaseException")=some true)
  (z6:kitOne K (.ref b) (.type "ValueError")=some true)
  (x8:kitOne K (.ref b) (.ref c)=some false)
  (ar:kitOne K (.ref b) (.ref b)=some true)
  (cd:kitOne K (.ref b) (.ref d)=some false)
  (n4:kitOne K (.ref b) (.ref a)=some false)
  (cb:kitOne K (.ref b) (.ref i)=some false)
  (bq:kitOne K (.ref b) (.ref r)=some false)
  (u8:kitOne K (.ref b) (.ref k)=some false)
  (z9:kitOne K (.ref b) (.ref m)=some false)
  (bh:kitOne K (.ref b) (.ref g)=some false)
  (cz:kitOne K (.ref b) (.ref q)=some false)
  (el:kitOne K (.ref b) (.ref p)=some false)
  (ap:kitOne K (.ref b) (.ref l)=some false)
  (ak:kitOne K (.ref b) (.ref n)=some false)
  (bc:kitOne K (.ref b) (.ref o)=some false)
  (w6:kitOne K (.ref b) (.ref j)=some false)
  (ad:PySem.W.exmOne K (.ref d) (.ref f)=some true)
  (fn:findIn K (.ref d) "__getattribute__"=some (some (.builtin "BaseException.__getattribute__")))
  (o0:findIn K (.ref d) "__getattr__"=some none)
  (bd:caG K d)
  (o1:PySem.W.mroIn K d (.type "object")=some true)
  (n3:PySem.W.mroIn K d (.type "BaseException")=some true)
  (y3:kitOne K (.ref d) (.type "ValueError")=some true)
  (fy:kitOne K (.ref d) (.ref c)=some false)
  (ee:kitOne K (.ref d) (.ref b)=some false)
  (o7:kitOne K (.ref d) (.ref d)=some true)
  (cw:kitOne K (.ref d) (.ref a)=some false)
  (q5:kitOne K (.ref d) (.ref i)=some false)
  (bn:kitOne K (.ref d) (.ref r)=some false)
  (en:kitOne K (.ref d) (.ref k)=some false)
  (s8:kitOne K (.ref d) (.ref m)=some false)
  (dw:kitOne K (.ref d) (.ref g)=some false)
  (m0:kitOne K (.ref d) (.ref q)=some false)
  (t0:kitOne K (.ref d) (.ref p)=some false)
  (dk:kitOne K (.ref d) (.ref l)=some false)
  (cv:kitOne K (.ref d) (.ref n)=some false)
  (ef:kitOne K (.ref d) (.ref o)=some false)
  (p2:kitOne K (.ref d) (.ref j)=some false)
  (y4:PySem.W.exmOne K (.ref a) (.ref f)=some true)
  (cu:findIn K (.ref a) "__getattribute__"=some (some (.builtin "BaseException.__getattribute__")))
  (eo:findIn K (.ref a) "__getattr__"=some none)
  (u3:caG K a)
  (s5:PySem.W.mroIn K a (.type "object")=some true)
  (y5:PySem.W.mroIn K a (.type "BaseException")=some true)
  (ej:kitOne K (.ref a) (.type "ValueError")=some true)
  (bf:kitOne K (.ref a) (.ref c)=some false)
  (z8:kitOne K (.ref a) (.ref b)=some false)
  (cr:kitOne K (.ref a) (.ref d)=some false)
  (fe:kitOne K (.ref a) (.ref a)=some true)
  (l0:kitOne K (.ref a) (.ref i)=some false)
  (fk:kitOne K (.ref a) (.ref r)=some false)
  (gf:kitOne K (.ref a) (.ref k)=some false)
  (ec:kitOne K (.ref a) (.ref m)=some false)
  (w8:kitOne K (.ref a) (.ref g)=some false)
  (fd:kitOne K (.ref a) (.ref q)=some false)
  (s6:kitOne K (.ref a) (.ref p)=some false)
  (p4:kitOne K (.ref a) (.ref l)=some false)
  (y7:kitOne K (.ref a) (.ref n)=some false)
  (x5:kitOne K (.ref a) (.ref o)=some false)
  (cm:kitOne K (.ref a) (.ref j)=some false)
  :∃eb,Txt K f8 eb:=by
 have dn:=h7.binds (ps:=pr') (by walk_at "2");have d5:=Fc (st:=s_0) (ds:=[.int 200 b8]) cx ek s4 bt;have y0:=d5.bindsA (ps:=pd') λ_ _ _ _ _ _ _ us hl=>by obtain⟨_,_,_,_,rfl⟩:=us4 hl;exact⟨_,rfl,rfl⟩
 have ao:=d5.binds (ps:=pd') λ_ _ _ _ _ _ _ us hl=>by obtain⟨_,_,_,rfl⟩:=us3 (sB hl);exact⟨_,rfl,rfl⟩
 have ey:=g4.binds (ps:=pE') (by walk_at "1");have v5:=k7.binds (ps:=pE') (by walk_at "1");have p7:=h1.binds (ps:=pE') (by walk_at "1");have ag:=g6.binds (ps:=pC') (by walk_at "2");have T:=Fc (st:=s_5) (ds:=[.int 200 R]) cy m7 fu y2;have w5:=T.bindsA (ps:=pj') λ_ _ _ _ _ _ _ us hl=>by obtain⟨_,_,_,rfl⟩:=us3 hl;exact⟨_,rfl,rfl⟩
 have k9:=T.binds (ps:=pj') λ_ _ _ _ _ _ _ us hl=>by obtain⟨_,_,rfl⟩:=us2 (sB hl);exact⟨_,rfl,rfl⟩
 obtain⟨_,_,_,_,_,_,_,_,_,rfl,_,_⟩:=id a8.ex;exact⟨⟨a6,z,c2,b7,F,a1,d0,a2,D,a3,b4,d6,b1,d1,U,c9,c5,b9,c7,V,Y,b2,S,I,c0,W,a5,b6,O,b5,e0,M,c6,a9,d2,N,a7,t,w,C,u,y,c4,d8,d9,x,d4,b3,d7,c1,e3,c8,c3,a4,d3,Z,e2,b0,a0,J,L,P,_,_,_,_,_,_,_,_,_,_,_,_,_,_,_,_,_,_,_,_,_,_,_,_,_,_,_,_,_,_,_,_,_,_,_,_,_,_,_,_,_,_,_,_,_,_,_,_,_,_,_,_,_,_,_,_,_,_,_,_,_,_,f,g,i,c,l,a,b,d,k,o,n,r,j,p,q,m,e,b8,R⟩,⟨⟨k1,zV X G fo,k1.binds (λ_ _ _ _ _ _ us hl=>by obtain⟨_,rfl⟩:=us1 hl;rfl)⟩,h7,dn,⟨g1,zV X G m4,g1.binds (λ_ _ _ _ _ _ us hl=>by obtain⟨_,_,rfl⟩:=us2 hl;rfl)⟩,⟨f9,zV X G es,f9.binds (λ_ _ _ _ _ _ us hl=>by obtain⟨_,rfl⟩:=us1 hl;rfl)⟩,⟨j1,zV X G u1,j1.binds (λ_ _ _ _ _ _ us hl=>by obtain⟨_,_,rfl⟩:=us2 hl;rfl)⟩,⟨h8,zV X G r8,h8.binds (λ_ _ _ _ _ _ us hl=>by obtain⟨_,rfl⟩:=us1 hl;rfl)⟩,⟨k0,zV X G m6,k0.binds (λ_ _ _ _ _ _ us hl=>by obtain⟨_,_,rfl⟩:=us2 hl;rfl)⟩,⟨k5,zV X G x3,k5.binds (λ_ _ _ _ _ _ us hl=>by obtain⟨_,rfl⟩:=us1 hl;rfl)⟩,⟨g9,zV X G u4,g9.binds (λ_ _ _ _ _ _ us hl=>by obtain⟨_,_,rfl⟩:=us2 hl;rfl)⟩,⟨f3,zV X G da,f3.binds (λ_ _ _ _ _ _ us hl=>by obtain⟨_,rfl⟩:=us1 hl;rfl)⟩,⟨g7,zV X G n1,g7.binds (λ_ _ _ _ _ _ us hl=>by obtain⟨_,_,rfl⟩:=us2 hl;rfl)⟩,⟨f7,zV X G v6,f7.binds (λ_ _ _ _ _ _ us hl=>by obtain⟨_,rfl⟩:=us1 hl;rfl)⟩,⟨e6,zV X G p8,e6.binds (λ_ _ _ _ _ _ us hl=>by obtain⟨_,_,rfl⟩:=us2 hl;rfl)⟩,⟨h4,zV X G x9,h4.binds (λ_ _ _ _ _ _ us hl=>by obtain⟨_,_,_,rfl⟩:=us3 hl;rfl)⟩,⟨j8,zV X G r0,j8.binds (λ_ _ _ _ _ _ us hl=>by obtain⟨_,rfl⟩:=us1 hl;rfl)⟩,⟨j3,zV X G ba,j3.binds (λ_ _ _ _ _ _ us hl=>by obtain⟨_,_,_,rfl⟩:=us3 hl;rfl)⟩,⟨e9,zV X G bx,e9.binds (λ_ _ _ _ _ _ us hl=>by obtain⟨_,rfl⟩:=us1 hl;rfl)⟩,⟨g8,zV X G ay,g8.binds (λ_ _ _ _ _ _ us hl=>by obtain⟨_,_,rfl⟩:=us2 hl;rfl)⟩,⟨k4,zV X G gg,k4.binds (λ_ _ _ _ _ _ us hl=>by obtain⟨_,_,rfl⟩:=us2 hl;rfl)⟩,⟨i4,zV X G w1,i4.binds (λ_ _ _ _ _ _ us hl=>by obtain⟨_,_,_,rfl⟩:=us3 hl;rfl)⟩,⟨g0,zV X G cp,g0.binds (λ_ _ _ _ _ _ us hl=>by obtain⟨_,rfl⟩:=us1 hl;rfl)⟩,⟨i3,zV X G ct,i3.binds (λ_ _ _ _ _ _ us hl=>by obtain⟨_,rfl⟩:=us1 hl;rfl)⟩,⟨g2,zV X G aq,g2.binds (λ_ _ _ _ _ _ us hl=>by obtain⟨_,_,rfl⟩:=us2 hl;rfl)⟩,⟨i9,zV X G o9,i9.binds (λ_ _ _ _ _ _ us hl=>by obtain⟨_,_,rfl⟩:=us2 hl;rfl)⟩,⟨f6,zV X G ck,f6.binds (λ_ _ _ _ _ _ us hl=>by obtain⟨_,rfl⟩:=us1 hl;rfl)⟩,⟨f0,zV X G r1,f0.binds (λ_ _ _ _ _ _ us hl=>by obtain⟨_,_,rfl⟩:=us2 hl;rfl)⟩,⟨i0,zV X G t8,i0.binds (λ_ _ _ _ _ _ us hl=>by obtain⟨_,_,rfl⟩:=us2 hl;rfl)⟩,⟨e8,zV X G ca,e8.binds (λ_ _ _ _ _ _ us hl=>by obtain⟨_,rfl⟩:=us1 hl;rfl)⟩,⟨j9,zV X G y8,j9.binds (λ_ _ _ _ _ _ us hl=>by obtain⟨_,rfl⟩:=us1 hl;rfl)⟩,⟨i8,zV X G bo,i8.binds (λ_ _ _ _ _ _ us hl=>by obtain⟨_,_,rfl⟩:=us2 hl;rfl)⟩,⟨h6,zV X G x1,h6.binds (λ_ _ _ _ _ _ us hl=>by obtain⟨_,_,rfl⟩:=us2 hl;rfl)⟩,⟨e7,zV X G t7,e7.binds (λ_ _ _ _ _ _ us hl=>by obtain⟨_,_,rfl⟩:=us2 hl;rfl)⟩,⟨e4,zV X G bj,e4.binds (λ_ _ _ _ _ _ us hl=>by obtain⟨_,_,rfl⟩:=us2 hl;rfl)⟩,⟨i2,zV X G an,i2.binds (λ_ _ _ _ _ _ us hl=>by obtain⟨_,_,rfl⟩:=us2 hl;rfl)⟩,⟨j6,zV X G y6,j6.binds (λ_ _ _ _ _ _ us hl=>by obtain⟨_,rfl⟩:=us1 hl;rfl)⟩,⟨h0,zV X G ge,h0.binds (λ_ _ _ _ _ _ us hl=>by obtain⟨_,_,rfl⟩:=us2 hl;rfl)⟩,⟨f1,zV X G u7,f1.binds (λ_ _ _ _ _ _ us hl=>by obtain⟨_,_,_,rfl⟩:=us3 hl;rfl)⟩,d5,ao,y0,g4,ey,k7,v5,h1,p7,g6,ag,⟨j5,zV X G av,j5.binds (λ_ _ _ _ _ _ us hl=>by obtain⟨_,_,rfl⟩:=us2 hl;rfl)⟩,⟨h3,zV X G fx,h3.binds (λ_ _ _ _ _ _ us hl=>by obtain⟨_,_,rfl⟩:=us2 hl;rfl)⟩,⟨g3,zV X G z1,g3.binds (λ_ _ _ _ _ _ us hl=>by obtain⟨_,_,rfl⟩:=us2 hl;rfl)⟩,T,k9,zV X G p3,w5,⟨g5,zV X G gc,g5.binds (λ_ _ _ _ _ _ us hl=>by obtain⟨_,_,rfl⟩:=us2 hl;rfl)⟩,⟨j7,zV X G di,j7.binds (λ_ _ _ _ _ _ us hl=>by obtain⟨_,_,rfl⟩:=us2 hl;rfl)⟩,⟨j4,zV X G cq,j4.binds (λ_ _ _ _ _ _ us hl=>by obtain⟨_,_,rfl⟩:=us2 hl;rfl)⟩,⟨i7,zV X G df,i7.binds (λ_ _ _ _ _ _ us hl=>by obtain⟨_,rfl⟩:=us1 hl;rfl)⟩,⟨f4,zV X G gb,f4.binds (λ_ _ _ _ _ _ us hl=>by obtain⟨_,rfl⟩:=us1 hl;rfl)⟩,⟨j0,zV X G fr,j0.binds (λ_ _ _ _ _ _ us hl=>by obtain⟨_,rfl⟩:=us1 hl;rfl)⟩,⟨k3,zV X G s2,k3.binds (λ_ _ _ _ _ _ us hl=>by obtain⟨_,_,_,_,rfl⟩:=us4 hl;rfl)⟩,⟨i6,zV X G v9,i6.binds (λ_ _ _ _ _ _ us hl=>by obtain⟨_,_,rfl⟩:=us2 hl;rfl)⟩,⟨k2,zV X G l1,k2.binds (λ_ _ _ _ _ _ us hl=>by obtain⟨_,rfl⟩:=us1 hl;rfl)⟩,⟨h2,zV X G db,h2.binds (λ_ _ _ _ _ _ us hl=>by obtain⟨_,rfl⟩:=us1 hl;rfl)⟩,⟨k6,zV X G fm,k6.binds (λ_ _ _ _ _ _ us hl=>by obtain⟨_,_,_,rfl⟩:=us3 hl;rfl)⟩,⟨i1,zV X G v4,i1.binds (λ_ _ _ _ _ _ us hl=>by obtain⟨_,_,_,_,_,rfl⟩:=us5 hl;rfl)⟩,⟨h5,zV X G et,h5.binds (λ_ _ _ _ _ _ us hl=>by obtain⟨_,_,rfl⟩:=us2 hl;rfl)⟩,⟨f5,zV X G ev,f5.binds (λ_ _ _ _ _ _ us hl=>by obtain⟨_,_,rfl⟩:=us2 hl;rfl)⟩,⟨j2,zV X G r4,j2.binds (λ_ _ _ _ _ _ us hl=>by obtain⟨_,rfl⟩:=us1 hl;rfl)⟩,⟨a8,zV X G l8,a8.binds (λ_ _ _ _ _ _ us hl=>by obtain⟨_,rfl⟩:=us1 hl;rfl)⟩,yH X G r7,yH X G ch,yH X G r2,yH X G q1,yH X G p9,yH X G u9,yH X G cj,yH X G n7,yH X G v1,yH X G q8,yH X G eg,yH X G q9,yH X G s9,yH X G t4,yH X G am,zV X G x6,zV X G z0,zV X G ea,zV X G cl,zV X G dc,zV X G z2,zV X G z4,zV X G dp,zV X G x2,zV X G x4,zV X G t3,zV X G ae,zV X G al,zV X G p0,zV X G az,zV X G ex,zV X G p1,⟨_,zV X G q7,_,rfl⟩,l5,n6,ga,dj,co,n2,w7,ff,fw,er,x0,m5,fj,ab,z3,n8,ep,bb,o2,l7,gh,z5,r5,aa,cc,p6,r3,t2,bg,l3,ft,em,v8,z7,ew,u0,af,ce,eq,q4,v7,fc,fp,du,l6,ci,fg,ac,bv,fv,bz,o6,dl,z6,x8,ar,cd,n4,cb,bq,u8,z9,bh,cz,el,ap,ak,bc,w6,ad,fn,o0,bd,o1,n3,y3,fy,ee,o7,cw,q5,bn,en,s8,dw,m0,t0,dk,cv,ef,p2,y4,cu,eo,u3,s5,y5,ej,bf,z8,cr,fe,l0,fk,gf,ec,w8,fd,s6,p4,y7,x5,cm,λs v=>.of_eq rfl⟩⟩
end Cw
end
open PySem PySem.W PyProof.Rows
/-! Names that the head would else lay equations under: the proof wants none of them. -/
namespace PySem.W.Fast
local macro_rules|`(command|include $x)=>`(def $x:ident:=Nat)|`(command|include $x $y $z*)=>`(def $x:ident:=Nat
include $y $z*)
include tw14662076683790205387 tw9170413850047146394 tw4584913395550523547 tw1903271921931605082 tw15417377153516583828 tw10355959974634273343 tw3500601278832756052 tw18063408206281045172 tw9842989968725703515 tw16187008586567111396 tw6966691530120953182 tw9563670187279496704 tw863314752508230580 tw17923778592795885067 tw5565195839387040381 tw10964304180399629605 tw10416616118346694424 tw4990059651565348259 tw16526972553684799438 tw11289902769615460501 tw10453925288713586823 tw886598690469719420 tw17488371385365412415 tw426228236389995981 tw11079200198028709462 tw2798089466497755301 tw17145887279002798627 tw3738686832308365180 tw7723425678290023175 tw11602209678357711820 tw13240226345331305512 tw12042499304712401253 tw7635267134623802410 tw2449864940468597202 tw10727462752222495869 tw12071266366152065531 tw10527486510022761784 tw1104128371418952629 tw7431675428259930517 tw14963891987535777464 tw17159175174620734644 tw10181085430923727818 tw7143923214092125913 tw17643113719846653096 tw17344278854354688686 tw16194478585905144334 tw3755312956376259130 tw17139920450859681813 tw13559882000834503318 tw14947132276934007850 tw8760825770695346219 tw106047073249415190 tw3267715339521996840 tw8229646066714986654 tw8847238732340458528 tw11029976917417428719 tw8768695312384480969 tw1959585607520016478 tw8372995821947823112 tw7613391163236352058 tw171820844006039808 tw14053961511746958882 tw10413086044854118309 tw30281220148516432 tw4201075416569551178 tw2816657841402172463 tw6308422469570402075 tw9826684239482430069 tw16416489236102140673 tw5650627653573145662 tw16542535315476325119 tw12827364959410181783 tw8636668337985506441 tw13060408783590314917 tw1109145542568082682 tw13097524773228642038 tw16363036003447063983 tw8685770298013331446 tw9673137742745970267 tw13058905789680222473 tw11986339447036252421 tw8992056710670472625 tw1536292719268479320 tw6323992944986008895 tw4128895910527158107 tw3218908420840312346 tw5975637267810637812 tw6725793797333239030 tw3896911569241772785 tw5541016310885956815 tw13198050687209371341 tw18227558371418854434 tw9455685652236224800 tw2150063038942519864 tw5966229942640670420 tw10268650759816383119 tw2099468236808291018 tw14282543760969381902 tw15560601324654527162 tw5055915578660684987 tw5656469947220709572 tw5725147241275148931 tw2724328262194663114 tw2773406285771634196 tw5013968753060537207 tw4538087798340006033 tw2857929325369771319 tw6408175923769315083 tw9601121071413845607 tw7795611841669286230 tw7353011846451870264 tw10052572645013177780 tw3907403490102481688 tw16946318359077362078 tw7622718614853190116 tw15800297110793642803 tw5486790035130718605 tw12884161170054594474 tw14490717093841475067 tw6542923681517416490 tw6467479083717036337 tw13239204860984715821 tw3280512651356199705 tw9551546104896187196 tw4169061456058278724 tw614374149364848654 tw7717769086846641438 tw15726537186371261880 tw15164825124085710039 tw4216724060917585871 tw14551601663407195182 tw3187924808694647823 tw3086832554672062388 tw17522768701404594627 tw14507464307114683399 tw2073021399433257420 tw15895516350880901834 tw4539763765789628497 tw4635042098059803361 tw7872979300181183758 tw6303711661559218080 tw11213257447585700870 tw1061606904738984126 tw8680333518821498521 tw11715424569923493563 tw17215521029437223317 tw9201507331059124914 tw10348139084857817316 tw14751640985417252206 tw11090316030510807281 tw5439772814448362140 tw10881256741893035000 tw6215105820294019111 tw10661843600465477860 tw11841795506704901030 tw5454664906710097662 tw11585444613327994377 tw18265708523203805524 tw14400377930968763923 tw699064584693773263 tw9057820610479794932 tw1871860542544135828 tw13376641119638953384 tw15653183762014779548 tw17927540163489804710 tw14495640380040229658 tw8563172234884560700 tw12033446547897686558 tw18360857600309871802 tw10551481965087846454 tw18252617775975303714 tw16777768878738955278 tw13702603672331709309 tw6175718509612382519 tw6967001919735845615 tw13854738120621724130 tw3742557649369839968 tw17472742681782073962 tw3544049556902234781 tw894420823971068875 tw1766620776001742875 tw15564775399135218101 tw12227812600270301540 tw1585783563722284148 tw7667170448456429166 tw3849507899295792175 tw17221578182007427995 tw7958681840318588212 tw8341527238899004591 tw1142921797566159393 tw9088067948824036740 tw12677876376257431943 tw11923997715630513312 tw12475762684891554449 tw9908339345223559968 tw4421704215883578953 tw17947495577198268699 tw2617312723011472216 tw13926030119197180324 tw7795902030558320555 tw11687078988590741057 tw12870221787473411081 tw17840092958862299568 tw18433422029370032003 tw12499393177857479828 tw15236169669415127260 tw14476070653419583614 tw11282890219706327685 tw5258875543219971350 tw15721576018327012585 tw2543037134899896495 tw17565030075230263932 tw11484625346421878229 tw11934011079040205213 tw12410102930785727076 tw14941506232082505146 tw868147611903646414 tw14623392136123491384 tw11596227556971417859 tw5885200043296575591 tw16520466927131428682 tw8381923580146608204 tw4947323926471214050 tw3743051350731464566 tw6816085149233784569 tw17344124839273361036 tw7680190602941184906 tw15679000914079398173 tw12290250200512010245 tw17769366506112009949 tw181197411357604905 tw10524347769698764578 tw6072708364015477672 tw13574955459617743865 tw17442010511434735631 tw4469579374636455054 tw10054997679209552154 tw14245777906106605446 tw4265189779649372877 tw6181665684682693928 tw9571678202339206728 tw3780235260625635239 tw7234559590689426050 tw6874570752315566890 tw3954321843190925167 tw10732128919187799044 tw1441200250396623526 tw290788214198315126 tw9725755101365673796 tw4352451171722613868 tw17111963033671044771 tw10144930175008969649 tw11959302957418789684 tw17476451797786280276 tw10066817453239459251 tw3351331102772353351 tw7812589740094043389 tw1738135050270796869 tw10991252498907502895 tw9447262776915542784 tw4716472913040920270 tw6025504209877087807 tw1108197376899259996 tw11053453980570047517 tw10661178192185687257 tw9309352887892649304 tw14356068330404575568 tw883884950317341945 tw16795561437660173057 tw16025117526523044352 tw555773370183174036 tw4172762159562973807 tw7748428441141082120 tw18200769314445091743 tw3099636181976439961 tw6040102401413621340 tw7846288779291388838 tw17032968809539472079 tw8158056539380687173 tw3364268566786106021 tw7559442266326615133 tw9538040246070826208 tw17438035046874969736 tw7033761076740188861 tw1295589258372956465 tw5005456930264938272 tw14337810144157804924 tw5539630215390440791 tw1505262555627368619 tw8729646409667324254 tw8091945054148438072 tw1069589870925517202 tw10109945731624680877 tw17239973729872488300 tw5430320972058091210 tw9013627851745998862 tw10976592088592001674 tw16983066574937988416 tw3143298731020305870 tw14542733413199160953 tw5841455387913296031 tw1726114430358696793 tw3596314295810363992 tw9826001287086896061 tw10949086698910510269 tw9232239412254876611 tw16521413977679980776 tw14262866323822367220 tw2492128177425833183 tw1450745195090520254 tw11589377783011122018 tw4193547709025978112 tw1744169168126546335 tw13058266128871162449 tw14693798077587263014 tw310035864782742509 tw4950672141661407980 tw15047808843342904666 tw15090879213804690731 tw9033650799990732349 tw9397722072699779583 tw1706819939919061569 tw11343524277792688494 tw3363994810990631674 tw9644530435784243623 tw8988400672903084483 tw6572233232454349373 tw5890247929939991337 tw14200534898256214526 tw4331530811769173114 tw2250830581059425866 tw4194092039825776101 tw13522762426661315676 tw12693637065594118122 tw8328439173203267460 tw11789503053450279852 tw14782968223818345906 tw17221126082730290690 tw12888211734341774791 tw17552300523220764669 tw8382508403245107641 tw8814657302462010658 tw10455556010225421741 tw4123583611455960405 tw12716154298297837521 tw17957075454023998783 tw8729545795855279468 tw15080921982959656938 tw3671039148597868674 tw798441974258500453 tw17037592698408207450 tw12338336411109017782 tw10794675032199036686 tw11934766765827720305 tw8621990584021774264 tw9489222497844726366 tw8274018415754205931 tw239748555207097912 tw7085247436476002693 tw2493078354572440355 tw7920087461121827575 tw6246486470564608774 tw9885316443214965767 tw7710550541330412088 tw4927801416824147206 tw2657551541669029938 tw1888171488652540005 tw10278687938216553317 tw12182381653101113694 tw2300709688692907496 tw9237638624297496938 tw6039371721073645354 tw4031236340321251869 tw16430544863547360819 tw1457771127506704207 tw17163617746824126043 tw3863848870673400451 tw3269708255777224163 tw14965528076319721258 tw10551542304717056176 tw4551167725763210844 tw7318853023960630435 tw2141199416210839410 tw11546840749295081589 tw6095743673561372481 tw8780091914436242696 tw13238011170381097557 tw11415143993626447174 tw2795703216311283536 tw9170820626627618136 tw1620613841825611890 tw5025760481084520414 tw13603695083629231956 tw875455888219779999 tw2312200442767601822 tw9890201128041163041 tw11713601053534966531 tw18319198034625592919 tw15252833243493248922 tw18333514381336710646 tw15024173375253381776 tw7999061420393235863 tw17242262477197387127 tw840003799190640601 tw9836574693598247927 tw16484100983091538770 tw14001101931392952939 tw14106093043616131759 tw10177985421931705877 tw5101102584584482926 tw8788064609957606860 tw11292639573795054890 tw2914750028307691094 tw1294417664656918263 tw4481233534542329042 tw9721527008008485783 tw3404859021043674809 tw4374398051314665500 tw17692769602436580861 tw11267513152083971635 tw5935838893540347715 tw15396985738882282697 tw9812768477108787703 tw2791012949616421766 tw11972687437399385064 tw6327604784481930628 tw16008524692296670473 tw9481296215872967844 tw597919841643201987 tw1172824085616142824 tw1724335815857276966 tw14037002563941413662 tw11987215385651392534 tw4760233116919308970 tw11128793772138378497 tw2689899574229172017 tw7789759562538504099 tw3035124396023081814 tw17901160982445953835 tw14422060581228167563 tw3735616994031234492 tw17369650752356657993 tw9124748429811317356 tw1452589882733332367 tw4410949659680837001 tw2622059814559262176 tw8789333262988025883 tw5891580868228502624 tw13717418043405592662 tw16213844581197412810 tw9604030783361978918 tw2381486459006980487 tw10452451206070621996 tw1402825564661294685 tw14494612622112523337 tw12035647861392010948 tw8206509257633827955 tw17506192820631933329 tw2799013292809950648 tw1400854960738854487 tw11196555809631539968 tw2079414453785340844 tw14086421969952465668 tw12146587469903505058 tw8818104327784373815 tw12100713745452046297 tw18030599510531106352 tw17372847907701549979 tw14141598946195398159 tw4990648327084200583 tw6609448108921094770 tw16169521981831309864 tw987979247948659287 tw2248877811355657654 tw3626822668341159012 tw17245461342230128717 tw16759487875115935369 tw13992801161296025392 tw4005478226232007655 tw5200156667597428263 tw4422314058081478174 tw12206932120409731846 tw17195071322762605550 tw7804005685628002744 tw16707655624179931662 tw14015842479378687098 tw14636474055095938296 tw13162063328234670777 tw2577797016926342857 tw2412100086923987423 tw6164445189268019467 tw3515021611160577293 tw14838640069847321010 tw1106198208689332009 tw863439810489070579 tw14809267962485720497 tw11499862533232172538 tw4090546299242680623 tw9457844170002503427 tw8652250041077082175 tw1079522806289695991 tw15266992587820569722 tw4530039306850657984 tw3421854444909822800 tw5818358988694737520 tw15193745412890617762 tw11549591228240507819 tw6913177656305749544 tw8440986900565098179 tw4240393677404536030 tw5321936757910418332 tw11136637164333110058 tw4688826881930447449 tw4316869825529676637 tw8076357449088415770 tw4436073502092143699 tw5110374355553147396 tw2193866277510531501 tw14949183592664046082 tw9207074083996687538 tw835831306920653213 tw1191584507160844192 tw9849945185113873431 tw4637690800534879650 tw1865105491539573777 tw5330059894784163419 tw16994226077879384777 tw1914658218959869259 tw6479535746983661742 tw8089754069496888059 tw16586498358781103400 tw17362239984149457466 tw15953150390333988294 tw11092596675799490417 tw281693188070799481 tw17710454604794447303 tw1822048577438435546 tw17235573024072095379 tw2519258531370940551 tw18294927310778059698 tw15156799275534715132 tw3446989177382869356 tw11909384084945230520 tw6822140738529975467 tw1598033556137975013 tw2128130704390875708 tw4737672627038818960 tw17460563560271823900 tw17594544264924149311 tw4665112307242497346 tw12566113821942617718 tw4096985685662702192 tw3905450748336550689 tw1209673312076876953 tw3669070983181607547 tw1896829064969822114 tw16331988254727451721 tw7766983259353145519 tw9994707168431154103 tw5862130029945620451 tw7275599482596184547 tw12470634872804455315 tw10447546014480537126 tw10706506697513432858 tw8767340528791357659 tw1313044621472721055 tw11044173660540794815 tw10312155321969473149 tw189281310358641642 tw1592991831227433795 tw17486428845419926023 tw5569515795087818420 tw17930669761261545441 tw11031026883038939657 tw1378850260208861619 tw7539583536145946843 tw991015528497927925 tw4389854992349043386 tw11682286175375029152 tw9470478018405349062 tw3922693877188215398 tw17314449360051182250 tw8377594589913243451 tw8518608126840838936 tw18070174983719515087 tw13802536949539265999 tw14129524125406496201 tw14010049431545882796 tw15443948190101691337 tw5024170685207860813 tw15701652841345998242 tw7953011430158570307 tw16392996633059395627 tw1003461174243342628 tw2452798861793756028 tw15777770182276212029 tw2141455991660342726 tw3088228713865506683 tw6958354604390622955 tw3888489226942162102 tw11687357146668843326 tw16922749403623818179 tw17257128890620282391 tw3629944834682348847 tw196019297631147201 tw8005202814903979951 tw2086705518981410361 tw7838878617125369645 tw4634469079670970585 tw12108508424291082037 tw11600023996872819582 tw5375535522353005496
end PySem.W.Fast
set_option maxRecDepth 100000 in
set_option maxHeartbeats 0 in
theorem PySem.Challenge.cw_crystalwords_k58_refused_in_order_holds : PySem.Challenge.rw_crystalwords_k58_refused_in_order.Holds := by
 w_on; o_law; k_head; (case hw=>w_witness2)
 k_fill
 refine L2.walkB (l:=PySem.Challenge.rw_crystalwords_k58_refused_in_order) (k:=19) (x := "_law_script") rfl rfl ⟨rfl,by decide,by decide⟩ (λ w h Y=>PySem.W.kIn_of Y) ?F
 case F =>
  intro w mg fa h KX G hmg
  have T:∃ t,Cw.Txt (L2.KOf KX) mg t:=by
   dsimp only [L2.KOf]
   refine' Cw.txt_mk KX G ?n_1d ?n_1i ?n_1m ?n_7 ?n_1z ?n_8 ?n_4 ?n_a ?n_1y ?n_1j ?n_1q ?n_1k ?n_1p ?n_1u ?n_25 ?n_21 ?n_c ?n_1h ?F_1h ?n_6 ?F_6 ?n_15 ?F_15 ?n_16 ?F_16 ?n_12 ?F_12 ?n_w ?F_w ?n_13 ?F_13 ?n_19 ?F_19 ?n_11 ?F_11 ?n_l ?F_l ?n_20 ?F_20 ?n_1e ?F_1e ?n_1t ?F_1t ?n_1b ?F_1b ?n_1 ?F_1 ?n_18 ?F_18 ?n_1g ?F_1g ?n_1n ?F_1n ?n_1a ?F_1a ?n_1v ?F_1v ?n_1w ?F_1w ?n_23 ?F_23 ?n_1r ?F_1r ?n_1l ?F_1l ?n_1x ?F_1x ?n_1c ?F_1c ?n_2 ?F_2 ?n_1o ?F_1o ?n_22 ?F_22 ?n_26 ?F_26 ?n_9 ?F_9 ?n_14 ?F_14 ?n_u ?F_u ?n_k ?F_k ?n_n ?F_n ?n_10 ?F_10 ?n_1f ?F_1f ?n_0 ?l_0 ?t_Group___init__ ?c_0 ?k_0 ?n_h ?F_h ?n_d ?F_d ?n_3 ?F_3 ?n_y ?F_y ?n_17 ?F_17 ?n_p ?F_p ?n_1s ?F_1s ?n_5 ?l_5 ?t_changed ?c_5 ?k_5 ?n_x ?F_x ?n_t ?F_t ?n_m ?F_m ?n_j ?F_j ?n_r ?F_r ?n_s ?F_s ?n_e ?F_e ?n_i ?F_i ?n_b ?F_b ?n_g ?F_g ?n_f ?F_f ?n_v ?F_v ?n_z ?F_z ?n_q ?F_q ?n_o ?F_o ?n_24 ?F_24 ?n_MOST_MEMBERS ?y_any ?y_sum ?y_zip ?y_enumerate ?y_range ?y_len ?y_abs ?y_isinstance ?y_int ?y_list ?y_tuple ?y_sorted ?y_dict ?y_min ?y_ValueError ?q_28 ?q_11 ?q_1j ?q_1k ?q_1l ?q_0 ?q_3 ?q_1m ?q_e ?q_4 ?q_f ?q_1 ?q_29 ?q_2a ?q_g ?q_h ?q_i ?q_2b ?q_2c ?q_1n ?q_j ?q_2 ?q_5 ?q_k ?q_12 ?q_nm ?q_2d ?q_2e ?q_2f ?q_2g ?q_2h ?q_2i ?q_l ?q_m ?q_13 ?q_14 ?q_1o ?q_6 ?q_1p ?q_1q ?q_15 ?q_24 ?q_16 ?q_1r ?q_n ?q_7 ?q_o ?q_cm ?q_2j ?q_2k ?q_2l ?q_2m ?q_2n ?q_2o ?q_p ?q_q ?q_17 ?q_18 ?q_1s ?q_8 ?q_1t ?q_1u ?q_19 ?q_25 ?q_1a ?q_1v ?q_r ?q_9 ?q_s ?q_km ?q_2p ?q_2q ?q_2r ?q_2s ?q_2t ?q_2u ?q_t ?q_u ?q_1b ?q_1c ?q_1w ?q_a ?q_1x ?q_1y ?q_1d ?q_26 ?q_1e ?q_1z ?q_v ?q_b ?q_w ?q_ym ?q_2v ?q_2w ?q_2x ?q_2y ?q_2z ?q_30 ?q_x ?q_y ?q_1f ?q_1g ?q_20 ?q_c ?q_21 ?q_22 ?q_1h ?q_27 ?q_1i ?q_23 ?q_z ?q_d ?q_10
   (case n_1d | n_1i | n_1m | n_7 | n_1z | n_8 | n_4 | n_a | n_1y | n_1j | n_1q | n_1k | n_1p | n_1u | n_25 | n_21 | n_c | n_1h | n_15 | n_16 | n_12 | n_w | n_13 | n_19 | n_11 | n_l | n_20 | n_1e | n_1t | n_1b | n_1 | n_18 | n_1g | n_1n | n_1a | n_1v | n_1w | n_23 | n_1r | n_1l | n_1x | n_1c | n_2 | n_1o | n_22 | n_26 | n_9 | n_14 | n_u | n_k | n_n | n_10 | n_1f | n_17 | n_p | n_1s | n_5 | n_x | n_t | n_m | n_j | n_r | n_s | n_e | n_i | n_b | n_g | n_f | n_v | n_z | n_q | n_o | n_24=>show _=_; k_is)
   (case n_6 | n_0 | l_0 | t_Group___init__ | c_0 | k_0 | n_h | n_d | n_3 | n_y | l_5 | t_changed | c_5 | k_5 | n_MOST_MEMBERS | y_any | y_sum | y_zip | y_enumerate | y_range | y_len | y_abs | y_isinstance | y_int | y_list | y_tuple | y_sorted | y_dict | y_min | y_ValueError | q_3 | q_1m | q_e | q_4 | q_f | q_2b | q_2c | q_1n | q_j | q_2d | q_2e | q_2f | q_2g | q_2h | q_2j | q_2k | q_2l | q_2m | q_2n | q_2p | q_2q | q_2r | q_2s | q_2t | q_2v | q_2w | q_2x | q_2y | q_2z=>show _=_; k_is)
   (case F_1h | F_6 | F_15 | F_16 | F_12 | F_w | F_13 | F_19 | F_11 | F_l | F_20 | F_1e | F_1t | F_1b | F_1 | F_18 | F_1g | F_1n | F_1a | F_1v | F_1w | F_23 | F_1r | F_1l | F_1x | F_1c | F_2 | F_1o | F_22 | F_26 | F_9 | F_14 | F_u | F_k | F_n | F_10 | F_1f | F_h | F_d | F_3 | F_y | F_17 | F_p | F_1s | F_x | F_t | F_m | F_j | F_r | F_s | F_e | F_i | F_b | F_g | F_f | F_v | F_z | F_q | F_o | F_24=>refine' L2.fun_mk ?l ?c ?k; (case l=>k_is); (case c=>k_is); (case k=>k_is))
   (case q_28 | q_29 | q_2a | q_2i | q_l | q_m | q_13 | q_14 | q_1o | q_6 | q_1p | q_1q | q_15 | q_24 | q_16 | q_1r | q_n | q_7 | q_o | q_2o | q_p | q_q | q_17 | q_18 | q_1s | q_8 | q_1t | q_1u | q_19 | q_25 | q_1a | q_1v | q_r | q_9 | q_s | q_2u | q_t | q_u | q_1b | q_1c | q_1w | q_a | q_1x | q_1y | q_1d | q_26 | q_1e | q_1z | q_v | q_b | q_w | q_30 | q_x | q_y | q_1f | q_1g | q_20 | q_c | q_21 | q_22 | q_1h | q_27 | q_1i | q_23 | q_z | q_d | q_10=>kit_is)
   (case q_11 | q_1j | q_i | q_k | q_12=>k_exc)
   (case q_1k | q_1l=>exact ⟨by k_is,by k_is,by k_is,by k_is⟩)
   (case q_0 | q_1 | q_2 | q_5=>exact ⟨by k_is,by k_is,by k_is⟩)
   (case q_g=>exact ⟨by kernel_rfl,by k_is,by kernel_rfl,by kernel_rfl⟩)
   (case q_h=>exact ⟨by k_is,by kernel_rfl,by k_is⟩)
   (case q_nm | q_cm | q_km | q_ym=>kts_exm)
  obtain ⟨t,T⟩:=T
  have e0:=hmg.symm.trans T.F_24.m
  cases e0
  exact ⟨t.d_24,T.bl,λ base kb nb=>Cw.ok_24 T⟩
#print axioms PySem.Challenge.cw_crystalwords_k58_refused_in_order_holds