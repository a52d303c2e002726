import PyProof.Rows.All
import Wide.All
import OpenK.AllK
import Wide.FinOn
import Lean
import PyProof.EqAt
import PyProof.EqKinds
import PyProof.TupleCall
import PySem.Challenge.RW_crystalwords_k62_leading
set_option Elab.async false
set_option linter.all false
set_option maxRecDepth 100000
local macro_rules | `(⋯)=>`(by omega)
local macro_rules | `(∅)=>`(by decide)
local macro_rules | `(nofun)=>`(by decide +kernel)
local macro_rules | `(tactic| ext)=>`(tactic| walk_at "r")
noncomputable section
theorem dLe{d k:Nat}(h:d=2\/d=3)(g:3≤k):d≤k:=by
 rcases h with h|h<;>rw[h]
 ·exact Nat.le_trans (by decide) g
 ·exact g
theorem eLe{x d k:Nat}(e:x=d)(h:d=2\/d=3)(g:3≤k):x≤k:=by rw[e];exact dLe h g
theorem eLt{x y k:Nat}(e:x=y)(g:k<y):k<x:=by rw[e];exact g
theorem iNn{x:Int}(h:0<x):¬x<0:=Int.not_lt.mpr (Int.le_of_lt h)
local macro_rules | `(tactic| omega)=>`(tactic| first | (with_reducible first | assumption | exact Int.ne_of_gt (by assumption) | exact iNn (by assumption) | exact Int.le_of_lt (by assumption) | exact eLt (by assumption) (by assumption) | exact dLe (by assumption) (by decide) | exact eLe (by assumption) (by assumption) (by decide) | exact Nat.le_trans (by assumption) (by decide) | exact Nat.lt_of_lt_of_le (by assumption) (by decide) | exact Nat.lt_of_le_of_lt (by assumption) (by decide) | exact Nat.le_trans (Nat.le_of_lt (by assumption)) (by decide) | exact Nat.le_of_lt (by assumption)) | decide | lia | omega +splitDisjunctions)
abbrev SP':=List Int×Int
abbrev LI':=List Int
abbrev PN:=List (PySem.Addr×PySem.Obj)
abbrev VP:=PySem.Value->PySem.Shared->Prop
abbrev LW:=List PySem.Value
abbrev LA:=List PySem.Addr
abbrev MT:=PySem.Str->Option PySem.Value
def zA:=@PySem.wpAny_bind
def zB:=@PySem.wpAny_pure
def zC:=@List.getElem?_map
def zD:=@PySem.Heap.get?_push_of_some
def zE:=@Nat.lt_of_lt_of_le
def zF:=@PyProof.Rows.wpS_bind
def zG:=@Nat.le_refl
def zH:=@PyProof.Rows.wpS_pure
def zI:=@if_neg
def zJ:=@if_pos
def zK:=@decide_eq_true
def zL:=@List.map_cons
def zM:=@List.mem_cons_of_mem
def zN:=@decide_eq_false
def zO:=@Array.length_toList
def zP:=@PySem.Heap.lt_size
def zQ:=@Bool.and_eq_true
def zR:=@Option.some.inj
def zS:=@Int.toNat_natCast
def zT:=@PySem.Heap.get?_push_size
def zU:=@List.mem_cons_self
def zV:=@List.size_toArray
def zW:=@Nat.pow_le_pow_right
def zX:=@List.length_append
def zY:=@List.length_cons
def zZ:=@PySem.W.mg_of
def yA:=@PyProof.Rows.mulOk_of_bits
def yB:=@Nat.ne_of_lt
def yC:=@List.mem_of_getElem?
def yD:=@List.getElem?_append_right
def yE:=@Ne.symm
def yF:=@Bool.false_ne_true
def yG:=@Nat.lt_of_le_of_lt
def yH:=@List.length_zipWith
def yI:=@List.cons.injEq
def yJ:=@List.mem_append_right
def yK:=@List.getElem?_zipWith
def yL:=@Nat.le_trans
def yM:=@of_decide_eq_true
def yN:=@Array.toList_append
def yO:=@List.getElem?_range
def yP:=@List.length_map
def yQ:=@LawfulBEq.eq_of_beq
def yR:=@List.append_assoc
def yS:=@PySem.PassesOwn.never
def yT:=@List.getElem?_append_left
def yU:=@Nat.zero_le
def yV:=@List.zipWith_cons_cons
def yW:=@List.length_take
def yX:=@Int.mul_pos
def yY:=@PySem.W.mg_none_of
def yZ:=@Array.getElem?_toList
def xA:=@Int.natAbs_mul
def xB:=@Nat.lt_irrefl
def xC:=@List.all_cons
def xD:=@List.map_append
def xE:=@List.mem_cons
def xF:=@List.lookup_cons
def xG:=@Int.eq_ofNat_of_zero_le
def xH:=@PyProof.Rows.wpS_forRange
def xI:=@PySem.wpAny_newObj_type
def xJ:=@PySem.wpAny_mono
def xK:=@PySem.W.kia_one
def xL:=@List.getElem_mem
def xM:=@List.ext_getElem
def xN:=@List.getElem?_eq_getElem
def xO:=@List.length_replicate
def xP:=@Int.fmod_eq_emod_of_nonneg
def xQ:=@PySem.wpAny_holding
def xR:=@Nat.le_of_lt
def xS:=@PySem.wpAny_call_entry
def xT:=@List.getElem_of_mem
def xU:=@List.take_append_drop
def xV:=@List.map_map
def xW:=@PySem.Heap.size_push
def xX:=@PySem.wpAny_field
def xY:=@PySem.wpAny_callSpecial?_slot
def xZ:=@PySem.IntMulOk.of_left
def wA:=@List.mem_append_left
def wB:=@PySem.F.excBase_ValueError
def wC:=@congrArg
def wD:=@PySem.wpAny_seqItems
def wE:=@Nat.mul_le_mul_right
def wF:=@List.getElem?_of_mem
def wG:=@Nat.mul_le_mul
def wH:=@PyProof.Rows.wpS_mono
def wI:=@PySem.F.slot_dict_keyiterator_next
def wJ:=@PySem.IntMulOk.of_right
def wK:=@List.foldl_cons
def wL:=@List.replicate_succ
def wM:=@Nat.zero_add
def wN:=@List.take_of_length_le
def wO:=@PySem.intBits_le_64
def wP:=@PySem.wpAny_rule
def wQ:=@PyProof.Rows.wpS_modify
def wR:=@Int.mul_comm
def wS:=@List.eq_of_mem_replicate
def wT:=@Nat.min_self
def wU:=@PySem.wpAny_typeNameOfWhole_keyiter
def wV:=@PySem.Heap.SameBut.update
def wW:=@PySem.mem_of_lookup
def wX:=@List.map_congr_left
def wY:=@List.getElem_map
def wZ:=@Nat.pow_add
def vA:=@PySem.wpAny_setField_rec
def vB:=@PyProof.Rows.callWith_type1
def vC:=@Int.le_of_lt
def vD:=@PySem.Heap.get?_update_self
def vE:=@List.perm_append_comm
def vF:=@Nat.two_pow_pos
def vG:=@List.append_nil
def vH:=@PySem.wpAny_passesOwn
def vI:=@List.getElem?_eq_none
def vJ:=@PySem.F.slot_tuple_iterator_next
def vK:=@PySem.wpAny_attempt
def vL:=@List.eraseIdx_append_of_length_le
def vM:=@List.all_eq_true
def vN:=@PySem.F.slot_list_append
def vO:=@List.length_drop
def vP:=@Int.dvd_refl
def vQ:=@PySem.F.type_list_append
def vR:=@PySem.wpAny_typeNameOf_keyiter
def vS:=@List.take_length
def vU:=@PySem.wpAny_isInstance
def vV:=@List.zipIdx_cons
def vW:=@List.getElem?_replicate
def vX:=@PySem.F.plainAttrs_list
def vY:=@List.forIn_cons
def vZ:=@PySem.wpAny_loadPart'
def uA:=@PySem.wpAny_pyIter_tuple
def uB:=@Int.one_mul
def uC:=@Int.fmod_nonneg_of_pos
def uD:=@PySem.Heap.get?_update_other
def uE:=@Int.mul_one
def uF:=@Array.toList_push
def uG:=@PySem.wpAny_truthy_bool
def uH:=@List.any_eq_false
def uI:=@List.foldl_append
def uJ:=@Int.natAbs_add_le
def uK:=@List.cons_lt_cons_iff
def uL:=@Nat.lt_or_ge
def uM:=@PyProof.Rows.wpS_get
def uN:=@List.Pairwise.sublist
def uO:=@PySem.Around.under_plainId
def uP:=@Array.toList_reverse
def uQ:=@PySem.W.looks_findIn
def uR:=@List.getD_eq_getElem?_getD
def uS:=@List.any_cons
def uT:=@PySem.wpAny_standAt
def uU:=@List.eraseIdx_of_length_le
def uV:=@List.filterMap_cons
def uW:=@List.drop_eq_getElem_cons
def uX:=@PySem.codeAny_builtin
def uY:=@List.mem_or_eq_of_mem_set
def uZ:=@Int.fdiv_one
def tD:=@PySem.wpAny_typeOf
def tE:=@List.getElem?_drop
def tF:=@Int.zero_mul
def tG:=@PySem.SeqAt.Reads.unique
def tH:=@Int.fmod_lt_of_pos
def tI:=@PySem.Obj.data_mapFields
def tJ:=@Nat.sub_self
def tK:=@of_decide_eq_false
def tL:=@PySem.wpAny_Call_Name_kw
def tM:=@List.mem_of_mem_eraseIdx
def tN:=@List.take_zero
def tO:=@Int.mul_le_mul
def tP:=@List.take_add_one
def tQ:=@PySem.wpAny_pyIter_list
def tR:=@List.flatten_cons
def tS:=@List.drop_sublist
def tU:=@Nat.log2_lt
def tV:=@List.drop_eq_nil_of_le
def tW:=@PyProof.Rows.subscriptTail_builtinR
def tX:=@List.getElem?_set_self
def tY:=@PySem.Paired.snoc
def tZ:=@Nat.add_assoc
def sD:=@Nat.lt_succ_self
def sE:=@List.reverse_nil
def sF:=@Nat.mul_lt_mul''
def sG:=@List.Perm.append_left
def sH:=@List.getElem?_reverse
def sI:=@List.of_mem_zip
def sJ:=@List.getElem?_zipIdx
def sK:=@PySem.F.slot_zip_next
def sL:=@Nat.ne_of_gt
def sQ:=@Nat.le_of_eq
def sT:=@PySem.wpAny_execs_nil
def sU:=@PySem.Calls.evalArgs_plain
def sV:=@List.mem_of_mem_take
def sW:=@List.length_eraseIdx
def sZ:=@List.nodup_cons
def rA:=@Nat.succ_mul
def rB:=@PySem.wpAny_updateSeq_pair
def rC:=@PySem.W.plainGet_of
def rD:=@PyProof.Rows.wpS_lift
def rE:=@PySem.wpAny_setField
def rF:=@List.map_id
def rG:=@PyProof.Rows.assignInOrder_cons
def rH:=@PySem.wpAny_tupleItemsOf
def rJ:=@List.zip_cons_cons
def rK:=@Array.size_extract
def rL:=@PySem.W.callWith_K
def rM:=@PySem.wpAny_onRaise
def rN:=@List.take_add
def rO:=@PySem.plainId_quiet
def rP:=@Nat.lt_succ_of_lt
def rQ:=@List.reverse_perm
def rR:=@Nat.le_of_succ_le
def rS:=@PySem.wpAny_dictEntries
def rT:=@PySem.codeAny_mono
def rV:=@Int.fmod_def
def rW:=@Nat.mul_comm
def rX:=@Nat.le_add_right
def rY:=@PySem.wpAny_pyHash_int
def rZ:=@Nat.not_lt_zero
def qB:=@PySem.wpAny_dictEpoch
def qC:=@PySem.pushCells_keeps
def qD:=@Int.mul_dvd_mul
def qE:=@List.drop_drop
def qF:=@Int.natAbs_neg
def qG:=@PySem.isSubtype_stop
def qH:=@Int.le_trans
def qI:=@Int.gcd_comm
def qJ:=@Nat.pow_succ
def qK:=@PySem.seqIndex_neg
def qL:=@Int.zero_add
def qM:=@Int.neg_mul
def qN:=@Int.dvd_add
def qO:=@Int.mul_sub
def qP:=@Nat.le_succ
def qQ:=@Int.dvd_sub
def qR:=@dif_pos
def qT:=@beq_iff_eq
def qU:=@beq_eq_false_iff_ne
def qV:=@List.mem_singleton
def qW:=@List.mem_map
def qX:=@Int.dvd_neg
def qZ:=@decide_eq_decide
def pC:=@List.mem_range
def pE:=@List.mem_reverse
def pF:=@List.not_lt
def pG:=@List.getElem?_eq_some_iff
def pH:=@List.mem_append
def pI:=@List.mem_flatMap
def pJ:=@List.pairwise_append
namespace L2
open PySem PySem.Spec PyProof.Rows
open PySem.W (Frag)
abbrev Key:=Sum Int Str
noncomputable def Do:Key->Value->Bool
 |.inl k,v=>Value.isInt k v
 |.inr x,v=>Value.isStrOf x v
noncomputable def keyH(w:World):Key->Int
 |.inl k=>hashInt k
 |.inr x=>hashStr w x
theorem jO:∀{k:Key}{v:Value},Do k v=true->(∃i t,k=Sum.inl i/\v=Value.int i t)\/(∃x t,k=Sum.inr x/\v=Value.str x t)
 |.inl i,v,h=>by
  obtain⟨t,e⟩:=Value.isInt_shape (k:=i) (v:=v) h;exact .inl ⟨i,t,rfl,e⟩
 |.inr x,v,h=>by
  obtain⟨t,e⟩:=Value.isStrOf_shape (x:=x) (v:=v) h;exact .inr ⟨x,t,rfl,e⟩
theorem Kt(a b:Int):decide ((Sum.inl a:Key)=Sum.inl b)=(a == b):=by
 by_cases e:a=b
 ·subst e;simp
 ·have h:¬ (Sum.inl a:Key)=Sum.inl b:=λq=>e (Sum.inl.inj q);rw[zN h];exact(qU.mpr e).symm
theorem Ks(a b:Str):decide ((Sum.inr a:Key)=Sum.inr b)=decide (a=b):=by
 by_cases e:a=b
 ·subst e;simp
 ·have h:¬ (Sum.inr a:Key)=Sum.inr b:=λq=>e (Sum.inr.inj q);rw[zN h,zN e]
theorem Kr(a:Int)(b:Str):decide ((Sum.inl a:Key)=Sum.inr b)=false:=zN (λq=>nomatch q)
theorem Kq(a:Str)(b:Int):decide ((Sum.inr a:Key)=Sum.inl b)=false:=zN (λq=>nomatch q)
noncomputable def Dm(prog:Program)(w:World):PySem.KeyKind prog w Key where
 is:=Do
 hash:=keyH w
 inj:=λv a b ha hb=>by
  rcases jO ha with⟨i,t,rfl,rfl⟩|⟨x,t,rfl,rfl⟩
  ·rcases jO hb with⟨j,u,rfl,e⟩|⟨y,u,rfl,e⟩
   ·injection e with e1 _;rw[e1]
   ·exact nomatch e
  ·rcases jO hb with⟨j,u,rfl,e⟩|⟨y,u,rfl,e⟩
   ·exact nomatch e
   ·injection e with e1 _;rw[e1]
 byValue:=λk v h=>by
  rcases jO h with⟨i,t,rfl,rfl⟩|⟨x,t,rfl,rfl⟩ <;> rfl
 pyHash:=λhv h=>by
  rcases jO hv with⟨i,t,rfl,rfl⟩|⟨x,t,rfl,rfl⟩
  ·exact rY h
  ·exact wpAny_pyHash_str h
 eqBool:=λhu hv h=>by
  rcases jO hu with⟨i,t,rfl,rfl⟩|⟨x,t,rfl,rfl⟩
  ·rcases jO hv with⟨j,u,rfl,rfl⟩|⟨y,u,rfl,rfl⟩
   ·rw[Kt]at h;exact wpAny_eqBool_int h
   ·rw[Kr]at h;exact SeqAt.EqAt.int_str i t y u _ _ _ _ h
  ·rcases jO hv with⟨j,u,rfl,rfl⟩|⟨y,u,rfl,rfl⟩
   ·rw[Kq]at h;exact SeqAt.EqAt.str_int x t j u _ _ _ _ h
   ·rw[Ks]at h;exact wpAny_eqBool_str h
 «strs»:=λk x t v h=>by
  rcases jO h with⟨i,u,rfl,e⟩|⟨y,u,rfl,e⟩
  ·exact nomatch e
  ·injection e with e1 _;subst e1;cases v <;> rfl
inductive V where
 |non|bl(b:Bool)|int(i:Int)|str(x:Str)|byt(b:Array UInt8)|flt(b:UInt64)|ref(a:Addr)|ty(n:String)
 deriving DecidableEq
def RelV:V->Value->Prop
 |.non,u=>u=Value.none
 |.bl b,u=>u=Value.bool b
 |.int i,u=>∃t,u=Value.int i t
 |.str x,u=>∃t,u=Value.str x t
 |.byt b,u=>∃t,u=Value.bytes b t
 |.flt b,u=>∃t,u=Value.float b t
 |.ref a,u=>u=Value.ref a
 |.ty n,u=>u=Value.type n
abbrev Vals:List V->LW->Prop:=Paired RelV
theorem Vals.length{xs:List V}{us:LW}(r:Vals xs us):xs.length=us.length:=Paired.length r
theorem Vals.get:∀{xs:List V}{us:LW}{i:Nat}{x:V},Vals xs us->xs[i]?=some x->∃u,us[i]?=some u/\RelV x u
 |_,_,_,_,.nil,e=>by simp at e
 |_,_,0,_,.cons r _,e=>by simp at e;subst e;exact⟨_,rfl,r⟩
 |_,_,i+1,x,.cons _ t,e=>by
  obtain⟨u,h1,h2⟩:=Vals.get (i:=i) (x:=x) t (by simpa using e);exact⟨u,by simpa using h1,h2⟩
theorem Vals.set{x:V}{u:Value}(r:RelV x u):∀{xs:List V}{us:LW}(i:Nat),Vals xs us->Vals (xs.set i x) (us.set i u)
 |_,_,_,.nil=>.nil
 |_,_,0,.cons _ t=>.cons r t
 |_,_,i+1,.cons q t=>.cons q (Vals.set r i t)
theorem Vals.append:∀{xs ys:List V}{us ws:LW},Vals xs us->Vals ys ws->Vals (xs++ys) (us++ws)
 |_,_,_,_,.nil,s=>s
 |_,_,_,_,.cons r t,s=>.cons r (Vals.append t s)
theorem Vals.take:∀{xs:List V}{us:LW}(n:Nat),Vals xs us->Vals (xs.take n) (us.take n)
 |_,_,0,_=>.nil
 |_,_,_+1,.nil=>.nil
 |_,_,n+1,.cons r t=>.cons r (Vals.take n t)
theorem Vals.drop:∀{xs:List V}{us:LW}(n:Nat),Vals xs us->Vals (xs.drop n) (us.drop n)
 |_,_,0,r=>r
 |_,_,_+1,.nil=>.nil
 |_,_,n+1,.cons _ t=>Vals.drop n t
theorem Vals.none_of:∀{xs:List V}{us:LW}{i:Nat},Vals xs us->xs[i]?=none->us[i]?=none:=λ{xs us i}r e=>by
 have h1:=r.length;have h2:xs.length<=i:=List.getElem?_eq_none_iff.mp e;exact List.getElem?_eq_none_iff.mpr ⋯
def RelO:Option V->Option Value->Prop
 |some v,some u=>RelV v u
 |none,none=>True
 |_,_=>False
def KV{κ:Type}:List (κ×V)->List (κ×Value)->Prop:=Paired λ(p:κ×V)(q:κ×Value)=>p.1=q.1/\RelV p.2 q.2
noncomputable def kV:Key->V
 |.inl i=>.int i
 |.inr x=>.str x
inductive HO where
  |lst(xs:List V)
  |tup(xs:List V)
  |dK(kvs:List (Key×V))|dT(kvs:List (List Key×V))
  |set(S:Int->Bool)(n:Nat)
  |ins(C dx:Addr)(fs:List (Str×V))
  |own(x:Addr)
  |xd(fs:List (Str×V))
  |met(f x:Addr)
  |rng(lo hi:Int)
  |frz(o:Obj)(u:HO)
  |tbl(ps:Array Value)
  |ext(φ:Heap->Prop)
abbrev Hp:=Addr->Option HO
noncomputable def upd(H:Hp)(a:Addr)(o:HO):Hp:=λb=>if b=a then some o else H b
theorem pV{H:Hp}{a:Addr}{o:HO}:upd H a o a=some o:=by unfold upd;rw[zJ rfl]
theorem oE{H:Hp}{a b:Addr}{o:HO}(h:b≠a):upd H a o b=H b:=by unfold upd;rw[zI h]
theorem nK{H:Hp}{a b:Addr}{o:HO}(h:H a=some o)(h':H b=none):a≠b:=by
 intro e;subst e;rw[h]at h';cases h'
section
variable (P:Program) (w:World)
def nO(H:Hp)(h:Heap)(a:Addr):HO->Prop
 |.lst xs=>xs.length<=sizeLine/\∃(its:LW)(n:Nat),Vals xs its/\h.get? a=some {cls:=.type "list",data:=.seq its.toArray n}
 |.tup xs=>xs.length<=sizeLine/\∃its:LW,Vals xs its/\IsTup h a its.toArray
 |.dK kvs=>kvs.length<=sizeLine/\(a == sysModules)=false/\∃vs,KV kvs vs/\h.DictOf (Dm P w) a vs
 | .dT kvs=>kvs.length<=sizeLine/\(a == sysModules)=false/\∃xs:List (List Key×Addr×Value),
   Paired (λ(p:List Key×V)(q:List Key×Addr×Value)=>p.1=q.1/\H q.2.1=some (.tup (p.1.map kV))/\RelV p.2 q.2.2) kvs xs /\
   ∃o es ep,h.get? a=some o/\o.ExactDict/\o.data=.dict es ep/\es.toList=xs.map (entryOfKey (tupleKind (Dm P w)))/\(xs.map (·.1)).Nodup
 |.set S n=>h.SetOf (intKind P w) a S n
 | .ins C dx fs=>H dx=some (.own a)/\fs.length<=1000/\dx≠a/\h.get? a=some (PySem.W.instObj C dx) /\
   ∃mA,h.Ns1 dx mA/\(∀f,RelO (fs.lookup f) (mA f))/\PySem.Within mA (fs.map (·.1))
 |.own _=>∃o,h.get? a=some o
 |.xd fs=>∃mA,h.Ns1 a mA/\∀f,RelO (fs.lookup f) (mA f)
 |.rng lo hi=>∃t u v,h.get? a=some {cls:=.type "range",data:=.fields #[.int lo t,.int hi u,.int 1 v]}
 |.frz o u=>h.get? a=some o/\nO H h a u
 |.tbl ps=>h.get? a=some {cls:=.none,data:=.fields ps}
 |.met f x=>h.get? a=some (PySem.W.methodObj (.ref f) (.ref x))
 |.ext φ=>φ h/\(∃o,h.get? a=some o)/\∀h1 h2:Heap,φ h1->(∀o,h1.get? a=some o->h2.get? a=some o)->φ h2
def HOk(H:Hp)(h:Heap):Prop:=∀a o,H a=some o->nO P w H h a o
end
section
variable {P:Program} {w:World} {H H':Hp} {h h':Heap} {a:Addr} {o:HO}
theorem nO.lt(x:nO P w H h a o):a<h.objs.size:=by
 cases o with
 |lst xs=>obtain⟨_,_,_,_,e⟩:=x;exact zP e
 |tup xs=>obtain⟨_,_,_,p⟩:=x;exact p.lt
 |dK kvs=>obtain⟨_,_,_,_,o,_,_,e,_⟩:=x;exact zP e
 |dT kvs=>obtain⟨_,_,_,_,o,_,_,e,_⟩:=x;exact zP e
 |set S n=>obtain⟨o,_,_,_,e,_⟩:=x;exact zP e
 |ins C dx fs=>obtain⟨_,_,_,e,_⟩:=x;exact zP e
 |own y=>obtain⟨_,e⟩:=x;exact zP e
 |xd fs=>obtain⟨_,⟨_,_,_,e,_⟩,_⟩:=x;exact zP e
 |rng lo hi=>obtain⟨_,_,_,e⟩:=x;exact zP e
 |frz ob u=>obtain⟨e,_⟩:=x;exact zP e
 |tbl ps=>exact zP (show h.get? a=some _ from x)
 |met f y=>exact zP (show h.get? a=some _ from x)
 |ext φ=>obtain⟨_,⟨_,e⟩,_⟩:=x;exact zP e
theorem Paired.mapP{α β:Type}{F G:α->β->Prop}:∀{l₁:List α}{l₂:List β},Paired F l₁ l₂->(∀a b,F a b->G a b)->Paired G l₁ l₂
 |_,_,.nil,_=>.nil
 |_,_,.cons r t,f=>.cons (f _ _ r) (Paired.mapP t f)
theorem nO.stay(x:nO P w H h a o)(k:∀b u,(b=a\/H b=some (.own a))->h.get? b=some u->h'.get? b=some u)
  (ho:∀b,H b=some (.own a)->H' b=some (.own a))(ht:∀b xs,H b=some (.tup xs)->H' b=some (.tup xs)):nO P w H' h' a o:=by
 induction o with
 |lst xs=>obtain⟨z,its,n,r,e⟩:=x;exact⟨z,its,n,r,k _ _ (.inl rfl) e⟩
 |tup xs=>obtain⟨z,its,r,ob,e,c⟩:=x;exact⟨z,its,r,ob,k _ _ (.inl rfl) e,c⟩
 |dK kvs=>obtain⟨z,y,vs,r,ob,es,ep,e,c⟩:=x;exact⟨z,y,vs,r,ob,es,ep,k _ _ (.inl rfl) e,c⟩
 |dT kvs =>
  obtain⟨z,y,xs,r,ob,es,ep,e,c⟩:=x;exact⟨z,y,xs,Paired.mapP r λp q z=>⟨z.1,ht _ _ z.2.1,z.2.2⟩,ob,es,ep,k _ _ (.inl rfl) e,c⟩
 |set S n=>obtain⟨ob,es,ep,t,e,c⟩:=x;exact⟨ob,es,ep,t,k _ _ (.inl rfl) e,c⟩
 |ins C dx fs =>
  obtain⟨d,z,ne,e,mA,⟨od,es,ep,e2,c⟩,r⟩:=x;exact⟨ho _ d,z,ne,k _ _ (.inl rfl) e,mA,⟨od,es,ep,k _ _ (.inr d) e2,c⟩,r⟩
 |own y=>obtain⟨ob,e⟩:=x;exact⟨ob,k _ _ (.inl rfl) e⟩
 |xd fs=>obtain⟨mA,⟨od,es,ep,e,c⟩,r⟩:=x;exact⟨mA,⟨od,es,ep,k _ _ (.inl rfl) e,c⟩,r⟩
 |rng lo hi=>obtain⟨t,u,v,e⟩:=x;exact⟨t,u,v,k _ _ (.inl rfl) e⟩
 |frz ob u ih=>obtain⟨e,q⟩:=x;exact⟨k _ _ (.inl rfl) e,ih q⟩
 |tbl ps =>
  have e:h.get? a=some {cls:=.none,data:=.fields ps}:=x;show h'.get? a=some {cls:=.none,data:=.fields ps};exact k a _ (.inl rfl) e
 |met f y =>
  have e:h.get? a=some (PySem.W.methodObj (.ref f) (.ref y)):=x;show h'.get? a=some (PySem.W.methodObj (.ref f) (.ref y));exact k a _ (.inl rfl) e
 |ext φ=>obtain⟨p,⟨o,e⟩,st⟩:=x;exact⟨st _ _ p λo q=>k _ _ (.inl rfl) q,⟨o,k _ _ (.inl rfl) e⟩,st⟩
theorem HOk.lt(x:HOk P w H h)(e:H a=some o):a<h.objs.size:=(x a o e).lt
theorem HOk.fresh(x:HOk P w H h)(e:h.objs.size<=a):H a=none:=by
 cases q:H a with
 |none=>rfl
 |some u=>exact absurd (zE (x.lt q) e) (xB _)
theorem HOk.kept(x:HOk P w H h)(k:∀b u,h.get? b=some u->h'.get? b=some u):HOk P w H h':=λa o e =>
 (x a o e).stay (λb u _ q=>k b u q) (λ_ q=>q) λ_ _ q=>q
theorem HOk.laid(x:HOk P w H h)(k:∀b u,h.get? b=some u->h'.get? b=some u)(hp:h.objs.size<=a)(new:nO P w (upd H a o) h' a o):HOk P w (upd H a o) h':=λb u e=>by
 have hn:=x.fresh hp
 by_cases hb:b=a
 ·subst hb;rw[pV]at e;cases e;exact new
 ·rw[oE hb]at e;exact(x b u e).stay (λc v _ q=>k c v q) (λc q=>by rw[oE (nK q hn)];exact q) λc xs q=>by rw[oE (nK q hn)];exact q
end
def Rd(H:Hp)(a:Addr)(u:HO):Prop:=H a=some u\/∃o,H a=some (.frz o u)
theorem Rd.ok{P:Program}{w:World}{H:Hp}{h:Heap}{a:Addr}{u:HO}(r:Rd H a u)(x:HOk P w H h):nO P w H h a u:=by
 rcases r with r|⟨o,r⟩
 ·exact x a u r
 ·obtain⟨_,q⟩:=x a _ r;exact q
def Mut:Option HO->Prop
 |some (.lst _)=>True
 |some (.dK _)=>True
 |some (.dT _)=>True
 |some (.set _ _)=>True
 |some (.ins _ _ _)=>True
 |some (.ext _)=>True
 |_=>False
section
variable {P:Program} {w:World} {H:Hp} {h h':Heap} {x e:Addr} {o':HO}
theorem HOk.write(ok:HOk P w H h)(mu:Mut (H x))(he:e=x\/H e=some (.own x))(k:∀b u,b≠e->h.get? b=some u->h'.get? b=some u)(heo:∃u,h'.get? e=some u)
  (new:nO P w (upd H x o') h' x o'):HOk P w (upd H x o') h':=λb u q=>by
 have nown:∀c y,H c=some (.own y)->c≠x:=λc y r z=>by subst z;rw[r]at mu;exact mu
 have ntup:∀c xs,H c=some (.tup xs)->c≠x:=λc xs r z=>by subst z;rw[r]at mu;exact mu
 by_cases hb:b=x
 ·subst hb;rw[pV]at q;cases q;exact new
 ·rw[oE hb]at q
  by_cases hbe:b=e
  ·have q':H b=some (.own x):=by
    rcases he with z|z
    ·exact absurd (hbe.trans z) hb
    ·rw[hbe];exact z
   rw[q]at q';cases q';obtain⟨v,hv⟩:=heo;exact⟨v,by rw[hbe];exact hv⟩
  ·refine(ok b u q).stay (λc v hc r=>k c v ?_ r) (λc r=>by rw[oE (nown c b r)];exact r) λc xs r=>by rw[oE (ntup c xs r)];exact r
   rcases hc with rfl|hc
   ·exact hbe
   ·rintro rfl;rcases he with z|z
    ·exact nown c b hc z
    ·rw[hc]at z;cases z;exact hb rfl
end
structure Un(fs ex:LA)(H H':Hp)(h h':Heap):Prop where
 keep:∀b o,h.get? b=some o->H b=none->b∉fs->b∉ex->h'.get? b=some o
 slot:∀b o,h.get? b=some o->H b=none->b∈fs->b∉ex->∃sl,h'.get? b=some {o with slots:=sl}
 free:∀b o,h.get? b=some o->H b=none->b∉ex->H' b=none
 there:∀b o,h.get? b=some o->b∉ex->∃o',h'.get? b=some o'
 tups:∀b xs,H b=some (.tup xs)->H' b=some (.tup xs)
 frzs:∀b o u,H b=some (.frz o u)->H' b=some (.frz o u)
 tbls:∀b ps,H b=some (.tbl ps)->∃more,H' b=some (.tbl (ps++more))
section
variable {fs fs' ex ex':LA} {H H1 H2:Hp} {h h1 h2 h':Heap} {a x e:Addr} {o:HO}
theorem Un.any(u:Un fs ex H H1 h h1){b:Addr}{ob:Obj}(q:h.get? b=some ob)(n:H b=none)(hx:b∉ex):∃sl,h1.get? b=some {ob with slots:=sl}:=by
 by_cases hb:b∈fs
 ·exact u.slot b ob q n hb hx
 ·exact⟨ob.slots,u.keep b ob q n hb hx⟩
theorem Un.trans(a:Un fs ex H H1 h h1)(b:Un fs ex H1 H2 h1 h2):Un fs ex H H2 h h2 where
 keep:=λc ob q n hc hx=>b.keep c ob (a.keep c ob q n hc hx) (a.free c ob q n hx) hc hx
 slot:=λc ob q n hc hx=>by
  obtain⟨sl,e1⟩:=a.slot c ob q n hc hx;obtain⟨sl',e2⟩:=b.slot c _ e1 (a.free c ob q n hx) hc hx;exact⟨sl',e2⟩
 free:=λc ob q n hx=>by
  obtain⟨o',e1⟩:=a.there c ob q hx;exact b.free c o' e1 (a.free c ob q n hx) hx
 there:=λc ob q hx=>by
  obtain⟨o',e1⟩:=a.there c ob q hx;exact b.there c o' e1 hx
 tups:=λc xs q=>b.tups c xs (a.tups c xs q)
 frzs:=λc ob xs q=>b.frzs c ob xs (a.frzs c ob xs q)
 tbls:=λc ps q=>by
  obtain⟨m1,e1⟩:=a.tbls c ps q;obtain⟨m2,e2⟩:=b.tbls c _ e1;exact⟨m1++m2,by rw[e2,Array.append_assoc]⟩
theorem Un.kept(k:∀b u,h.get? b=some u->h'.get? b=some u):Un fs ex H H h h':=
 ⟨λb ob q _ _ _=>k b ob q,λb ob q _ _ _=>⟨ob.slots,k b ob q⟩,λ_ _ _ n _=>n,λb ob q _=>⟨ob,k b ob q⟩,λ_ _ q=>q,λ_ _ _ q=>q,λ_ ps q=>⟨#[],by rw[q];simp⟩⟩
theorem Un.refl:Un fs ex H H h h:=Un.kept λ_ _ q=>q
theorem Un.laid(k:∀b u,h.get? b=some u->h'.get? b=some u)(hp:h.objs.size<=a)(hn:H a=none):Un fs ex H (upd H a o) h h' where
 keep:=λb u q _ _ _=>k b u q
 slot:=λb u q _ _ _=>⟨u.slots,k b u q⟩
 free:=λb u q n _=>by rw[oE (yB (zE (zP q) hp))];exact n
 there:=λb u q _=>⟨u,k b u q⟩
 tups:=λb xs q=>by rw[oE (nK q hn)];exact q
 frzs:=λb u xs q=>by rw[oE (nK q hn)];exact q
 tbls:=λb ps q=>⟨#[],by rw[oE (nK q hn),q];simp⟩
theorem Un.write(mu:Mut (H x))(he:e=x\/H e=some (.own x))(k:∀b u,b≠e->h.get? b=some u->h'.get? b=some u)(heo:∃u,h'.get? e=some u):Un fs ex H (upd H x o) h h':=by
 have hx:∀b,H b=none->b≠x:=λb n z=>by subst z;rw[n]at mu;exact mu
 have hb:∀b,H b=none->b≠e:=λb n z=>by
  subst z;rcases he with r|r
  ·exact hx b n r
  ·rw[n]at r;cases r
 have hm:∀b u,H b=some u->¬ Mut (some u)->b≠x:=λb u q nm z=>by subst z;rw[q]at mu;exact nm mu
 refine⟨λb u q n _ _=>k b u (hb b n) q,λb u q n _ _=>⟨u.slots,k b u (hb b n) q⟩,λb u q n _=>by rw[oE (hx b n)];exact n,λb u q _=>?_,
  λb xs q=>by rw[oE (hm b _ q λz=>z)];exact q,λb u xs q=>by rw[oE (hm b _ q λz=>z)];exact q,λb ps q=>⟨#[],by rw[oE (hm b _ q λz=>z),q];simp⟩⟩
 by_cases hbe:b=e
 ·subst hbe;exact heo
 ·exact⟨u,k b u hbe q⟩
end
noncomputable def trk(h:Heap)(H:Hp):LA:=(List.range h.objs.size).filter λa=>(H a).isSome
noncomputable def hidT(h:Heap)(H:Hp):Heap:=PySem.W.hideAll h (trk h H)
theorem Ko(h:Heap)(H:Hp):(hidT h H).objs.size=h.objs.size:=PySem.W.hideAll_size _ _
theorem Kn{h:Heap}{H:Hp}{b:Addr}{o:Obj}(e:h.get? b=some o)(n:H b=none):(hidT h H).get? b=some o:=
 PySem.W.hideAll_get _ e λhm=>by
  have q:(H b).isSome=true:=(List.mem_filter.mp hm).2;rw[n]at q;simp at q
theorem Km{h:Heap}{H:Hp}{b:Addr}{o:Obj}(e:(hidT h H).get? b=some o):h.get? b=some o/\H b=none:=by
 have e':h.get? b=some o:=PySem.W.of_hideAll (trk h H) e;refine⟨e',?_⟩;cases q:H b with
 |none=>rfl
 |some x =>
  have hm:b∈trk h H:=List.mem_filter.mpr ⟨pC.mpr (zP e'),by simp[q]⟩;have z:(hidT h H).get? b=none:=PySem.W.hideAll_none (trk h H) hm;rw[z]at e;cases e
noncomputable def Kl(g h:Heap)(L:Addr):PN:=(List.range h.objs.size).filterMap λa=>if a=L\/(g.get? a).isSome=true then none else(h.get? a).map λo=>(a,o)
noncomputable def rest(g h:Heap)(L d:Addr):PN:=(Kl g h L).filter λp=>decide (p.1≠d)
structure Mod(K:Frag)(mg:MT)(base:Heap):Prop where
 kin:K.In base
 glob:base.Ns mainGlobals mg
 blt:∃mb,base.Ns builtinsNs mb/\∀x:Str,x≠"__name__" -> mb x=bootBuiltins x
 nolimit:base.NoLimit
structure Cx where
 prog:Program
 w:World
 K:Frag
 mg:MT
 base:Heap
 A:Around
 N:List Str
 s₀:Shared
 H₀:Hp
 env:Env
 outer:List Env
 stack:List Env
 ex:LA
 fn:Str->Bool
 calm:Bool
 pn:PN
 xe:VP
noncomputable def frs(l:List Env):LA:=l.filterMap (·.frame)
noncomputable abbrev Cx.fs(X:Cx):LA:=frs X.outer
def Vis(sc:Scope)(x:Str):Prop:=sc.names.lookup x=some .local\/sc.names.lookup x=some .cell\/sc.names.lookup x=some .free
def Loc(sc:Scope)(x:Str):Prop:=sc.names.lookup x=some .local\/sc.names.lookup x=some .cell
def Look(env:Env)(h:Heap)(m:MT)(x:Str)(u:Value):Prop:=
 (env.kindOf x=some .local/\m x=some u)\/((env.kindOf x=some .cell\/env.kindOf x=some .free)/\∃c,env.cells.lookup x=some c/\h.IsCell c (some u))
structure Cx.Ok(X:Cx):Prop where
 mod:Mod X.K X.mg X.base
 kind:X.env.scope.kind=.function
 glob:X.env.globals=mainGlobals
 blt:X.env.builtins=builtinsNs
 above:X.s₀.heap.objs.size<=X.env.locals
 inj:∀x y c,X.env.cells.lookup x=some c->X.env.cells.lookup y=some c->x=y
 has:∀x,(X.env.kindOf x=some .cell\/X.env.kindOf x=some .free)->∃c,X.env.cells.lookup x=some c
 cab:∀x c,X.fn x=true->X.env.cells.lookup x=some c->X.s₀.heap.objs.size<=c
 hd:X.calm=true->X.A.handled=none
 frames:X.A.frames=some X.stack
 stk:X.stack=X.outer\/(X.stack=X.env:: X.outer/\X.env.frame=some X.env.locals)
 exf:∀b∈X.ex,b≠X.env.locals/\∀x c,X.env.cells.lookup x=some c->c≠b
 bs:∀b o,X.base.get? b=some o->X.s₀.heap.get? b=some o/\X.H₀ b=none
 bsz:X.base.objs.size<=X.s₀.heap.objs.size
 noex:∀b o,X.base.get? b=some o->b∉X.ex
 exfs:∀b∈X.ex,b∉X.fs
 funs:X.s₀.heap.FunFrames X.base X.outer
 frf:∀b∈X.fs,X.H₀ b=none
structure Inv(X:Cx)(pins:PN)(σ:List (Option V))(H:Hp)(s:Shared):Prop where
 ok:X.Ok
 os:s.os=X.s₀.os
 bare:AllBare s.gens
 base:Un X.fs X.ex X.H₀ H X.s₀.heap s.heap
 loc:∃m,s.heap.Ns X.env.locals m/\∀(i:Nat)(x:Str)(v:V),X.N[i]?=some x->σ[i]?=some (some v)->Vis X.env.scope x->∃u,RelV v u/\Look X.env s.heap m x u
 cell:∀x c,X.env.cells.lookup x=some c->∃v,s.heap.IsCell c v
 free:H X.env.locals=none
 freeC:∀x c,X.env.cells.lookup x=some c->H c=none
 pin:∀p∈X.pn++pins,s.heap.get? p.1=some p.2/\H p.1=none/\p.1≠X.env.locals/\p.1∉X.fs/\∀v,p.2.data≠.cell v
 hok:HOk X.prog X.w H s.heap
 len:σ.length=X.N.length
section
variable {X:Cx} {pins:PN} {σ:List (Option V)} {H H':Hp} {s:Shared} {h':Heap}
theorem Cx.Ok.nofr(ok:X.Ok){b:Addr}{o:Obj}(e:X.base.get? b=some o):b∉X.fs:=λhb=>by
 have:=(ok.funs.mem hb).1;rw[e]at this;cases this
theorem Inv.bs(I:Inv X pins σ H s):∀b o,X.base.get? b=some o->s.heap.get? b=some o/\H b=none:=λb o e =>
 ⟨I.base.keep b o (I.ok.bs b o e).1 (I.ok.bs b o e).2 (I.ok.nofr e) (I.ok.noex b o e),I.base.free b o (I.ok.bs b o e).1 (I.ok.bs b o e).2 (I.ok.noex b o e)⟩
theorem Inv.bk(I:Inv X pins σ H s):∀b o,X.base.get? b=some o->s.heap.get? b=some o:=λb o e=>(I.bs b o e).1
theorem Inv.mod(I:Inv X pins σ H s):Mod X.K X.mg X.base:=I.ok.mod
theorem Inv.kIn(I:Inv X pins σ H s):X.K.In s.heap:=I.ok.mod.kin.keeps I.bk
theorem Inv.lt(I:Inv X pins σ H s):X.env.locals<s.heap.objs.size:=let ⟨_,hn,_⟩:=I.loc;hn.lt
theorem Inv.sz(I:Inv X pins σ H s):X.s₀.heap.objs.size<=s.heap.objs.size:=yL I.ok.above (xR I.lt)
theorem Inv.nofs(I:Inv X pins σ H s){a:Addr}(h:s.heap.objs.size<=a):a∉X.fs:=λhb=>by
 obtain⟨_,o,ho,_⟩:=I.ok.funs.mem hb;exact absurd (zE (zP ho) (yL I.sz h)) (xB _)
theorem Inv.cne(I:Inv X pins σ H s):∀x c,X.env.cells.lookup x=some c->c≠X.env.locals:=λx c e z=>by
 obtain⟨v,o,ho,hd⟩:=I.cell x c e;obtain⟨m,⟨o',es,ep,ho',hd',_⟩,_⟩:=I.loc;rw[z,ho']at ho;cases ho;rw[hd']at hd;cases hd
theorem Inv.funs(I:Inv X pins σ H s):s.heap.FunFrames X.base X.outer:=by
 have all:∀(l:List Env),(∀b∈frs l,b∈X.fs)->X.s₀.heap.FunFrames X.base l->s.heap.FunFrames X.base l:=by
  intro l
  induction l with
  |nil=>intro _ _;trivial
  |cons env r ih =>
   intro hs hl;obtain⟨hk,⟨L,o,hf,hn,ho,hd⟩,hr⟩:=hl;have hL:L∈X.fs:=hs L (by unfold frs;rw[uV,hf];exact zU);obtain⟨sl,e⟩:=I.base.slot L o ho (I.ok.frf L hL) hL λz=>I.ok.exfs L z hL;exact⟨hk,⟨L,_,hf,hn,e,hd⟩,ih (λb hb=>hs b (by unfold frs;rw[uV,hf];exact zM _ hb)) hr⟩
 exact all X.outer (λ_ hb=>hb) I.ok.funs
theorem Inv.stack(I:Inv X pins σ H s):s.heap.FunFrames X.base X.stack:=by
 rcases I.ok.stk with e|⟨e,hf⟩
 ·rw[e];exact I.funs
 ·rw[e];obtain⟨m,hn,_⟩:=I.loc;refine .cons (by rw[I.ok.kind];decide) hf hn ?_ I.funs;exact Heap.get?_none_of_le (yL I.ok.bsz I.ok.above)
theorem Inv.stkSub(I:Inv X pins σ H s):∀b∈frs X.stack,b∈X.env.locals:: X.fs:=λb hb=>by
 rcases I.ok.stk with e|⟨e,hf⟩
 ·rw[e]at hb;exact zM _ hb
 ·rw[e]at hb;unfold frs at hb;rw[uV,hf]at hb;exact hb
theorem Inv.stkFree(I:Inv X pins σ H s):∀b∈frs X.stack,H b=none:=λb hb=>by
 rcases xE.mp (I.stkSub b hb) with e|hb
 ·rw[e];exact I.free
 ·obtain⟨_,o,ho,_⟩:=I.ok.funs.mem hb;exact I.base.free b o ho (I.ok.frf b hb) λz=>I.ok.exfs b z hb
theorem Inv.step{g':Array GenState}{t':Nat}{d':Drawn}{ch:LA}(I:Inv X pins σ H s)
  (hch:∀b∈ch,(b∈X.ex\/X.s₀.heap.objs.size<=b)/\b≠X.env.locals/\(∀x c,X.env.cells.lookup x=some c->c≠b)/\∀p∈X.pn++pins,p.1≠b)
  (keep:∀b o,b≠X.env.locals->b∉X.fs->b∉ch->s.heap.get? b=some o->H b=none->h'.get? b=some o)
  (slot:∀b o,b≠X.env.locals->b∈X.fs->b∉ch->s.heap.get? b=some o->H b=none->∃sl,h'.get? b=some {o with slots:=sl})(free:∀b o,b∉ch->s.heap.get? b=some o->H b=none->H' b=none)
  (there:∀b o,b∉ch->s.heap.get? b=some o->∃o',h'.get? b=some o')
  (tups:∀b xs,H b=some (.tup xs)->H' b=some (.tup xs))(frzs:∀b o u,H b=some (.frz o u)->H' b=some (.frz o u))(tbls:∀b ps,H b=some (.tbl ps)->∃more,H' b=some (.tbl (ps++more)))
  (ns:∀m,s.heap.Ns X.env.locals m->h'.Ns X.env.locals m)(hok:HOk X.prog X.w H' h')(hg:AllBare g'):
  Inv X pins σ H' {s with heap:=h',gens:=g',drawn:=d',toks:=t'}:=by
 have neL:∀b o,X.s₀.heap.get? b=some o->b≠X.env.locals:=λb o e=>yB (zE (zP e) I.ok.above);have neC:∀b o,X.s₀.heap.get? b=some o->b∉X.ex->b∉ch:=λb o e hx hb=>by
  rcases(hch b hb).1 with z|z
  ·exact hx z
  ·exact absurd (zE (zP e) z) (xB _)
 have cellK:∀x c,X.env.cells.lookup x=some c->∀v,s.heap.IsCell c v->h'.IsCell c v:=λx c e v⟨o,ho,hd⟩=>by
  have nch:c∉ch:=λz=>(hch c z).2.2.1 x c e rfl
  by_cases hc:c∈X.fs
  ·obtain⟨sl,q⟩:=slot c o (I.cne x c e) hc nch ho (I.freeC x c e);exact⟨_,q,hd⟩
  ·exact⟨o,keep c o (I.cne x c e) hc nch ho (I.freeC x c e),hd⟩
 refine⟨I.ok,I.os,hg,⟨λb o e n hb hx=>?_,λb o e n hb hx=>?_,λb o e n hx=>?_,λb o e hx=>?_,λb xs e=>tups b xs (I.base.tups b xs e),λb o xs e=>frzs b o xs (I.base.frzs b o xs e),λb ps e=>?_⟩,?_,λx c e=>?_,?_,λx c e=>?_,λp hp=>?_,hok,I.len⟩
 ·exact keep b o (neL b o e) hb (neC b o e hx) (I.base.keep b o e n hb hx) (I.base.free b o e n hx)
 ·obtain⟨sl,e1⟩:=I.base.slot b o e n hb hx;obtain⟨sl',e2⟩:=slot b _ (neL b o e) hb (neC b o e hx) e1 (I.base.free b o e n hx);exact⟨sl',e2⟩
 ·obtain⟨o',e1⟩:=I.base.there b o e hx;exact free b o' (neC b o e hx) e1 (I.base.free b o e n hx)
 ·obtain⟨o',e1⟩:=I.base.there b o e hx;exact there b o' (neC b o e hx) e1
 ·obtain⟨m1,e1⟩:=I.base.tbls b ps e;obtain⟨m2,e2⟩:=tbls b _ e1;exact⟨m1++m2,by rw[e2,Array.append_assoc]⟩
 ·obtain⟨m,hn,hl⟩:=I.loc;refine⟨m,ns m hn,λi x v e1 e2 e3=>?_⟩;obtain⟨u,r,l⟩:=hl i x v e1 e2 e3;refine⟨u,r,?_⟩;rcases l with l|⟨k,c,e,z⟩
  ·exact .inl l
  ·exact .inr ⟨k,c,e,cellK x c e _ z⟩
 ·obtain⟨v,z⟩:=I.cell x c e;exact⟨v,cellK x c e v z⟩
 ·obtain⟨m,⟨o,_,_,ho,_⟩,_⟩:=I.loc;exact free _ o (λz=>(hch _ z).2.1 rfl) ho I.free
 ·obtain⟨v,o,ho,hd⟩:=I.cell x c e;exact free c o (λz=>(hch c z).2.2.1 x c e rfl) ho (I.freeC x c e)
 ·obtain⟨e,n,ne,nf,d⟩:=I.pin p hp;have nch:p.1∉ch:=λz=>(hch p.1 z).2.2.2 p hp rfl;exact⟨keep p.1 p.2 ne nf nch e n,free p.1 p.2 nch e n,ne,nf,d⟩
theorem Inv.un{t':Nat}(I:Inv X pins σ H s)(u:Un X.fs [] H H' s.heap h')(hok:HOk X.prog X.w H' h'):Inv X pins σ H' {s with heap:=h',toks:=t'}:=by
 obtain⟨m,⟨o,es,ep,ho,r⟩,_⟩:=id I.loc;obtain⟨sl,hL⟩:=u.any ho I.free (by simp);exact I.step (g':=s.gens) (d':=s.drawn) (ch:=[]) (λ_ z=>nomatch z) (λb o _ hb _ e n=>u.keep b o e n hb (by simp)) (λb o _ hb _ e n=>u.slot b o e n hb (by simp)) (λb o _ e n=>u.free b o e n (by simp)) (λb o _ e=>u.there b o e (by simp)) u.tups u.frzs u.tbls (λm' hm=>by
  obtain⟨o',es',ep',ho',r'⟩:=hm;rw[ho]at ho';cases ho';exact⟨_,es',ep',hL,r'⟩) hok I.bare
theorem Inv.call{g':Array GenState}{t':Nat}{d':Drawn}{ch:LA}(I:Inv X pins σ H s)(u:Un (frs X.stack) ch H H' s.heap h')(hok:HOk X.prog X.w H' h')(hg:AllBare g')
  (hch:∀b∈ch,(b∈X.ex\/X.s₀.heap.objs.size<=b)/\b≠X.env.locals/\(∀x c,X.env.cells.lookup x=some c->c≠b)/\∀p∈X.pn++pins,p.1≠b):
  Inv X pins σ H' {s with heap:=h',gens:=g',drawn:=d',toks:=t'}:=by
 obtain⟨m,⟨o,es,ep,ho,r⟩,_⟩:=id I.loc;obtain⟨sl,hL⟩:=u.any ho I.free λz=>(hch _ z).2.1 rfl;exact I.step (ch:=ch) hch (λb o hL hb hc e n=>u.keep b o e n (λz=>(xE.mp (I.stkSub b z)).elim hL hb) hc) (λb o _ _ hc e n=>u.any e n hc) (λb o hc e n=>u.free b o e n hc) (λb o hc e=>u.there b o e hc) u.tups u.frzs u.tbls (λm' hm=>by
  obtain⟨o',es',ep',ho',r'⟩:=hm;rw[ho]at ho';cases ho';exact⟨_,es',ep',hL,r'⟩) hok hg
theorem Inv.turned{t':Nat}{it:Addr}(I:Inv X pins σ H s)(k:∀b o,b≠it->s.heap.get? b=some o->h'.get? b=some o)(hn:H it=none)(hL:it≠X.env.locals)
  (h1:it∈X.ex\/X.s₀.heap.objs.size<=it)(h2:∀x c,X.env.cells.lookup x=some c->c≠it)(h3:∀p∈X.pn++pins,p.1≠it):Inv X pins σ H {s with heap:=h',toks:=t'}:=by
 have nit:∀b u,H b=some u->b≠it:=λb u e z=>by rw[z,hn]at e;cases e
 refine I.step (g':=s.gens) (d':=s.drawn) (ch:=[it]) (λb hb=>?_) (λb o _ _ hc e _=>k b o (λz=>hc (by simp[z])) e) (λb o _ _ hc e _=>⟨o.slots,k b o (λz=>hc (by simp[z])) e⟩) (λ_ _ _ _ n=>n)
  (λb o hc e=>⟨o,k b o (λz=>hc (by simp[z])) e⟩) (λ_ _ e=>e) (λ_ _ _ e=>e) (λb ps e=>⟨#[],by rw[e];simp⟩) (λm hm=>?_) (λb u e=>?_) I.bare
 ·have e:b=it:=by simpa using hb
  subst e;exact⟨h1,hL,h2,h3⟩
 ·obtain⟨o,es,ep,ho,r⟩:=hm;exact⟨o,es,ep,k _ o (yE hL) ho,r⟩
 ·refine(I.hok b u e).stay (λc v hc q=>k c v ?_ q) (λ_ q=>q) λ_ _ q=>q;rcases hc with z|z
  ·rw[z];exact nit b u e
  ·exact nit c _ z
theorem Inv.tok(I:Inv X pins σ H s)(t:Nat):Inv X pins σ H {s with toks:=t}:=I.un (h':=s.heap) (t':=t) Un.refl I.hok
theorem Inv.kept{t':Nat}(I:Inv X pins σ H s)(k:∀b u,s.heap.get? b=some u->h'.get? b=some u):Inv X pins σ H {s with heap:=h',toks:=t'}:=I.un (Un.kept k) (I.hok.kept k)
theorem Inv.laid{a:Addr}{o:HO}{t':Nat}(I:Inv X pins σ H s)(k:∀b u,s.heap.get? b=some u->h'.get? b=some u)(hp:s.heap.objs.size<=a)(new:nO X.prog X.w (upd H a o) h' a o):
  Inv X pins σ (upd H a o) {s with heap:=h',toks:=t'}:=I.un (Un.laid k hp (I.hok.fresh hp)) (I.hok.laid k hp new)
theorem Inv.write{x e:Addr}{o:HO}{t':Nat}(I:Inv X pins σ H s)(mu:Mut (H x))(he:e=x\/H e=some (.own x))(k:∀b u,b≠e->s.heap.get? b=some u->h'.get? b=some u)(heo:∃u,h'.get? e=some u)
  (new:nO X.prog X.w (upd H x o) h' x o):Inv X pins σ (upd H x o) {s with heap:=h',toks:=t'}:=I.un (Un.write mu he k heo) (I.hok.write mu he k heo new)
theorem Inv.pins_of{pins':PN}(I:Inv X pins σ H s)(h:∀p∈pins',s.heap.get? p.1=some p.2/\H p.1=none/\p.1≠X.env.locals/\p.1∉X.fs/\∀v,p.2.data≠.cell v):Inv X pins' σ H s:=
 ⟨I.ok,I.os,I.bare,I.base,I.loc,I.cell,I.free,I.freeC,λp hp=>(pH.mp hp).elim (λz=>I.pin p (wA _ z)) (h p),I.hok,I.len⟩
theorem Dl{N:List Str}(hN:N.Nodup){i j:Nat}{x:Str}(a:N[i]?=some x)(b:N[j]?=some x):i=j:=by
 obtain⟨h1,e1⟩:=pG.mp a;obtain⟨h2,e2⟩:=pG.mp b;exact(List.getElem_inj hN).mp (e1.trans e2.symm)
theorem Dk{M:Model}{A:Around}{E:VP}{i:Nat}{x:Str}{v:V}{u:Value}{Q:Unit->Shared->Prop}(I:Inv X pins σ H s)(hN:X.N.Nodup)(hi:X.N[i]?=some x)(hx:Loc X.env.scope x)(r:RelV v u)
  (h:∀s',Inv X pins (σ.set i (some v)) H s'->(∃a,Heap.SameBut a s.heap s'.heap/\(a=X.env.locals\/X.env.cells.lookup x=some a))->Q () s')(hf:X.fn x=true\/X.env.scope.names.lookup x=some .local:=by first|exact .inl rfl|exact .inr rfl|assumption):wpAny M A (storeName X.env x u) Q E s:=by
 obtain⟨m,hn,hl⟩:=id I.loc;have hcls:(X.env.scope.kind == .class || (X.env.scope.kind == .module && X.env.locals != X.env.globals))=false:=by rw[I.ok.kind];rfl
 have hiσ:i<σ.length:=by rw[I.len];exact(pG.mp hi).1
 have cne:=I.cne;have tracked:∀{a:Addr}{h':Heap},(∃o,s.heap.get? a=some o/\H a=none)->Heap.SameBut a s.heap h'->HOk X.prog X.w H h':=λ{a h'}ha hs b ob e=>by
  obtain⟨_,_,hfree⟩:=ha;refine(I.hok b ob e).stay (λc w' hc q=>(hs.2 c ?_).trans q) (λ_ q=>q) λ_ _ q=>q;rintro rfl;rcases hc with rfl|hc
  ·rw[hfree]at e;cases e
  ·rw[hfree]at hc;cases hc
 rcases hx with hk|hk
 ·refine wpAny_storeName_local hk hn (λh' hn' hs=>?_) hcls;obtain⟨oL,_,_,hoL,_⟩:=id hn;refine h _ ⟨I.ok,I.os,I.bare,⟨λb o e n hb hx=>?_,λb o e n hb hx=>?_,I.base.free,λb o e hx=>?_,I.base.tups,I.base.frzs,I.base.tbls⟩,⟨_,hn',λj y v' e1 e2 e3=>?_⟩,λy c e=>?_,I.free,I.freeC,λp hp=>?_,tracked ⟨oL,hoL,I.free⟩ hs,by simpa using I.len⟩ ⟨_,hs,.inl rfl⟩
  ·exact(hs.2 b (yB (zE (zP e) I.ok.above))).trans (I.base.keep b o e n hb hx)
  ·obtain⟨sl,e1⟩:=I.base.slot b o e n hb hx;exact⟨sl,(hs.2 b (yB (zE (zP e) I.ok.above))).trans e1⟩
  ·obtain⟨o',e1⟩:=I.base.there b o e hx;exact⟨o',(hs.2 b (yB (zE (zP e) I.ok.above))).trans e1⟩
  ·by_cases hj:j=i
   ·subst hj;rw[hi]at e1;cases e1;rw[tX hiσ]at e2;cases e2;exact⟨u,r,.inl ⟨hk,by simp⟩⟩
   ·rw[List.getElem?_set_ne (yE hj)]at e2;obtain⟨u',r',q⟩:=hl j y v' e1 e2 e3;refine⟨u',r',?_⟩;rcases q with⟨k,e⟩|⟨k,c,e,z⟩
    ·refine .inl ⟨k,?_⟩;have:y≠x:=λe=>hj (Dl hN e1 (e ▸ hi));simp[this,e]
    ·exact .inr ⟨k,c,e,z.sameBut hs (cne y c e)⟩
  ·obtain⟨w',z⟩:=I.cell y c e;exact⟨w',z.sameBut hs (cne y c e)⟩
  ·obtain⟨e,n,ne,nf,d⟩:=I.pin p hp;exact⟨(hs.2 p.1 ne).trans e,n,ne,nf,d⟩
 ·have hfn:X.fn x=true:=by
   rcases hf with z|z
   ·exact z
   ·rw[z]at hk;cases hk
  obtain⟨c,hc⟩:=I.ok.has x (.inl hk);obtain⟨w',z⟩:=I.cell x c hc;refine wpAny_storeName_cell I.ok.kind hk hc z (λh' hc' hs=>?_);obtain⟨oc,hoc,hocd⟩:=id z;refine h {s with heap:=h'} ⟨I.ok,I.os,I.bare,⟨λb o e n hb hx=>?_,λb o e n hb hx=>?_,I.base.free,λb o e hx=>?_,I.base.tups,I.base.frzs,I.base.tbls⟩,⟨m,hn.sameBut hs (yE (cne x c hc)),λj y v' e1 e2 e3=>?_⟩,λy c' e=>?_,I.free,I.freeC,λp hp=>?_,tracked ⟨oc,hoc,I.freeC x c hc⟩ hs,by simpa using I.len⟩ ⟨c,hs,.inr hc⟩
  ·exact(hs.2 b (yB (zE (zP e) (I.ok.cab x c hfn hc)))).trans (I.base.keep b o e n hb hx)
  ·obtain⟨sl,e1⟩:=I.base.slot b o e n hb hx;exact⟨sl,(hs.2 b (yB (zE (zP e) (I.ok.cab x c hfn hc)))).trans e1⟩
  ·obtain⟨o',e1⟩:=I.base.there b o e hx;exact⟨o',(hs.2 b (yB (zE (zP e) (I.ok.cab x c hfn hc)))).trans e1⟩
  ·by_cases hj:j=i
   ·subst hj;rw[hi]at e1;cases e1;rw[tX hiσ]at e2;cases e2;exact⟨u,r,.inr ⟨.inl hk,c,hc,hc'⟩⟩
   ·rw[List.getElem?_set_ne (yE hj)]at e2;obtain⟨u',r',q⟩:=hl j y v' e1 e2 e3;refine⟨u',r',?_⟩;rcases q with q|⟨k,c',e,z'⟩
    ·exact .inl q
    ·refine .inr ⟨k,c',e,z'.sameBut hs ?_⟩;rintro rfl;exact hj (Dl hN e1 (I.ok.inj _ _ _ e hc ▸ hi))
  ·by_cases hcc:c'=c
   ·subst hcc;exact⟨_,hc'⟩
   ·obtain⟨w2,z2⟩:=I.cell y c' e;exact⟨w2,z2.sameBut hs hcc⟩
  ·obtain⟨e,n,ne,nf,d⟩:=I.pin p hp;refine⟨(hs.2 p.1 ?_).trans e,n,ne,nf,d⟩;intro q;rw[q,hoc]at e;have q':oc=p.2:=zR e;exact d w' (by rw[←q'];exact hocd)
theorem fQ{M:Model}{A:Around}{E:VP}{i:Nat}{x:Str}{v:V}{u:Value}{Q:Unit->Shared->Prop}(I:Inv X pins σ H s)(hN:X.N.Nodup)(hi:X.N[i]?=some x)(hx:Loc X.env.scope x)(r:RelV v u)
  (h:∀s',Inv X pins (σ.set i (some v)) H s'->Q () s')(hf:X.fn x=true\/X.env.scope.names.lookup x=some .local:=by first|exact .inl rfl|exact .inr rfl|assumption):wpAny M A (storeName X.env x u) Q E s:=
 Dk I hN hi hx r (λs' I' _=>h s' I') hf
theorem Inv.call'{s':Shared}{ch:LA}(I:Inv X pins σ H s)(ho:s'.os=s.os)(u:Un (frs X.stack) ch H H' s.heap s'.heap)(hok:HOk X.prog X.w H' s'.heap)(hg:AllBare s'.gens)
  (hch:∀b∈ch,(b∈X.ex\/X.s₀.heap.objs.size<=b)/\b≠X.env.locals/\(∀x c,X.env.cells.lookup x=some c->c≠b)/\∀p∈X.pn++pins,p.1≠b):Inv X pins σ H' s':=by
 obtain⟨h',g',d',t',o'⟩:=s';have e:o'=s.os:=ho;subst e;exact I.call (g':=g') (t':=t') (d':=d') u hok hg hch
end
abbrev XK:=Value->Option Addr->Hp->Prop
abbrev St:=List (Option V)
abbrev VK:=V->Hp->Prop
abbrev TE:=St->Hp->VK->Prop
abbrev TT:=St->Hp->(Bool->Hp->Prop)->Prop
abbrev TA:=St->Hp->(List V->Hp->Prop)->Prop
structure Ends where
 nx:St->Hp->Prop
 rt:VK
 bk:St->Hp->Prop:=λ_ _=>False
 ct:St->Hp->Prop:=λ_ _=>False
abbrev TS:=Ends->St->Hp->Prop
def EP(X:Cx)(pins:PN)(σ:St)(Q:VK)(u:Value)(s':Shared):Prop:=∃v H',Inv X pins σ H' s'/\RelV v u/\Q v H'
def TP(X:Cx)(pins:PN)(σ:St)(Q:Bool->Hp->Prop)(b:Bool)(s':Shared):Prop:=∃H',Inv X pins σ H' s'/\Q b H'
def AP(X:Cx)(pins:PN)(σ:St)(Q:List V->Hp->Prop)(us:LW)(s':Shared):Prop:=∃vs H',Inv X pins σ H' s'/\Vals vs us/\Q vs H'
def SP(X:Cx)(pins:PN)(D:Ends)(f:Flow)(s':Shared):Prop:=
 match f with
 |.next=>∃σ' H',Inv X pins σ' H' s'/\D.nx σ' H'
 |.brk=>∃σ' H',Inv X pins σ' H' s'/\D.bk σ' H'
 |.cont=>∃σ' H',Inv X pins σ' H' s'/\D.ct σ' H'
 |.ret u=>∃v σ' H',Inv X pins σ' H' s'/\RelV v u/\D.rt v H'
def PE(X:Cx)(e:Expr)(t:TE):Prop:=
 ∀(pins:PN)(s:Shared)(σ:St)(H:Hp)(Q:VK),Inv X pins σ H s->t σ H Q->wpAny (model X.prog X.w) X.A (eval e X.env) (EP X pins σ Q) X.xe s
def PT(X:Cx)(e:Expr)(t:TT):Prop:=
 ∀(pins:PN)(s:Shared)(σ:St)(H:Hp)(Q:Bool->Hp->Prop),Inv X pins σ H s->t σ H Q->wpAny (model X.prog X.w) X.A (isTrue e X.env (eval e X.env)) (TP X pins σ Q) X.xe s
def PW(X:Cx)(e:Expr)(t:TT):Prop:=
 ∀(whole:Sem Value)(pins:PN)(s:Shared)(σ:St)(H:Hp)(Q:Bool->Hp->Prop),Inv X pins σ H s->t σ H Q->wpAny (model X.prog X.w) X.A (isTrue e X.env whole) (TP X pins σ Q) X.xe s
theorem PW.pt{X:Cx}{e:Expr}{t:TT}(h:PW X e t):PT X e t:=h _
def PA(X:Cx)(es:List Expr)(t:TA):Prop:=
 ∀(pos:Pos)(pins:PN)(s:Shared)(σ:St)(H:Hp)(Q:List V->Hp->Prop),Inv X pins σ H s->t σ H Q->wpAny (model X.prog X.w) X.A (spliced (backTo pos (starEach es X.env))) (AP X pins σ Q) X.xe s
def PS(X:Cx)(st:Stmt)(t:TS):Prop:=
 ∀(pins:PN)(s:Shared)(σ:St)(H:Hp)(D:Ends),Inv X pins σ H s->t D σ H->wpAny (model X.prog X.w) X.A (exec st X.env) (SP X pins D) X.xe s
def PSs(X:Cx)(st:List Stmt)(t:TS):Prop:=
 ∀(pins:PN)(s:Shared)(σ:St)(H:Hp)(D:Ends),Inv X pins σ H s->t D σ H->wpAny (model X.prog X.w) X.A (execs st X.env) (SP X pins D) X.xe s
theorem thn{α:Type}{t:Sem α}{Q Q':α->Shared->Prop}{M:Model}{A:Around}{E:VP}{s:Shared}(h:wpAny M A t Q E s)(hQ:∀a s,Q a s->Q' a s):wpAny M A t Q' E s:=xJ h hQ λ_ _ x=>x
section
variable {X:Cx}
def tVar(i:Nat):TE:=λσ H Q=>∃v,σ[i]?=some (some v)/\Q v H
def tC(v:V):TE:=λ_ H Q=>Q v H
theorem Dj{i:Nat}{x:Str}{pos:Pos}(hN:X.N[i]?=some x)(hv:Vis X.env.scope x)(hd:(x == ("__debug__" :Str))=false:=by decide)(hcd:(x == ("__classdict__" :Str))=false:=by decide):PE X (.Name x pos) (tVar i):=by
 intro pins s σ H Q I h;obtain⟨v,e,h⟩:=h;obtain⟨m,hn,hl⟩:=I.loc;obtain⟨u,r,l⟩:=hl i x v hN e hv;have fin:EP X pins σ Q u s:=⟨v,H,I,r,h⟩;rcases l with⟨hk,hm⟩|⟨hk,c,hc,hcell⟩
 ·exact wpAny_Name (wpAny_loadName_local I.ok.kind hk hn hm fin) hd
 ·rcases hk with hk|hk
  ·exact wpAny_Name (wpAny_loadName_cell I.ok.kind hk hc hcell fin) hd
  ·exact wpAny_Name (wpAny_loadName_free I.ok.kind hk hc hcell fin hcd) hd
theorem pR{i j pos}:PE X (.Constant (.int i) j pos) (tC (.int i)):=λ_ _ _ H _ I h=>wpAny_Constant_int ⟨.int i,H,I.tok _,⟨_,rfl⟩,h⟩
theorem kO{b j pos}:PE X (.Constant (.bool b) j pos) (tC (.bl b)):=λ_ _ _ H _ I h=>Constant_bool ⟨.bl b,H,I,rfl,h⟩
theorem dX{j pos}:PE X (.Constant .none j pos) (tC .non):=λ_ _ _ H _ I h=>Constant_none ⟨.non,H,I,rfl,h⟩
theorem gJ{x j pos}:PE X (.Constant (.str x) j pos) (tC (.str x)):=λ_ _ _ H _ I h=>Calls.Constant_str ⟨.str x,H,I.tok _,⟨_,rfl⟩,h⟩
def Gl(X:Cx)(x:Str):Prop:=X.env.kindOf x=some .globalImplicit
theorem dY{E:VP}{pins:PN}{s:Shared}{σ:St}{H:Hp}{x:Str}{u:Value}{pos:Pos}{Q:VP}(I:Inv X pins σ H s)(hg:Gl X x)(hm:X.mg x=some u)(h:Q u s)
  (hd:(x == ("__debug__" :Str))=false:=by decide):wpAny (model X.prog X.w) X.A (eval (.Name x pos) X.env) Q E s:=
 Calls.Name_function_global I.ok.kind hg (Calls.loadGlobal_global (by rw[I.ok.glob];exact I.mod.glob.keeps I.bk) hm h) hd
theorem gK{E:VP}{pins:PN}{s:Shared}{σ:St}{H:Hp}{x:Str}{u:Value}{pos:Pos}{Q:VP}(I:Inv X pins σ H s)(hg:Gl X x)(hm:X.mg x=none)(hv:bootBuiltins x=some u)(h:Q u s)
  (hn:x≠"__name__" := by decide)(hd:(x == ("__debug__" :Str))=false:=by decide):wpAny (model X.prog X.w) X.A (eval (.Name x pos) X.env) Q E s:=by
 obtain⟨mb,h1,h2⟩:=I.mod.blt;exact Calls.Name_function_global I.ok.kind hg (Calls.loadGlobal_builtin (by rw[I.ok.glob];exact I.mod.glob.keeps I.bk) hm (by rw[I.ok.blt];exact h1.keeps I.bk) ((h2 x hn).trans hv) h) hd
theorem Kk{x:Str}{v:V}{u:Value}{pos:Pos}(hg:Gl X x)(hm:X.mg x=some u)(r:RelV v u)(hd:(x == ("__debug__" :Str))=false:=by decide):PE X (.Name x pos) (tC v):=
 λ_ _ _ H _ I h=>dY I hg hm ⟨v,H,I,r,h⟩ hd
theorem dZ{x:Str}{v:V}{u:Value}{pos:Pos}(hg:Gl X x)(hm:X.mg x=none)(hv:bootBuiltins x=some u)(r:RelV v u)(hn:x≠"__name__" := by decide)(hd:(x == ("__debug__" :Str))=false:=by decide):PE X (.Name x pos) (tC v):=
 λ_ _ _ H _ I h=>gK I hg hm hv ⟨v,H,I,r,h⟩ hn hd
variable {a b:Expr} {ta tb:TE} {pos:Pos}
def tB(t:TE):TT:=λσ H Q=>t σ H λx H1=>∃c,x=.bl c/\Q c H1
theorem kF{e:Expr}{t:TE}(h:PE X e t)(he:∀whole,isTrue e X.env whole=(do let v ←whole;standAt e.pos;holding [v] (truthy v)):=by intro _;rfl):PT X e (tB t):=by
 intro pins s σ H Q I hw;refine isTrue_plain (thn (h pins s σ H _ I hw) λv s1⟨x,H1,I1,r1,q1⟩=>?_) (he _);obtain⟨d,rfl,q⟩:=q1;cases r1;exact uG ⟨H1,I1,q⟩
variable {tA tB':TT} {rest:List Expr}
def tAnd(t u:TT):TT:=λσ H Q=>t σ H λc H1=>if c=true then u σ H1 Q else Q false H1
def tOr(t u:TT):TT:=λσ H Q=>t σ H λc H1=>if c=true then Q true H1 else u σ H1 Q
def tNot(t:TT):TT:=λσ H Q=>t σ H λc H1=>Q (!c) H1
theorem gL(ha:PT X a tA):PW X (.BoolOp .Or [a] pos) tA:=by
 intro wh pins s σ H Q I h;refine isTrue_or (thn (ha pins s σ H Q I h) λc s1 e=>?_);cases c with
 |false=>exact isTrue_or_nil e
 |true=>exact e
theorem jP(ha:PT X a tA)(hb:PW X (.BoolOp .Or (b:: rest) pos) tB'):PW X (.BoolOp .Or (a:: b:: rest) pos) (tOr tA tB'):=by
 intro wh pins s σ H Q I h;refine isTrue_or (thn (ha pins s σ H _ I h) λc s1⟨H1,I1,q1⟩=>?_);cases c with
 |true=>exact⟨H1,I1,q1⟩
 |false=>exact hb wh pins s1 σ H1 Q I1 q1
theorem jY(ha:PT X a tA):PT X (.UnaryOp .Not a pos) (tNot tA):=by
 intro pins s σ H Q I h;exact isTrue_not (ha pins s σ H (λc H1=>Q (!c) H1) I h)
def Kj(ta tb:TE):TE:=λσ H Q=>ta σ H λx H1=>∃c,x=.bl c/\if c=true then tb σ H1 Q else Q (.bl false) H1
def tOrV(ta tb:TE):TE:=λσ H Q=>ta σ H λx H1=>∃c,x=.bl c/\if c=true then Q (.bl true) H1 else tb σ H1 Q
def Ki(ta:TE):TE:=λσ H Q=>ta σ H λx H1=>∃c,x=.bl c/\Q (.bl (!c)) H1
theorem Kh{op}{t:TE}(h:PE X a t):PE X (.BoolOp op [a] pos) t:=λpins s σ H Q I hw=>BoolOp_one (h pins s σ H Q I hw)
theorem Kg(ha:PE X a ta)(hb:PE X (.BoolOp .And (b:: rest) pos) tb):PE X (.BoolOp .And (a:: b:: rest) pos) (Kj ta tb):=by
 intro pins s σ H Q I h;refine BoolOp_and (thn (ha pins s σ H _ I h) λv s1⟨x,H1,I1,r1,q1⟩=>?_);obtain⟨c,rfl,q1⟩:=q1;cases r1;refine uG ?_;cases c with
 |true=>exact hb pins s1 σ H1 Q I1 q1
 |false=>exact⟨.bl false,H1,I1,rfl,q1⟩
theorem Kf(ha:PE X a ta):PE X (.UnaryOp .Not a pos) (Ki ta):=by
 intro pins s σ H Q I h;refine UnaryOp_ (thn (ha pins s σ H _ I h) λv s1⟨x,H1,I1,r1,q1⟩=>?_);obtain⟨c,rfl,q1⟩:=q1;cases r1;exact not_of (uG ⟨.bl (!c),H1,I1,rfl,q1⟩)
def tIf(t:TT)(ta tb:TE):TE:=λσ H Q=>t σ H λc H1=>if c=true then ta σ H1 Q else tb σ H1 Q
theorem aR{c:Expr}(hc:PT X c tA)(ha:PE X a ta)(hb:PE X b tb):PE X (.IfExp c a b pos) (tIf tA ta tb):=by
 intro pins s σ H Q I h;refine wpAny_IfExp (thn (hc pins s σ H _ I h) λd s1⟨H1,I1,q1⟩=>?_);cases d with
 |true=>exact ha pins s1 σ H1 Q I1 q1
 |false=>exact hb pins s1 σ H1 Q I1 q1
end
def SqL(K:Frag)(H:Hp)(a:Addr)(xs:List V):Prop:=
 Rd H a (.lst xs) \/
  ∃(o:Obj)(its:Array Value)(n:Nat),K.lookup a=some o/\o.cls=.type "list" /\ o.dict=none/\o.data=.seq its n/\its.size<=sizeLine/\Vals xs its.toList
def SqT(K:Frag)(H:Hp)(a:Addr)(xs:List V):Prop:=
 Rd H a (.tup xs) \/
  ∃(o:Obj)(its:Array Value)(n:Nat),K.lookup a=some o/\o.cls=.type "tuple" /\ o.data=.seq its n/\its.size<=sizeLine/\Vals xs its.toList
noncomputable def absV:Value->Option V
 |.none=>some .non
 |.bool b=>some (.bl b)
 |.int i _=>some (.int i)
 |.str x _=>some (.str x)
 |.bytes b _=>some (.byt b)
 |.float b _=>some (.flt b)
 |.ref a=>some (.ref a)
 |.type n=>some (.ty n)
 |_=>none
theorem RelV.abs{x:V}{u:Value}(r:RelV x u):absV u=some x:=by
 cases x with
 |non=>cases r;rfl
 |bl _=>cases r;rfl
 |int _=>obtain⟨t,rfl⟩:=r;rfl
 |str _=>obtain⟨t,rfl⟩:=r;rfl
 |byt _=>obtain⟨t,rfl⟩:=r;rfl
 |flt _=>obtain⟨t,rfl⟩:=r;rfl
 |ref _=>cases r;rfl
 |ty _=>cases r;rfl
theorem RelV.inj{x y:V}{u:Value}(r:RelV x u)(q:RelV y u):x=y:=zR (r.abs.symm.trans q.abs)
theorem Vals.inj:∀{xs ys:List V}{us:LW},Vals xs us->Vals ys us->xs=ys
 |_,_,_,.nil,.nil=>rfl
 |_,_,_,.cons r t,.cons r' t'=>by rw[r.inj r',Vals.inj t t']
section
variable {X:Cx} {pins:PN} {σ:St} {H:Hp} {s:Shared} {a:Addr} {xs ys:List V}
theorem SqL.of{K:Frag}(h:H a=some (.lst xs)):SqL K H a xs:=.inl (.inl h)
theorem SqT.of{K:Frag}(h:H a=some (.tup xs)):SqT K H a xs:=.inl (.inl h)
theorem Inv.list(I:Inv X pins σ H s)(h:SqL X.K H a xs):∃its:LW,Vals xs its/\PlainL s.heap a its.toArray/\xs.length<=sizeLine:=by
 rcases h with h|⟨o,its,n,hk,hc,hd,hs,hz,r⟩
 ·obtain⟨z,its,n,r,e⟩:=h.ok I.hok;exact⟨its,r,⟨_,n,e,rfl,rfl,rfl⟩,z⟩
 ·refine⟨its.toList,r,⟨o,n,I.kIn a o hk,hc,hd,by simpa using hs⟩,?_⟩;have e:=r.length;simp only[Array.length_toList]at e;omega
theorem Inv.tuple(I:Inv X pins σ H s)(h:SqT X.K H a xs):∃its:LW,Vals xs its/\IsTup s.heap a its.toArray/\xs.length<=sizeLine:=by
 rcases h with h|⟨o,its,n,hk,hc,hs,hz,r⟩
 ·obtain⟨z,its,r,p⟩:=h.ok I.hok;exact⟨its,r,p,z⟩
 ·refine⟨its.toList,r,⟨o,I.kIn a o hk,hc,n,by simpa using hs⟩,?_⟩;have e:=r.length;simp only[Array.length_toList]at e;omega
theorem Inv.list_inj(I:Inv X pins σ H s)(h:SqL X.K H a xs)(h':SqL X.K H a ys):xs=ys:=by
 obtain⟨its,r,⟨o,n,e,_,_,d⟩,_⟩:=I.list h;obtain⟨its',r',⟨o',n',e',_,_,d'⟩,_⟩:=I.list h';rw[e]at e';cases e';rw[d]at d';injection d' with d1 _;have:its=its':=by simpa using wC Array.toList d1
 subst this;exact r.inj r'
theorem Inv.tuple_inj(I:Inv X pins σ H s)(h:SqT X.K H a xs)(h':SqT X.K H a ys):xs=ys:=by
 obtain⟨its,r,⟨o,e,_,n,d⟩,_⟩:=I.tuple h;obtain⟨its',r',⟨o',e',_,n',d'⟩,_⟩:=I.tuple h';rw[e]at e';cases e';rw[d]at d';injection d' with d1 _;have:its=its':=by simpa using wC Array.toList d1
 subst this;exact r.inj r'
end
noncomputable abbrev Cx.wish(X:Cx)(E:VP):Cx:={X with xe:=E}
noncomputable abbrev Cx.nox(X:Cx):Cx:=X.wish λ_ _=>False
theorem Cx.Ok.wish{X:Cx}(ok:X.Ok)(E:VP):(X.wish E).Ok:=
 ⟨ok.mod,ok.kind,ok.glob,ok.blt,ok.above,ok.inj,ok.has,ok.cab,ok.hd,ok.frames,ok.stk,ok.exf,ok.bs,ok.bsz,ok.noex,ok.exfs,ok.funs,ok.frf⟩
theorem Cx.Ok.unwish{X:Cx}{E:VP}(ok:(X.wish E).Ok):X.Ok:=
 ⟨ok.mod,ok.kind,ok.glob,ok.blt,ok.above,ok.inj,ok.has,ok.cab,ok.hd,ok.frames,ok.stk,ok.exf,ok.bs,ok.bsz,ok.noex,ok.exfs,ok.funs,ok.frf⟩
section
variable {X:Cx} {pins:PN} {σ:St} {H:Hp} {s:Shared} {E:VP}
theorem Inv.wish(I:Inv X pins σ H s)(E:VP):Inv (X.wish E) pins σ H s:=⟨I.ok.wish E,I.os,I.bare,I.base,I.loc,I.cell,I.free,I.freeC,I.pin,I.hok,I.len⟩
theorem Inv.unwish(I:Inv (X.wish E) pins σ H s):Inv X pins σ H s:=⟨I.ok.unwish,I.os,I.bare,I.base,I.loc,I.cell,I.free,I.freeC,I.pin,I.hok,I.len⟩
theorem SP.unwish{D:Ends}{f:Flow}{s':Shared}(h:SP (X.wish E) pins D f s'):SP X pins D f s':=by
 cases f with
 |next=>obtain⟨σ',H',I,q⟩:=h;exact⟨σ',H',I.unwish,q⟩
 |brk=>obtain⟨σ',H',I,q⟩:=h;exact⟨σ',H',I.unwish,q⟩
 |cont=>obtain⟨σ',H',I,q⟩:=h;exact⟨σ',H',I.unwish,q⟩
 |ret u=>obtain⟨v,σ',H',I,r,q⟩:=h;exact⟨v,σ',H',I.unwish,r,q⟩
theorem PSs.nox{st:List Stmt}{t:TS}(h:PSs X.nox st t):PSs X st t:=λpins s σ H D I hw =>
 xJ (h pins s σ H D (I.wish _) hw) (λ_ _ q=>q.unwish) λ_ _ z=>False.elim z
end
section
variable {X:Cx} {st:Stmt} {rest:List Stmt} {t u:TS} {e:Expr} {te:TE} {pos:Pos}
def Di:TS:=λD σ H=>D.nx σ H
def tSeq(t u:TS):TS:=λD σ H=>t {D with nx:=u D} σ H
theorem oY:PSs X [] Di:=λ_ _ σ H _ I h=>sT ⟨σ,H,I,h⟩
theorem pM(h1:PS X st t)(h2:PSs X rest u):PSs X (st:: rest) (tSeq t u):=by
 intro pins s σ H D I h;refine wpAny_execs_cons (thn (h1 pins s σ H {D with nx:=u D} I h) λf s1 q=>?_);cases f with
 |next =>
  obtain⟨σ',H',I',q⟩:=q;exact h2 pins s1 σ' H' D I' q
 |ret v=>exact q
 |brk=>exact q
 |cont=>exact q
theorem pQ(h1:PS X st t):PSs X [st] t:=by
 intro pins s σ H D I h;refine wpAny_execs_cons (thn (h1 pins s σ H D I h) λf s1 q=>?_);cases f with
 |next=>exact sT q
 |ret v=>exact q
 |brk=>exact q
 |cont=>exact q
theorem Inv.quiet{pins:PN}{σ:St}{H:Hp}{s:Shared}(I:Inv X pins σ H s):interactive X.env=false:=by simp[interactive,I.ok.kind]
def Ke(te:TE):TS:=λD σ H=>te σ H λ_ H1=>D.nx σ H1
theorem kP(he:PE X e te)(hs:swapsWith e none pos.line X.env=pure false:=by rfl):PS X (.Expr e pos) (Ke te):=by
 intro pins s σ H D I h;exact wpAny_Expr_any (thn (he pins s σ H _ I h) λv s1⟨x,H1,I1,r1,q1⟩=>⟨σ,H1,I1,q1⟩) I.quiet hs
def tRet(te:TE):TS:=λD σ H=>te σ H D.rt
theorem oA(he:PE X e te):PS X (.Return (some e) pos) (tRet te):=by
 intro pins s σ H D I h;exact wpAny_Return_some (thn (he pins s σ H _ I h) λv s1⟨x,H1,I1,r1,q1⟩=>⟨x,σ,H1,I1,r1,q1⟩)
def s_N:TS:=λD _ H=>D.rt .non H
def tIfS(c:TT)(t u:TS):TS:=λD σ H=>c σ H λb H1=>if b=true then t D σ H1 else u D σ H1
theorem oU{c:Expr}{a b:List Stmt}{tc:TT}(hc:PT X c tc)(ha:PSs X a t)(hb:PSs X b u):PS X (.If c a b pos) (tIfS tc t u):=by
 intro pins s σ H D I h;refine wpAny_If (thn (hc pins s σ H _ I h) λd s1⟨H1,I1,q1⟩=>?_);cases d with
 |true=>exact ha pins s1 σ H1 D I1 q1
 |false=>exact hb pins s1 σ H1 D I1 q1
def Kd:TS:=λ_ _ _=>False
theorem kQ:PS X st Kd:=λ_ _ _ _ _ _ h=>h.elim
end
abbrev TG:=V->St->Hp->(St->Hp->Prop)->Prop
abbrev TGs:=List V->St->Hp->(St->Hp->Prop)->Prop
def PG(X:Cx)(target:Expr)(t:TG):Prop:=
 ∀(pins:PN)(s:Shared)(σ:St)(H:Hp)(v:V)(u:Value)(Q:St->Hp->Prop),Inv X pins σ H s->RelV v u->t v σ H Q ->
  wpAny (model X.prog X.w) X.A (assign target X.env u) (λ_ s'=>∃σ' H',Inv X pins σ' H' s'/\Q σ' H') X.xe s
def PGs(X:Cx)(ts:List Expr)(t:TGs):Prop:=
 ∀(pins:PN)(s:Shared)(σ:St)(H:Hp)(vs:List V)(us:LW)(Q:St->Hp->Prop),Inv X pins σ H s->Vals vs us->t vs σ H Q ->
  wpAny (model X.prog X.w) X.A (assignInOrder ((assignEach ts X.env).map (·.2)) us) (λ_ s'=>∃σ' H',Inv X pins σ' H' s'/\Q σ' H') X.xe s
abbrev TSet:=V->V->V->Hp->(Hp->Prop)->Prop
def PSet(X:Cx)(t:TSet):Prop:=
 ∀(pins:PN)(s:Shared)(σ:St)(H:Hp)(o i v:V)(ov iv u:Value)(Q:Hp->Prop),Inv X pins σ H s->RelV o ov->RelV i iv->RelV v u->t o i v H Q ->
  wpAny (model X.prog X.w) X.A (setItem ov iv u) (λ_ s'=>∃H',Inv X pins σ H' s'/\Q H') X.xe s
abbrev TIp:=V->V->Hp->VK->Prop
def PIp(X:Cx)(op:Operator)(t:TIp):Prop:=
 ∀(pins:PN)(s:Shared)(σ:St)(H:Hp)(x y:V)(v u:Value)(Q:VK),Inv X pins σ H s->RelV x v->RelV y u->t x y H Q ->
  wpAny (model X.prog X.w) X.A (inplaceOp op v u) (EP X pins σ Q) X.xe s
section
variable {X:Cx} {pos:Pos}
def pY(i:Nat):TG:=λv σ H Q=>Q (σ.set i (some v)) H
theorem oV{i:Nat}{x:Str}(hN:X.N.Nodup)(hi:X.N[i]?=some x)(hx:Loc X.env.scope x)(hf:X.fn x=true\/X.env.scope.names.lookup x=some .local:=by first|exact .inl rfl|exact .inr rfl|assumption):PG X (.Name x pos) (pY i):=by
 intro pins s σ H v u Q I r h;exact wpAny_assign_Name (fQ I hN hi hx r (λs' I'=>⟨_,H,I',h⟩) hf)
def gNil:TGs:=λvs σ H Q=>vs=[]/\Q σ H
def nC(t:TG)(u:TGs):TGs:=λvs σ H Q=>∃v r,vs=v:: r/\t v σ H λσ' H'=>u r σ' H' Q
theorem lD:PGs X [] gNil:=by
 intro pins s σ H vs us Q I r h;obtain⟨e,h⟩:=h;subst e;cases r;exact assignInOrder_nil ⟨σ,H,I,h⟩
theorem nB{e:Expr}{es:List Expr}{t:TG}{u:TGs}(h1:PG X e t)(h2:PGs X es u)
  (hs:(assignEach (e:: es) X.env).map (·.2)=assign e X.env:: (assignEach es X.env).map (·.2):=by rfl):PGs X (e:: es) (nC t u):=by
 intro pins s σ H vs us Q I r h;obtain⟨v,vr,e1,h⟩:=h;subst e1;cases r with
 |cons r rr =>
  rw[hs];refine rG (thn (h1 pins s σ H _ _ _ I r h) λ_ s1⟨σ1,H1,I1,q1⟩=>?_);exact h2 pins s1 σ1 H1 _ _ Q I1 rr q1
def gTup(K:Frag)(n:Nat)(t:TGs):TG:=λv σ H Q=>∃a xs,v=.ref a/\SqT K H a xs/\xs.length=n/\t xs σ H Q
theorem lE{es:List Expr}{k:Nat}{t:TGs}{n:Nat}(hc:X.calm=true)(h:PGs X es t)
  (hn:(assignEach es X.env).length=n:=by rfl)(hst:(assignEach es X.env).findIdx? (·.1)=none:=by rfl):PG X (.Tuple es k pos) (gTup X.K n t):=by
 intro pins s σ H v u Q I r hw;obtain⟨a,xs,e1,hq,hl,hw⟩:=hw;subst e1;cases r;obtain⟨its,rv,ht,hz⟩:=I.tuple hq;refine assign_Tuple_tuple (I.ok.hd hc) ht (by simp[hn,←hl,rv.length]) hst λh' hx=>?_;have I1:Inv X pins σ H {s with heap:=h'}:=I.kept (t':=s.toks) λb o e=>hx b o (yB (zP e)) e;exact h pins _ σ H xs _ Q I1 (by simpa using rv) hw
def gSub(to ti:TE)(t:TSet):TG:=λv σ H Q=>to σ H λo H1=>ti σ H1 λi H2=>t o i v H2 λH3=>Q σ H3
theorem aS{o i:Expr}{to ti:TE}{t:TSet}(ho:PE X o to)(hi:PE X i ti)(hs:PSet X t)
  (ha:∀v,assign (.Subscript o i pos) X.env v=(do
   let ov ←holding [v] (eval o X.env)
   let iv ←holding [v,ov] (eval i X.env)
   standAt pos
   holding [v,ov,iv] (setItem ov iv v)
   release [v,ov,iv] []):=by intro _;rfl):PG X (.Subscript o i pos) (gSub to ti t):=by
 intro pins s σ H v u Q I r h;rw[ha];refine zA (xQ (thn (ho pins s σ H _ I h) λov s1⟨x,H1,I1,r1,q1⟩=>?_));refine zA (xQ (thn (hi pins s1 σ H1 _ I1 q1) λiv s2⟨y,H2,I2,r2,q2⟩=>?_));refine zA (uT (zA (xQ (thn (hs pins s2 σ H2 x y v ov iv u _ I2 r1 r2 r q2) λ_ s3⟨H3,I3,q3⟩=>?_))));exact wpAny_release ⟨σ,H3,I3,q3⟩
def tAsg(te:TE)(g:TG):TS:=λD σ H=>te σ H λx H1=>g x σ H1 D.nx
theorem jQ{tg e:Expr}{te:TE}{g:TG}(he:PE X e te)(hg:PG X tg g)(hs:swapsWithSole [tg] e pos.line X.env=pure false:=by rfl)(hw:swappedStores [tg] e X.env=pure none:=by rfl)
  (h1:(assignEach [tg] X.env).map (·.2)=[assign tg X.env]:=by rfl):PS X (.Assign [tg] e pos) (tAsg te g):=by
 intro pins s σ H D I h;refine wpAny_Assign_stores (thn (he pins s σ H _ I h) λv s1⟨x,H1,I1,r1,q1⟩=>?_) hs hw;rw[h1];exact thn (hg pins s1 σ H1 x v _ I1 r1 q1) λ_ s2 q=>q
theorem pZ{i:Nat}{x:Str}{e:Expr}{te:TE}{pos':Pos}(hN:X.N.Nodup)(hi:X.N[i]?=some x)(hx:Loc X.env.scope x)(he:PE X e te)(hs:swapsWith e (some (.Name x pos')) pos.line X.env=pure false:=by rfl)(hf:X.fn x=true\/X.env.scope.names.lookup x=some .local:=by first|exact .inl rfl|exact .inr rfl|assumption):
  PS X (.Assign [.Name x pos'] e pos) (tAsg te (pY i)):=by
 intro pins s σ H D I h;refine wpAny_Assign_Name (thn (he pins s σ H _ I h) λv s1⟨y,H1,I1,r1,q1⟩=>?_) hs;exact fQ I1 hN hi hx r1 (λs2 I2=>⟨_,H1,I2,q1⟩) hf
def tPar(i j:Nat)(ta:TA):TS:=λD σ H=>ta σ H λvs H1=>∃v w,vs=[v,w]/\D.nx ((σ.set i (some v)).set j (some w)) H1
theorem Kc{i j:Nat}{x y:Str}{a b:Expr}{ta:TA}{px py pt:Pos}{kt k2 pt2}(hc:X.calm=true)(hN:X.N.Nodup)(hi:X.N[i]?=some x)(hj:X.N[j]?=some y)(hij:i≠j)
  (hx:X.env.scope.names.lookup x=some .local)(hy:X.env.scope.names.lookup y=some .local)(ha:PA X [a,b] ta)
  (hw:swappedStores [.Tuple [.Name x px,.Name y py] kt pt] (.Tuple [a,b] k2 pt2) X.env=pure (some [x,y]))
  (hs:swapsWithSole [.Tuple [.Name x px,.Name y py] kt pt] (.Tuple [a,b] k2 pt2) pos.line X.env=pure false:=by rfl):
  PS X (.Assign [.Tuple [.Name x px,.Name y py] kt pt] (.Tuple [a,b] k2 pt2) pos) (tPar i j ta):=by
 intro pins s σ H D I h;rw[exec_Assign_arm];refine zA (uT ?_);rw[hs];refine zA (zB ?_);rw[zI ∅];refine zA (Tuple_ (thn (ha _ pins s σ H _ I h) λus s1⟨vs,H1,I1,r1,q1⟩=>?_));obtain⟨v,w,e1,q1⟩:=q1;subst e1;obtain⟨u1,u2,rfl,rv,rw'⟩:∃u1 u2,us=[u1,u2]/\RelV v u1/\RelV w u2:=by
  cases r1 with
  | cons p q =>
   cases q with
   |cons p' q' =>
    cases q';exact⟨_,_,rfl,p,p'⟩
 refine xI ?_ (by show 2<=sizeLine;decide);have I2:Inv X pins σ H1 {s1 with heap:=s1.heap.push {cls:=.type "tuple",data:=.seq [u1,u2].toArray}}:=I1.kept (t':=s1.toks) λb o e=>zD _ e;rw[hw];refine zA (zB ?_);show wpAny (model X.prog X.w) X.A (do rule "assign.swapped-stores";let items ←unpackItems (.ref s1.heap.objs.size) 2 none;assignInOrder [λv=>bindName X.env y v,λv=>bindName X.env x v] items.reverse;pure Flow.next) _ _ _;refine zA (wP (zA (unpackItems_tuple (items:=#[u1,u2]) (I.ok.hd hc) (IsTup.new s1.heap _) λh' hx'=>?_)));have I3:=I2.kept (h':=h') (t':=s1.toks) λb o e=>hx' b o (yB (zP e)) e;show wpAny _ _ (assignInOrder [λv=>bindName X.env y v,λv=>bindName X.env x v] [u2,u1] >>= λ_=>pure Flow.next) _ _ _;refine zA (rG (wpAny_bindName (fQ I3 hN hj (.inl hy) rw' (λs2 I4=>?_) (.inr hy))));refine rG (wpAny_bindName (fQ I4 hN hi (.inl hx) rv (λs3 I5=>assignInOrder_nil (zB ?_)) (.inr hx)));rw[List.set_comm _ _ (yE hij)]at I5;exact⟨_,H1,I5,q1⟩
def tAug(i:Nat)(te:TE)(ti:TIp):TS:=λD σ H=>∃x,σ[i]?=some (some x)/\te σ H λy H1=>ti x y H1 λz H2=>D.nx (σ.set i (some z)) H2
theorem Dh{i:Nat}{x:Str}{e:Expr}{te:TE}{op:Operator}{ti:TIp}{pos':Pos}(hN:X.N.Nodup)(hi:X.N[i]?=some x)(hx:Loc X.env.scope x)(he:PE X e te)(ho:PIp X op ti)(hf:X.fn x=true\/X.env.scope.names.lookup x=some .local:=by first|exact .inl rfl|exact .inr rfl|assumption):
  PS X (.AugAssign (.Name x pos') op e pos) (tAug i te ti):=by
 intro pins s σ H D I h;obtain⟨v,e1,h⟩:=h;obtain⟨m,hn,hl⟩:=I.loc;have vis:Vis X.env.scope x:=by rcases hx with k|k;exact .inl k;exact .inr (.inl k)
 obtain⟨u,r,l⟩:=hl i x v hi e1 vis;refine wpAny_AugAssign_Name ?_;have go:wpAny (model X.prog X.w) X.A (eval e X.env) (λw s₂=>wpAny (model X.prog X.w) X.A (inplaceOp op u w) (λr s₃=>wpAny (model X.prog X.w) X.A (storeName X.env x r) (λ_=>SP X pins D .next) X.xe s₃) X.xe s₂) X.xe s:=by
  refine thn (he pins s σ H _ I h) λw s1⟨y,H1,I1,r1,q1⟩=>?_;refine thn (ho pins s1 σ H1 v y u w _ I1 r r1 q1) λz s2⟨zv,H2,I2,r2,q2⟩=>?_;exact fQ I2 hN hi hx r2 (λs3 I3=>⟨_,H2,I3,q2⟩) hf
 rcases l with⟨hk,hm⟩|⟨hk,c,hc,hcell⟩
 ·exact wpAny_loadName_local I.ok.kind hk hn hm go
 ·rcases hk with hk|hk
  ·exact wpAny_loadName_cell I.ok.kind hk hc hcell go
  ·rcases hx with k|k
   ·have:X.env.scope.names.lookup x=some .free:=hk;rw[k]at this;cases this
   ·have:X.env.scope.names.lookup x=some .free:=hk;rw[k]at this;cases this
def ipI(f:Int->Int->Int):TIp:=λx y H Q=>∃i j,x=.int i/\y=.int j/\Q (.int (f i j)) H
theorem Dg:PIp X .Add (ipI λi j=>i+j):=by
 intro pins s σ H x y v u Q I r1 r2 h;obtain⟨i,j,e1,e2,q⟩:=h;subst e1;subst e2;obtain⟨t,rfl⟩:=r1;obtain⟨t',rfl⟩:=r2;exact iadd_int ⟨.int _,H,I.tok _,⟨_,rfl⟩,q⟩
def Df(c:TT)(tb:TS):TS:=λD σ H=>∃W:Nat->St->Hp->Prop,(∃m,W m σ H)/\∀m σ H,W m σ H ->
 c σ H λb H1=>if b=true then∃N:St->Hp->Prop,(∀σ' H',N σ' H'->∃m',m'<m/\W m' σ' H')/\tb {D with nx:=N,ct:=N,bk:=D.nx} σ H1 else D.nx σ H1
theorem aT{c:Expr}{body:List Stmt}{tc:TT}{tb:TS}(hp:PassesOwn (model X.prog X.w) X.A X.env X.xe)(hc:PT X c tc)(hb:PSs X body tb):PS X (.While c body [] pos) (Df tc tb):=by
 intro pins s σ H D I h;obtain⟨W,⟨m0,w0⟩,turn⟩:=h;refine wpAny_While (codeAny_whileLoop (λn s'=>∃σ' H',Inv X pins σ' H' s'/\W n σ' H') ?_ m0 ⟨σ,H,I,w0⟩);rintro n s1 ⟨σ1,H1,I1,w1⟩;refine vH hp (thn (hc pins s1 σ1 H1 _ I1 (turn n σ1 H1 w1)) λb s2⟨H2,I2,q2⟩=>?_);cases b with
 | true =>
  obtain⟨N,hN,q2⟩:=q2;rw[zJ rfl];refine vH hp (thn (hb pins s2 σ1 H2 _ I2 q2) λf s3 q3=>?_);cases f with
  |next =>
   obtain⟨σ3,H3,I3,n3⟩:=q3;obtain⟨m',hm,w3⟩:=hN σ3 H3 n3;exact⟨m',hm,σ3,H3,I3,w3⟩
  |cont =>
   obtain⟨σ3,H3,I3,n3⟩:=q3;obtain⟨m',hm,w3⟩:=hN σ3 H3 n3;exact⟨m',hm,σ3,H3,I3,w3⟩
  |brk=>exact q3
  |ret v=>exact q3
 |false =>
  rw[zI yF];exact sT ⟨σ1,H2,I2,q2⟩
end
structure It where
 go:Nat->Hp->Prop
 yld:Nat->Hp->V->Hp->Prop
 stop:Nat->Hp->Prop
def FpOk(X:Cx)(pins:PN)(H:Hp)(b:Addr):Prop:=
 H b=none/\b≠X.env.locals/\b∉X.fs/\(b∈X.ex\/X.s₀.heap.objs.size<=b)/\(∀x c,X.env.cells.lookup x=some c->c≠b)/\∀p∈X.pn++pins,p.1≠b
theorem Inv.fpOk{X:Cx}{pins:PN}{σ:St}{H H':Hp}{s:Shared}{b:Addr}(I:Inv X pins σ H s)(hb:s.heap.objs.size<=b)(hn:H' b=none):FpOk X pins H' b:=by
 refine⟨hn,sL (zE I.lt hb),I.nofs hb,.inr (yL I.sz hb),λx c e z=>?_,λp hp z=>?_⟩
 ·obtain⟨v,q⟩:=I.cell x c e;exact absurd (zE q.lt (by rw[z];exact hb)) (xB _)
 ·exact absurd (zE (zP (I.pin p hp).1) (by rw[z];exact hb)) (xB _)
structure Turn(P:Program)(w:World)(K:Frag)(tg:Expr)(J:It)(fp:LA)(it:Addr)(tn:Nat->Heap->Prop):Prop where
 mem:it∈fp
 obj:∀i h,tn i h->∀b∈fp,∃o,h.get? b=some o/\∀v,o.data≠.cell v
 keep:∀i h h',tn i h->(∀b∈fp,∀o,h.get? b=some o->h'.get? b=some o)->tn i h'
 item:∀(X:Cx),X.prog=P->X.w=w->X.K=K->X.calm=true->∀(i:Nat)(pins:PN)(s:Shared)(σ:St)(H:Hp)(E:VP),Inv X pins σ H s->(∀b∈fp,FpOk X pins H b)->tn i s.heap->J.go i H ->
  wpAny (model P w) X.A (pyNext (.ref it)) (λr s1=>∃u,r=some u /\
   wpAny (model P w) X.A (letOwnedTupleGo tg (.ref it) u) (λ_ s2=>∃x H',Inv X pins σ H' s2/\RelV x u/\J.yld i H x H'/\tn (i+1) s2.heap/\∀b∈fp,H' b=none) E s1) E s
 done:∀(X:Cx),X.prog=P->X.w=w->X.K=K->X.calm=true->∀(i:Nat)(pins:PN)(s:Shared)(σ:St)(H:Hp)(E:VP),Inv X pins σ H s->(∀b∈fp,FpOk X pins H b)->tn i s.heap->J.stop i H ->
  wpAny (model P w) X.A (pyNext (.ref it)) (λr s1=>r=none/\Inv X pins σ H s1) E s
 self:∀(A:Around)(i:Nat)(s:Shared)(Q:VP)(E:VP),tn i s.heap->Q (.ref it) s->wpAny (model P w) A (pyIter (.ref it)) Q E s
abbrev TI:=St->Hp->(It->Hp->Prop)->Prop
def PIE(X:Cx)(pins:PN)(σ:St)(tg:Expr)(R:It->Hp->Prop)(itv:Value)(s2:Shared):Prop:=
 ∃(it:Addr)(fp:LA)(tn:Nat->Heap->Prop)(J:It)(H':Hp),itv=.ref it/\Inv X pins σ H' s2/\Turn X.prog X.w X.K tg J fp it tn/\tn 0 s2.heap/\(∀b∈fp,FpOk X pins H' b)/\R J H'
def PI(X:Cx)(tg iter:Expr)(wi:TI):Prop:=
 ∀(pins:PN)(s:Shared)(σ:St)(H:Hp)(R:It->Hp->Prop),Inv X pins σ H s->wi σ H R ->
  wpAny (model X.prog X.w) X.A (eval iter X.env) (λv s1=>wpAny (model X.prog X.w) X.A (pyIter v) (PIE X pins σ tg R) X.xe s1) X.xe s
theorem aU {M:Model}{A:Around}{E:VP}{s:Shared}{tg:Expr}{it:Addr}{u:Value}{o:Obj}{n:String}{vs:Array Value}{Q:Unit->Shared->Prop}(ho:s.heap.get? it=some o)(hc:o.cls=.type n)(hd:o.data=.fields vs)
    (hn:["enumerate","zip","dict_itemiterator","dict_reverseitemiterator","odict_iterator","itertools.zip_longest","itertools.pairwise"].contains n=false)(hQ:Q () s):wpAny M A (letOwnedTupleGo tg (.ref it) u) Q E s:=by
  unfold letOwnedTupleGo;cases tg <;> first
    |exact zB hQ
    |(cases u <;> first
        |exact zB hQ
        | (refine zA (wpAny_load ho ?_)
           rw[hc,hd];show wpAny M A (if(["enumerate","zip","dict_itemiterator","dict_reverseitemiterator","odict_iterator","itertools.zip_longest","itertools.pairwise"].contains n && vs[0]? == some (rawInt _))=true then _ else _) Q E s;rw[zI (by intro h;rw[hn,Bool.false_and]at h;cases h)];exact zB hQ))
noncomputable def Itl(K:Frag)(a:Addr):It:=
 ⟨λi H=>∃xs x,SqL K H a xs/\xs[i]?=some x,λi H x H'=>H'=H/\∀xs,SqL K H a xs->xs[i]?=some x,λi H=>∃xs,SqL K H a xs/\xs.length<=i⟩
noncomputable def Itt(K:Frag)(a:Addr):It:=
 ⟨λi H=>∃xs x,SqT K H a xs/\xs[i]?=some x,λi H x H'=>H'=H/\∀xs,SqT K H a xs->xs[i]?=some x,λi H=>∃xs,SqT K H a xs/\xs.length<=i⟩
noncomputable def Itr(lo:Int)(n:Nat):It:=⟨λi _=>i<n,λi H x H'=>H'=H/\x=.int (lo+i),λi _=>n<=i⟩
theorem Kb{P:Program}{w:World}{K:Frag}{tg:Expr}(a it:Addr):Turn P w K tg (Itl K a) [it] it (λi h=>h.IsListIter it a i) where
 mem:=by simp
 obj:=λi h st b hb=>by
  have e:b=it:=by simpa using hb
  subst e;obtain⟨o,e,c,d⟩:=st;exact⟨o,e,λv z=>by rw[d]at z;cases z⟩
 keep:=λi h h' st k=>st.at λo e=>k it (by simp) o e
 item:=by
  intro X hP hw hK hc i pins s σ H E I hf st hg;subst hP hw hK;obtain⟨xs,x,hq,hx⟩:=hg;obtain⟨its,rv,p,hz⟩:=I.list hq;obtain⟨u,hu,ru⟩:=rv.get hx;obtain⟨f0,f1,f2,f3,f4,f5⟩:=hf it (by simp);refine wpAny_pyNext_list_item st p.isList (x:=u) (by simpa using hu) λh' st' sb=>?_;have I1:Inv X pins σ H {s with heap:=h'}:=I.turned (t':=s.toks) (λb o hb e=>(sb.2 b hb).trans e) f0 f1 f3 f4 f5;obtain⟨o,e,c,d⟩:=id st';exact⟨u,rfl,aU (s:={s with heap:=h'}) e c d ∅ ⟨x,H,I1,ru,⟨rfl,λys hy=>by rw[I.list_inj hy hq];exact hx⟩,st',λb hb=>(hf b hb).1⟩⟩
 done:=by
  intro X hP hw hK hc i pins s σ H E I hf st hg;subst hP hw hK;obtain⟨xs,hq,hx⟩:=hg;obtain⟨its,rv,p,hz⟩:=I.list hq;obtain⟨f0,f1,f2,f3,f4,f5⟩:=hf it (by simp);have hl:=rv.length;exact wpAny_pyNext_list_end (I.ok.hd hc) st p.isList (by simp;omega) λh' eb=>⟨rfl,I.turned (t':=s.toks) (λb o hb e=>eb b o hb e) f0 f1 f3 f4 f5⟩
 self:=λ_ _ _ _ _ st h=>wpAny_pyIter_listiter st h
theorem Ka{P:Program}{w:World}{K:Frag}{tg:Expr}(a it:Addr):Turn P w K tg (Itt K a) [it] it (λi h=>h.IsTupleIter it a i) where
 mem:=by simp
 obj:=λi h st b hb=>by
  have e:b=it:=by simpa using hb
  subst e;obtain⟨o,e,c,d⟩:=st;exact⟨o,e,λv z=>by rw[d]at z;cases z⟩
 keep:=λi h h' st k=>st.at λo e=>k it (by simp) o e
 item:=by
  intro X hP hw hK hc i pins s σ H E I hf st hg;subst hP hw hK;obtain⟨xs,x,hq,hx⟩:=hg;obtain⟨its,rv,p,hz⟩:=I.tuple hq;obtain⟨u,hu,ru⟩:=rv.get hx;obtain⟨f0,f1,f2,f3,f4,f5⟩:=hf it (by simp);refine wpAny_pyNext_tuple_item st (show s.heap.IsTuple a its.toArray from p) (x:=u) (by simpa using hu) λh' st' sb=>?_;have I1:Inv X pins σ H {s with heap:=h'}:=I.turned (t':=s.toks) (λb o hb e=>(sb.2 b hb).trans e) f0 f1 f3 f4 f5;obtain⟨o,e,c,d⟩:=id st';exact⟨u,rfl,aU (s:={s with heap:=h'}) e c d ∅ ⟨x,H,I1,ru,⟨rfl,λys hy=>by rw[I.tuple_inj hy hq];exact hx⟩,st',λb hb=>(hf b hb).1⟩⟩
 done:=by
  intro X hP hw hK hc i pins s σ H E I hf st hg;subst hP hw hK;obtain⟨xs,hq,hx⟩:=hg;obtain⟨its,rv,p,hz⟩:=I.tuple hq;obtain⟨f0,f1,f2,f3,f4,f5⟩:=hf it (by simp);have hl:=rv.length;exact wpAny_pyNext_tuple_end (I.ok.hd hc) st (show s.heap.IsTuple a its.toArray from p) (by simp;omega) λh' eb=>⟨rfl,I.turned (t':=s.toks) (λb o hb e=>eb b o hb e) f0 f1 f3 f4 f5⟩
 self:=λ_ _ _ _ _ st h=>wpAny_pyIter_tupleiter st h
theorem Lz{P:Program}{w:World}{K:Frag}{tg:Expr}(it:Addr)(lo:Int)(n:Nat):Turn P w K tg (Itr lo n) [it] it (λi h=>IsRangeIter h it (lo+(i:Nat)*1) ((n:Int)-(i:Nat)) 1) where
 mem:=by simp
 obj:=λi h st b hb=>by
  have e:b=it:=by simpa using hb
  subst e;exact⟨_,st,λv z=>by
   have z':Data.fields _=Data.cell v:=z;cases z'⟩
 keep:=λi h h' st k=>k it (by simp) _ st
 item:=by
  intro X hP hw hK hc i pins s σ H E I hf st hg;subst hP hw hK;obtain⟨f0,f1,f2,f3,f4,f5⟩:=hf it (by simp);have W:=Walks.range (prog:=X.prog) (w:=X.w) (I.ok.hd hc) it lo 1 n;refine W.item i s _ _ hg st λv h' tk hv st' kk=>?_;obtain⟨t,rfl⟩:=hv;have I1:Inv X pins σ H {s with heap:=h',toks:=tk}:=I.turned (λb o hb e=>kk b o (by simpa using hb) e) f0 f1 f3 f4 f5;refine⟨_,rfl,aU (s:={s with heap:=h',toks:=tk}) (n:= "range_iterator") st' rfl rfl ∅ ⟨.int (lo+i),H,I1,⟨t,?_⟩,⟨rfl,rfl⟩,st',λb hb=>(hf b hb).1⟩⟩;rw[uE]
 done:=by
  intro X hP hw hK hc i pins s σ H E I hf st hg;subst hP hw hK;obtain⟨f0,f1,f2,f3,f4,f5⟩:=hf it (by simp);exact wpAny_pyNext_range_end (I.ok.hd hc) st (by have:n<=i:=hg;omega) λh' eb=>⟨rfl,I.turned (t':=s.toks) (λb o hb e=>eb b o hb e) f0 f1 f3 f4 f5⟩
 self:=λ_ _ _ _ _ st h=>wpAny_pyIter_rangeiter st h
section
variable {X:Cx} {tg:Expr}
theorem Ly{pins:PN}{σ:St}{H:Hp}{s:Shared}{R:It->Hp->Prop}{E:VP}{lo hi:Int}{t u v:Tok}{tk:Nat}(I:Inv X pins σ H s)(h1:-(2^62)<=lo)(h2:lo<2^62)(h3:-(2^62)<=hi)(h4:hi<2^62)
  (q:R (Itr lo (hi-lo).toNat) H):wpAny (model X.prog X.w) X.A (pyIter (.ref s.heap.objs.size)) (PIE X pins σ tg R) E {s with heap:=s.heap.push {cls:=.type "range",data:=.fields #[.int lo t,.int hi u,.int 1 v]},toks:=tk}:=by
 refine wpAny_pyIter_range (IsRange.new ..) (small_one h1 h2 h3 h4) ?_;have I1:Inv X pins σ H {s with heap:=s.heap.push {cls:=.type "range",data:=.fields #[.int lo t,.int hi u,.int 1 v]},toks:=tk}:=I.kept λb o e=>zD _ e;refine⟨(s.heap.push {cls:=.type "range",data:=.fields #[.int lo t,.int hi u,.int 1 v]}).objs.size,[(s.heap.push {cls:=.type "range",data:=.fields #[.int lo t,.int hi u,.int 1 v]}).objs.size],_,_,H,rfl,
  I1.kept (t':=tk) λb o e=>zD _ e,Lz _ lo (hi-lo).toNat,?_,λb hb=>?_,q⟩
 ·have e1:lo+((0:Nat):Int)*1=lo:=by simp
  have e2:(((hi-lo).toNat:Nat):Int)-((0:Nat):Int)=Builtin.Range.rangeSize lo hi 1:=by rw[rangeSize_one];split <;> omega
  show IsRangeIter _ _ (lo+((0:Nat):Int)*1) ((((hi-lo).toNat:Nat):Int)-((0:Nat):Int)) 1;rw[e1,e2];exact zT _ rfl
 ·have e:b=(s.heap.push {cls:=.type "range",data:=.fields #[.int lo t,.int hi u,.int 1 v]}).objs.size:=by simpa using hb
  subst e;exact I1.fpOk (zG _) (I1.hok.fresh (zG _))
def nI(ta:TA):TI:=λσ H R=>ta σ H λvs H1=>∃j:Int,vs=[.int j]/\-(2^62)<=j/\j<2^62/\R (Itr 0 j.toNat) H1
theorem nW{a:Expr}{ta:TA}{p pos:Pos}(hg:Gl X "range")(hm:X.mg "range"=none)(ha:PA X [a] ta)(hs:starEach [a] X.env=[(false,eval a X.env)]:=by rfl):PI X tg (.Call (.Name "range" p) [a] [] pos) (nI ta):=by
 intro pins s σ H R I h;refine Call_ (gK I hg hm boot_range (vB (thn (ha pos pins s σ H _ I h) λus s1⟨vs,H1,I1,r1,q1⟩=>?_) hs rfl));obtain⟨j,e,q1,q2,q⟩:=q1;subst e;cases r1 with
 |cons r rr =>
  cases rr;obtain⟨t,rfl⟩:=r;exact call_range_1 (Ly I1 ⋯ ⋯ q1 q2 (by simpa using q))
def tFor(wi:TI)(g:TG)(tb:TS):TS:=λD σ H=>wi σ H λJ H1=>∃W:Nat->Nat->St->Hp->Prop,(∃m,W 0 m σ H1)/\∀i m σ H,W i m σ H ->
 (J.stop i H/\D.nx σ H)\/(J.go i H/\∃N:St->Hp->Prop,(∀σ' H',N σ' H'->∃m',m'<m/\W (i+1) m' σ' H')/\∀x H',J.yld i H x H'->g x σ H' λσ2 H2=>tb {D with nx:=N,ct:=N,bk:=D.nx} σ2 H2)
noncomputable def fR(fp:LA)(h:Heap):PN:=fp.filterMap λb=>(h.get? b).map λo=>(b,o)
theorem cC{fp:LA}{h:Heap}{b:Addr}{o:Obj}(hb:b∈fp)(e:h.get? b=some o):(b,o)∈fR fp h:=List.mem_filterMap.mpr ⟨b,hb,by rw[e];rfl⟩
theorem Lx{fp:LA}{h:Heap}{p:Addr×Obj}(hp:p∈fR fp h):p.1∈fp/\h.get? p.1=some p.2:=by
 obtain⟨b,hb,e⟩:=List.mem_filterMap.mp hp;cases q:h.get? b with
 |none=>rw[q]at e;cases e
 |some o =>
  rw[q]at e;have e':(b,o)=p:=zR e;subst e';exact⟨hb,q⟩
theorem Inv.pinned{pins:PN}{σ:St}{H:Hp}{s:Shared}{fp:LA}(I:Inv X pins σ H s)(hf:∀b∈fp,FpOk X pins H b)(ho:∀b∈fp,∃o,s.heap.get? b=some o/\∀v,o.data≠.cell v):Inv X (pins++fR fp s.heap) σ H s:=
 I.pins_of λp hp=>(pH.mp hp).elim (λz=>I.pin p (yJ _ z)) λz=>by
  obtain⟨hb,e⟩:=Lx z;obtain⟨f0,f1,f2,_⟩:=hf p.1 hb;obtain⟨o,e',d⟩:=ho p.1 hb;rw[e]at e';cases e';exact⟨e,f0,f1,f2,d⟩
theorem Inv.unpinned{pins pl:PN}{σ:St}{H:Hp}{s:Shared}(I:Inv X (pins++pl) σ H s):Inv X pins σ H s:=I.pins_of λp hp=>I.pin p (yJ _ (wA _ hp))
theorem mX{iter:Expr}{body:List Stmt}{wi:TI}{g:TG}{tb:TS}{pos:Pos}(hp:PassesOwn (model X.prog X.w) X.A X.env X.xe)(hc:X.calm=true)(hi:PI X tg iter wi)(hg:PG X tg g)(hb:PSs X body tb)
  (hs:∀x,foldedSetIterable iter X.env x=pure x:=by intro _;rfl):PS X (.For tg iter body [] pos) (tFor wi g tb):=by
 intro pins s σ H D I h;refine wpAny_For (thn (hi pins s σ H _ I h) λv s1 h1=>thn h1 λitv s2 h2=>?_) hs;obtain⟨it,fp,tn,J,H2,e,I2,T,st2,f2,W,⟨m0,w0⟩,turn⟩:=h2;subst e
 -- what stays true of the iterator's objects through the loop
 have stat:∀{H':Hp},(∀b∈fp,H' b=none)->∀b∈fp,FpOk X pins H' b:=λhn b hb=>⟨hn b hb,(f2 b hb).2⟩;refine codeAny_forLoop_any (λn s'=>∃i σ' H',Inv X pins σ' H' s'/\tn i s'.heap/\(∀b∈fp,H' b=none)/\W i n σ' H') ?_ m0 ⟨0,σ,H2,I2,st2,λb hb=>(f2 b hb).1,w0⟩;rintro n s3 ⟨i,σ3,H3,I3,st3,fr3,w3⟩;rcases turn i n σ3 H3 w3 with⟨stop,qn⟩|⟨go,N,hN,step⟩
 ·refine vH hp (thn (T.done X rfl rfl rfl hc i pins s3 σ3 H3 X.xe I3 (stat fr3) st3 stop) λr s4⟨hr,I4⟩=>?_);subst hr;exact sT ⟨σ3,H3,I4,qn⟩
 ·refine vH hp (thn (T.item X rfl rfl rfl hc i pins s3 σ3 H3 X.xe I3 (stat fr3) st3 go) λr s4⟨u,hr,h4⟩=>?_);subst hr;refine vH hp (thn h4 λ_ s5⟨x,H5,I5,r5,y5,st5,fr5⟩=>?_);have I5':=I5.pinned (stat fr5) (T.obj _ _ st5);refine vH hp (thn (hg _ s5 σ3 H5 x u _ I5' r5 (step x H5 y5)) λ_ s6⟨σ6,H6,I6,q6⟩=>?_);refine vH hp (thn (hb _ s6 σ6 H6 _ I6 q6) λf s7 q7=>?_);have again:∀{σ7:St}{H7:Hp},Inv X (pins++fR fp s5.heap) σ7 H7 s7->N σ7 H7->∃m,m<n/\∃i σ' H',Inv X pins σ' H' s7/\tn i s7.heap/\(∀b∈fp,H' b=none)/\W i m σ' H':=λ{σ7 H7}I7 n7=>by
   obtain⟨m',hm,w7⟩:=hN σ7 H7 n7;refine⟨m',hm,i+1,σ7,H7,I7.unpinned,T.keep _ _ _ st5 λb hb o e=>(I7.pin (b,o) (yJ _ (yJ _ (cC hb e)))).1,λb hb=>?_,w7⟩;obtain⟨o,e,d⟩:=T.obj _ _ st5 b hb;exact(I7.pin (b,o) (yJ _ (yJ _ (cC hb e)))).2.1
  cases f with
  |next=>obtain⟨σ7,H7,I7,n7⟩:=q7;exact again I7 n7
  |cont=>obtain⟨σ7,H7,I7,n7⟩:=q7;exact again I7 n7
  |brk=>obtain⟨σ7,H7,I7,q7⟩:=q7;exact⟨σ7,H7,I7.unpinned,q7⟩
  |ret v=>obtain⟨x7,σ7,H7,I7,r7,q7⟩:=q7;exact⟨x7,σ7,H7,I7.unpinned,r7,q7⟩
end
theorem Lw{K:Frag}{a:Addr}{xs:List V}{g:TG}{tb:TS}{D:Ends}{σ:St}{H:Hp}(Pv:Nat->St->Hp->Prop)(h0:Pv 0 σ H)(hl:∀i σ H,i<=xs.length->Pv i σ H->SqL K H a xs)
  (hs:∀i x σ H,xs[i]?=some x->Pv i σ H->g x σ H λσ2 H2=>tb {D with nx:=Pv (i+1),ct:=Pv (i+1),bk:=D.nx} σ2 H2)(hd:∀σ H,Pv xs.length σ H->D.nx σ H):
  ∃W:Nat->Nat->St->Hp->Prop,(∃m,W 0 m σ H)/\∀i m σ H,W i m σ H ->
   ((Itl K a).stop i H/\D.nx σ H)\/((Itl K a).go i H/\∃N:St->Hp->Prop,(∀σ' H',N σ' H'->∃m',m'<m/\W (i+1) m' σ' H')/\∀x H',(Itl K a).yld i H x H'->g x σ H' λσ2 H2=>tb {D with nx:=N,ct:=N,bk:=D.nx} σ2 H2):=by
 refine⟨λi m σ H=>m=xs.length-i/\i<=xs.length/\Pv i σ H,⟨xs.length,by simp,yU _,h0⟩,?_⟩;rintro i m σ H ⟨rfl,hi,p⟩;have q:=hl i σ H hi p
 by_cases hlt:i<xs.length
 ·refine .inr ⟨⟨xs,xs[i],q,by simp[hlt]⟩,Pv (i+1),λσ' H' p'=>⟨xs.length-(i+1),⋯,rfl,hlt,p'⟩,λx H' y=>?_⟩;obtain⟨e,y⟩:=y;subst e;exact hs i x σ _ (y xs q) p
 ·have e:i=xs.length:=⋯
  subst e;exact .inl ⟨⟨xs,q,zG _⟩,hd σ H p⟩
theorem Lv{K:Frag}{a:Addr}{xs:List V}{g:TG}{tb:TS}{D:Ends}{σ:St}{H:Hp}(Pv:Nat->St->Hp->Prop)(h0:Pv 0 σ H)(hl:∀i σ H,i<=xs.length->Pv i σ H->SqT K H a xs)
  (hs:∀i x σ H,xs[i]?=some x->Pv i σ H->g x σ H λσ2 H2=>tb {D with nx:=Pv (i+1),ct:=Pv (i+1),bk:=D.nx} σ2 H2)(hd:∀σ H,Pv xs.length σ H->D.nx σ H):
  ∃W:Nat->Nat->St->Hp->Prop,(∃m,W 0 m σ H)/\∀i m σ H,W i m σ H ->
   ((Itt K a).stop i H/\D.nx σ H)\/((Itt K a).go i H/\∃N:St->Hp->Prop,(∀σ' H',N σ' H'->∃m',m'<m/\W (i+1) m' σ' H')/\∀x H',(Itt K a).yld i H x H'->g x σ H' λσ2 H2=>tb {D with nx:=N,ct:=N,bk:=D.nx} σ2 H2):=by
 refine⟨λi m σ H=>m=xs.length-i/\i<=xs.length/\Pv i σ H,⟨xs.length,by simp,yU _,h0⟩,?_⟩;rintro i m σ H ⟨rfl,hi,p⟩;have q:=hl i σ H hi p
 by_cases hlt:i<xs.length
 ·refine .inr ⟨⟨xs,xs[i],q,by simp[hlt]⟩,Pv (i+1),λσ' H' p'=>⟨xs.length-(i+1),⋯,rfl,hlt,p'⟩,λx H' y=>?_⟩;obtain⟨e,y⟩:=y;subst e;exact hs i x σ _ (y xs q) p
 ·have e:i=xs.length:=⋯
  subst e;exact .inl ⟨⟨xs,q,zG _⟩,hd σ H p⟩
theorem Lu{lo:Int}{n:Nat}{g:TG}{tb:TS}{D:Ends}{σ:St}{H:Hp}(Pv:Nat->St->Hp->Prop)(h0:Pv 0 σ H)
  (hs:∀i σ H,i<n->Pv i σ H->g (.int (lo+i)) σ H λσ2 H2=>tb {D with nx:=Pv (i+1),ct:=Pv (i+1),bk:=D.nx} σ2 H2)(hd:∀σ H,Pv n σ H->D.nx σ H):
  ∃W:Nat->Nat->St->Hp->Prop,(∃m,W 0 m σ H)/\∀i m σ H,W i m σ H ->
   ((Itr lo n).stop i H/\D.nx σ H)\/((Itr lo n).go i H/\∃N:St->Hp->Prop,(∀σ' H',N σ' H'->∃m',m'<m/\W (i+1) m' σ' H')/\∀x H',(Itr lo n).yld i H x H'->g x σ H' λσ2 H2=>tb {D with nx:=N,ct:=N,bk:=D.nx} σ2 H2):=by
 refine⟨λi m σ H=>m=n-i/\i<=n/\Pv i σ H,⟨n,by simp,yU _,h0⟩,?_⟩;rintro i m σ H ⟨rfl,hi,p⟩
 by_cases hlt:i<n
 ·refine .inr ⟨hlt,Pv (i+1),λσ' H' p'=>⟨n-(i+1),⋯,rfl,hlt,p'⟩,λx H' y=>?_⟩;obtain⟨e,y⟩:=y;subst e y;exact hs i σ _ hlt p
 ·have e:i=n:=⋯
  subst e;exact .inl ⟨zG _,hd σ H p⟩
abbrev R2:=V->V->Hp->VK->Prop
def OpR(X:Cx)(f:Value->Value->Sem Value)(r:R2):Prop:=
 ∀(pins:PN)(s:Shared)(σ:St)(H:Hp)(x y:V)(v u:Value)(Q:VK),Inv X pins σ H s->RelV x v->RelV y u->r x y H Q ->
  wpAny (model X.prog X.w) X.A (f v u) (EP X pins σ Q) X.xe s
def UnR(X:Cx)(f:Value->Sem Value)(r:V->Hp->VK->Prop):Prop:=
 ∀(pins:PN)(s:Shared)(σ:St)(H:Hp)(x:V)(v:Value)(Q:VK),Inv X pins σ H s->RelV x v->r x H Q ->
  wpAny (model X.prog X.w) X.A (f v) (EP X pins σ Q) X.xe s
def lF(X:Cx)(f:Value)(r:List V->Hp->VK->Prop):Prop:=
 ∀(pins:PN)(s:Shared)(σ:St)(H:Hp)(xs:List V)(us:LW)(Q:VK),Inv X pins σ H s->Vals xs us->r xs H Q ->
  wpAny (model X.prog X.w) X.A (call f us) (EP X pins σ Q) X.xe s
def tOp(r:R2)(ta tb:TE):TE:=λσ H Q=>ta σ H λx H1=>tb σ H1 λy H2=>r x y H2 Q
def tUn(r:V->Hp->VK->Prop)(ta:TE):TE:=λσ H Q=>ta σ H λx H1=>r x H1 Q
def rI(C:Int->Int->Prop)(g:Int->Int->V):R2:=λx y H Q=>∃i j,x=.int i/\y=.int j/\C i j/\Q (g i j) H
def rI0(g:Int->Int->V):R2:=λx y H Q=>∃i j,x=.int i/\y=.int j/\Q (g i j) H
def rU(g:Int->V):V->Hp->VK->Prop:=λx H Q=>∃i,x=.int i/\Q (g i) H
section
variable {X:Cx} {a b c:Expr} {ta tb tc:TE} {pos:Pos}
theorem binT(ha:PE X a ta)(hb:PE X b tb){pins:PN}{s:Shared}{σ:St}{H:Hp}{R:V->V->Hp->Prop}(I:Inv X pins σ H s)
  (h:ta σ H λx H1=>tb σ H1 λy H2=>R x y H2){Q:VP}{f:Value->Value->Sem Value}
  (hf:∀v u s2 x y H2,Inv X pins σ H2 s2->RelV x v->RelV y u->R x y H2->wpAny (model X.prog X.w) X.A (f v u) Q X.xe s2):
  wpAny (model X.prog X.w) X.A (eval a X.env) (λv s₁=>wpAny (model X.prog X.w) X.A (eval b X.env) (λu s₂=>wpAny (model X.prog X.w) X.A (f v u) Q X.xe s₂) X.xe s₁) X.xe s:=by
 refine thn (ha pins s σ H _ I h) λv s1⟨x,H1,I1,r1,q1⟩=>?_;refine thn (hb pins s1 σ H1 _ I1 q1) λu s2⟨y,H2,I2,r2,q2⟩=>?_;exact hf v u s2 x y H2 I2 r1 r2 q2
theorem pO{op:Operator}{r:R2}(ho:OpR X (binaryOp op) r)(ha:PE X a ta)(hb:PE X b tb):PE X (.BinOp a op b pos) (tOp r ta tb):=by
 intro pins s σ H Q I h;exact wpAny_BinOp (binT ha hb I h λv u s2 x y H2 I2 rx ry q=>ho pins s2 σ H2 x y v u Q I2 rx ry q)
theorem gM{op:UnaryOp}{r:V->Hp->VK->Prop}(ho:UnR X (unaryOp op) r)(ha:PE X a ta):PE X (.UnaryOp op a pos) (tUn r ta):=by
 intro pins s σ H Q I h;exact UnaryOp_ (thn (ha pins s σ H _ I h) λv s1⟨x,H1,I1,r1,q1⟩=>ho pins s1 σ H1 x v Q I1 r1 q1)
theorem opI{f:Value->Value->Sem Value}{C:Int->Int->Prop}{g:Int->Int->Int}
  (rule:∀(i j:Int)(t u:Tok)(s:Shared)(Q:VP)(E:VP),C i j->Q (.int (g i j) s.toks) {s with toks:=s.toks+1}->wpAny (model X.prog X.w) X.A (f (.int i t) (.int j u)) Q E s):
  OpR X f (rI C λi j=>.int (g i j)):=by
 intro pins s σ H x y v u Q I rx ry h;obtain⟨i,j,rfl,rfl,hc,q⟩:=h;obtain⟨t,rfl⟩:=rx;obtain⟨t',rfl⟩:=ry;exact rule i j t t' s _ _ hc ⟨.int (g i j),H,I.tok _,⟨_,rfl⟩,q⟩
theorem opI0{f:Value->Value->Sem Value}{g:Int->Int->Int}
  (rule:∀(i j:Int)(t u:Tok)(s:Shared)(Q:VP)(E:VP),Q (.int (g i j) s.toks) {s with toks:=s.toks+1}->wpAny (model X.prog X.w) X.A (f (.int i t) (.int j u)) Q E s):
  OpR X f (rI0 λi j=>.int (g i j)):=by
 intro pins s σ H x y v u Q I rx ry h;obtain⟨i,j,rfl,rfl,q⟩:=h;obtain⟨t,rfl⟩:=rx;obtain⟨t',rfl⟩:=ry;exact rule i j t t' s _ _ ⟨.int (g i j),H,I.tok _,⟨_,rfl⟩,q⟩
theorem opB0{f:Value->Value->Sem Value}{g:Int->Int->Bool}
  (rule:∀(i j:Int)(t u:Tok)(s:Shared)(Q:VP)(E:VP),Q (.bool (g i j)) s->wpAny (model X.prog X.w) X.A (f (.int i t) (.int j u)) Q E s):
  OpR X f (rI0 λi j=>.bl (g i j)):=by
 intro pins s σ H x y v u Q I rx ry h;obtain⟨i,j,rfl,rfl,q⟩:=h;obtain⟨t,rfl⟩:=rx;obtain⟨t',rfl⟩:=ry;exact rule i j t t' s _ _ ⟨.bl (g i j),H,I,rfl,q⟩
def CPow(i j:Int):Prop:=0<=j/\j<=1000000/\i.natAbs<2^64
def CMul(i j:Int):Prop:=(-(2^64)<i/\i<2^64)\/(-(2^64)<j/\j<2^64)
theorem nR:OpR X (binaryOp .Add) (rI0 λi j=>.int (i+j)):=opI0 λ_ _ _ _ _ _ _ q=>add_int q
theorem jE:OpR X (binaryOp .Sub) (rI0 λi j=>.int (i-j)):=opI0 λ_ _ _ _ _ _ _ q=>sub_int q
theorem nN:OpR X (binaryOp .Mod) (rI (λ_ j=>j≠0) λi j=>.int (i.fmod j)):=opI λ_ _ _ _ _ _ _ hc q=>mod_int' hc q
theorem Ls:OpR X (binaryOp .Pow) (rI CPow λi j=>.int (i^j.toNat)):=opI λ_ _ _ _ _ _ _ hc q=>pow_int_small hc.1 hc.2.1 hc.2.2 q
theorem unI{f:Value->Sem Value}{g:Int->Int}
  (rule:∀(i:Int)(t:Tok)(s:Shared)(Q:VP)(E:VP),Q (.int (g i) s.toks) {s with toks:=s.toks+1}->wpAny (model X.prog X.w) X.A (f (.int i t)) Q E s):
  UnR X f (rU λi=>.int (g i)):=by
 intro pins s σ H x v Q I rx h;obtain⟨i,rfl,q⟩:=h;obtain⟨t,rfl⟩:=rx;exact rule i t s _ _ ⟨.int (g i),H,I.tok _,⟨_,rfl⟩,q⟩
theorem gN:UnR X (unaryOp .USub) (rU λi=>.int (-i)):=unI λ_ _ _ _ _ q=>neg_int q
theorem Lr{pins:PN}{σ:St}{H:Hp}{s:Shared}{Q:VK}{k k':Bool}(I:Inv X pins σ H s)(q:Q (.bl k) H)(e:k=k'):EP X pins σ Q (.bool k') s:=by
 subst e;exact⟨.bl k,H,I,rfl,q⟩
theorem fS:OpR X (compareOp .Lt) (rI0 λi j=>.bl (decide (i<j))):=opB0 λ_ _ _ _ _ _ _ q=>lt_int q
theorem fT:OpR X (compareOp .Gt) (rI0 λi j=>.bl (decide (j<i))):=opB0 λ_ _ _ _ _ _ _ q=>gt_int q
theorem aV:OpR X (compareOp .Is) (λx y H Q=>y=.non/\Q (.bl (decide (x=.non))) H):=by
 intro pins s σ H x y v u Q I rx ry h;obtain⟨rfl,q⟩:=h;cases ry;refine is_none_gen (Lr I q ?_);cases x <;> first
  |(cases rx;rfl)
  |(obtain⟨t,rfl⟩:=rx;rfl)
theorem oP(b:Expr){op:CmpOp}(h:op≠.In:=by decide)(h2:op≠.NotIn:=by decide):behindInMarks op b=false:=by
 have e1:(op == CmpOp.In)=false:=by cases op <;> first|rfl|exact absurd rfl h
 have e2:(op == CmpOp.NotIn)=false:=by cases op <;> first|rfl|exact absurd rfl h2
 cases b <;> simp[behindInMarks,e1,e2]
theorem jZ{op:CmpOp}{r:R2}(ho:OpR X (compareOp op) r)(ha:PE X a ta)(hb:PE X b tb)(hm:behindInMarks op b=false):PE X (.Compare a [op] [b] pos) (tOp r ta tb):=by
 intro pins s σ H Q I h;exact wpAny_Compare1 (binT ha hb I h λv u s2 x y H2 I2 rx ry q=>ho pins s2 σ H2 x y v u Q I2 rx ry q) hm
def fU(t:TE):TT:=λσ H Q=>t σ H λx H'=>∃k,x=.bl k/\Q k H'
theorem oR{op:CmpOp}{r:R2}(ho:OpR X (compareOp op) r)(ha:PE X a ta)(hb:PE X b tb)(hm:behindInMarks op b=false):PT X (.Compare a [op] [b] pos) (fU (tOp r ta tb)):=by
 intro pins s σ H Q I h;refine wpAny_isTrue_Compare1 (thn (ha pins s σ H _ I h) λv s1⟨x,H1,I1,r1,q1⟩=>thn (hb pins s1 σ H1 _ I1 q1) λu s2⟨y,H2,I2,r2,q2⟩ =>
  thn (ho pins s2 σ H2 x y v u _ I2 r1 r2 q2) λc s3⟨z,H3,I3,r3,k,e,q3⟩=>?_) hm
 subst e;cases r3;exact uG ⟨H3,I3,q3⟩
theorem cD:(sizeLine:Nat)<2^63:=by rw[sizeLine_eq];decide
theorem jF{x:V}{us:LW}(r:Vals [x] us):∃u,us=[u]/\RelV x u:=by
 cases r with
 |cons r1 r2=>cases r2;exact⟨_,rfl,r1⟩
theorem gO:lF X (.builtin "abs") (λxs H Q=>∃i,xs=[.int i]/\Q (.int (if i<0 then -i else i)) H):=by
 intro pins s σ H xs us Q I r h;obtain⟨i,rfl,q⟩:=h;obtain⟨u,rfl,t,rfl⟩:=jF r;exact call_abs_int λu tk=>⟨.int (if i<0 then -i else i),H,I.tok _,⟨_,rfl⟩,q⟩
theorem aW:lF X (.type "int") (λxs H Q=>(∃i,xs=[.int i]/\Q (.int i) H)\/∃k,xs=[.bl k]/\Q (.int (if k then 1 else 0)) H):=by
 intro pins s σ H xs us Q I r h;rcases h with⟨i,rfl,q⟩|⟨k,rfl,q⟩
 ·obtain⟨u,rfl,t,rfl⟩:=jF r;exact call_int_int ⟨.int i,H,I,⟨_,rfl⟩,q⟩
 ·obtain⟨u,rfl,r1⟩:=jF r;cases r1;exact call_int_bool ⟨.int (if k then 1 else 0),H,I.tok _,⟨_,rfl⟩,q⟩
end
structure ObjM(h:Heap)(x dx C:Addr)(mA:MT):Prop where
 obj:h.get? x=some (PySem.W.instObj C dx)
 ns:h.Ns1 dx mA
 ne:dx≠x
theorem Lq{h:Heap}{dx:Addr}{mA:MT}(n:h.Ns1 dx mA):∃od,h.get? dx=some od/\∀name,PySem.W.lookIn name od=some (mA name):=by
 obtain⟨o,es,ep,ho,hd,hk,_,hm⟩:=n;refine⟨o,ho,λname=>?_⟩;have e:=hm name;unfold nsFind findBy at e;rw[←Array.find?_toList]at e;unfold PySem.W.lookIn;rw[hd];dsimp only;split
 ·rename_i y q;rw[q]at e;exact wC some e
 ·rename_i q;rw[q]at e;have a:es.toList.any (·.refKey)=false:=by
   rw[uH];intro y hy;obtain⟨z,t,hkey⟩:=hk y (Array.mem_toList_iff.mp hy);simp[DictEntry.refKey,hkey]
  have a':¬ es.toList.any (·.refKey)=true:=by rw[a];exact yF
  rw[zI a'];exact wC some e
theorem ObjM.look{h:Heap}{x dx C:Addr}{mA:MT}(I:ObjM h x dx C mA):∃od,PySem.W.InstAt h x (PySem.W.instObj C dx) C (some od)/\∀name,PySem.W.lookIn name od=some (mA name):=
 let ⟨od,ho,hl⟩:=Lq I.ns
 ⟨od,⟨I.obj,rfl,rfl,ho⟩,hl⟩
section
variable {prog:Program} {w:World} {A:Around} {E:VP} {s:Shared} {K:Frag} {x dx C f:Addr} {mA:MT} {name:Str} {v:Value}
theorem Lp{expr:Bool}{Q:VP}(X:K.In s.heap)(I:ObjM s.heap x dx C mA)(hg:PySem.W.plainGet K C name=true)(hh:PySem.W.hasDictIn K C=true)
  (ha:PySem.W.findIn K (.ref C) name=some none)(hv:mA name=some v)(hv':PySem.W.handedIn v=true)(h:Q v {s with toks:=s.toks+1}):
  wpAny (model prog w) A (getAttr (.ref x) name expr) Q E s:=by
 obtain⟨od,J,hl⟩:=I.look;exact PySem.W.get_value X J (rC hg).1 (PySem.W.findObj_own hh ha rfl (by rw[hl,hv])) hv' h
theorem Lo{pl:Sem Bool}{Q:Value×LW->Shared->Prop}(X:K.In s.heap)(I:ObjM s.heap x dx C mA)(hg:PySem.W.plainGet K C name=true)
  (hf:PySem.W.findIn K (.ref C) name=some (some (.ref f)))(ht:PySem.W.isFn K (.ref f)=true)(hv:mA name=none)(h:Q (.ref f,[.ref x]) s):
  wpAny (model prog w) A (getMethod (.ref x) name pl) Q E s:=by
 obtain⟨od,J,hl⟩:=I.look;exact PySem.W.method_fn X J (rC hg).1 (rC hg).2 hf (qT.mp ht) (by show(PySem.W.lookIn name od).map (·.isSome)=some false;rw[hl,hv];rfl) h
theorem Ln{ns:List Str}{Q:Unit->Shared->Prop}(X:K.In s.heap)(I:ObjM s.heap x dx C mA)
  (hs:PySem.W.findIn K (.ref C) "__setattr__"=some (some (.builtin "object.__setattr__")))(hp:PySem.W.plainOver K C=true)(ht:PySem.W.takerIn K C name=some none)(hh:PySem.W.hasDictIn K C=true)
  (hw:PySem.Within mA ns)(hsz:ns.length<=sizeLine)
  (h:∀h',ObjM h' x dx C (λy=>if y=name then some v else mA y)->Heap.SameBut dx s.heap h'->Q () {s with heap:=h',toks:=s.toks+2}):
  wpAny (model prog w) A (setAttr (.ref x) name v) Q E s:=by
 obtain⟨od,J,hl⟩:=I.look;refine PySem.W.set_plain X J hs (PySem.W.osa_open (s:={s with toks:=s.toks+1}) (r:=none) X J hp ht λb=>?_);obtain⟨cd,hc,hd'⟩:=PySem.W.any_some hh;have hx:s.heap.get? x=some ⟨.ref C,some dx,.plain,#[]⟩:=I.obj;refine zA (zB (zA (zA (wpAny_loadPart hx (zA (PySem.W.Looks.here (s:={s with toks:=s.toks+1}) (PySem.W.looks_clsIn X hc) ?_))))));rw[hd'];refine zB (a:=some dx) (zA (zB (zA ?_)));refine wpAny_nsSet1 (s:={s with toks:=s.toks+1}) I.ns λh' hn2 hs2=>?_;obtain⟨oD,esD,epD,hoD,hdD,hcD⟩:=hn2.count (PySem.Within.cons name v hw);refine zA (wpAny_lookBehind hoD (by rw[hdD];exact pastItsLine_dict (yL hcD (by rw[zY];omega))) ?_);exact zB (h _ ⟨(hs2.2 _ (yE I.ne)).trans I.obj,hn2,I.ne⟩ hs2)
theorem Lm{R:Result->Shared->Prop}{vs:LW}{kw:List (Str×Value)}(X:K.In s.heap)(hm:PySem.W.makesIn K C=true)
  (hi:PySem.W.findIn K (.ref C) "__init__"=some (some (.ref f)))(hf:PySem.W.typeIn K (.ref f)=some (.type "function"))
  (h:codeAny (model prog w) (A.under (.builtin "type.__call__" ⟨.ref C:: vs,kw⟩)) (.call (.ref f) ⟨.ref (s.heap.objs.size+1):: vs,kw⟩) (PySem.W.InitBack (s.heap.objs.size+1) R)
   {s with heap:=(s.heap.push PySem.W.emptyDict).push (PySem.W.instObj C s.heap.objs.size)}):
  codeAny (model prog w) A (.call (.ref C) ⟨vs,kw⟩) R s:=by
 obtain⟨hh,g,d,t,os⟩:=s;exact PySem.W.make_core (PySem.W.makes_of X hm) (uQ X hi) (λself=>PySem.W.bind_fn X self hf) (.inl rfl) h
end
noncomputable def putF(f:Str)(v:V):List (Str×V)->List (Str×V)
 |[]=>[(f,v)]
 |(g,x):: r=>if g=f then(g,v):: r else(g,x):: putF f v r
theorem De(f g:Str)(v:V):∀fs:List (Str×V),(putF f v fs).lookup g=if g=f then some v else fs.lookup g
 |[]=>by
  show List.lookup g [(f,v)]=_
  by_cases h:g=f
  ·have hb:(g == f)=true:=qT.mpr h;simp only[List.lookup,hb,if_pos h]
  ·have hb:(g == f)=false:=qU.mpr h;simp only[List.lookup,hb,if_neg h]
 | (k,x):: r=>by
  have ih:=De f g v r;rw[show putF f v ((k,x):: r)=(if k=f then(k,v):: r else(k,x):: putF f v r) from rfl]
  by_cases hk:k=f
  ·rw[zJ hk]
   by_cases h:g=k
   ·have hb:(g == k)=true:=qT.mpr h;simp only[List.lookup,hb,if_pos (h.trans hk)]
   ·have hb:(g == k)=false:=qU.mpr h;simp only[List.lookup,hb,if_neg (λe:g=f=>h (e.trans hk.symm))]
  ·rw[zI hk]
   by_cases h:g=k
   ·have hb:(g == k)=true:=qT.mpr h;simp only[List.lookup,hb,if_neg (λe:g=f=>hk (h.symm.trans e))]
   ·have hb:(g == k)=false:=qU.mpr h;simp only[List.lookup,hb];exact ih
theorem aX(f:Str)(v:V):∀fs:List (Str×V),f∈(putF f v fs).map (·.1)/\∀g,g∈fs.map (·.1)->g∈(putF f v fs).map (·.1)
 |[]=>⟨by simp[putF],λg h=>by simp at h⟩
 | (k,x):: r=>by
  obtain⟨i1,i2⟩:=aX f v r;rw[show putF f v ((k,x):: r)=(if k=f then(k,v):: r else(k,x):: putF f v r) from rfl]
  by_cases hk:k=f
  ·rw[zJ hk];subst hk;exact⟨by simp,λg h=>by simpa using h⟩
  ·rw[zI hk];refine⟨?_,λg h=>?_⟩
   ·rw[zL];exact zM _ i1
   ·rw[zL]at h ⊢;rcases xE.mp h with e|e
    ·exact xE.mpr (.inl e)
    ·exact zM _ (i2 g e)
theorem Dc(f:Str)(v:V):∀fs:List (Str×V),(putF f v fs).length<=fs.length+1
 |[]=>by simp[putF]
 |(k,x):: r=>by
  have ih:=Dc f v r;rw[show putF f v ((k,x):: r)=(if k=f then(k,v):: r else(k,x):: putF f v r) from rfl]
  by_cases hk:k=f
  ·rw[zJ hk,zY,zY];omega
  ·rw[zI hk,zY,zY];omega
theorem RelO.some_of{v:V}{o:Option Value}(r:RelO (some v) o):∃u,o=some u/\RelV v u:=by
 cases o with
 |none=>exact(show False from r).elim
 |some u=>exact⟨u,rfl,r⟩
theorem RelO.none_of{o:Option Value}(r:RelO none o):o=none:=by
 cases o with
 |none=>rfl
 |some u=>exact(show False from r).elim
theorem Ll{v:V}{u:Value}(r:RelV v u):PySem.W.handedIn u=true:=by
 cases v with
 |non=>cases(show u=Value.none from r);rfl
 |bl b=>cases(show u=Value.bool b from r);rfl
 |int i=>obtain⟨t,e⟩:=(show∃t,u=Value.int i t from r);cases e;rfl
 |str x=>obtain⟨t,e⟩:=(show∃t,u=Value.str x t from r);cases e;rfl
 |byt b=>obtain⟨t,e⟩:=(show∃t,u=Value.bytes b t from r);cases e;rfl
 |flt b=>obtain⟨t,e⟩:=(show∃t,u=Value.float b t from r);cases e;rfl
 |ref a=>cases(show u=Value.ref a from r);rfl
 |ty n=>cases(show u=Value.type n from r);rfl
section
variable {P:Program} {w:World} {H H':Hp} {h h':Heap} {a C dx:Addr} {fs fs':List (Str×V)}
theorem cE(hok:HOk P w H h)(e:H a=some (.ins C dx fs)):∃mA,ObjM h a dx C mA/\(∀f,RelO (fs.lookup f) (mA f))/\PySem.Within mA (fs.map (·.1))/\fs.length<=1000/\H dx=some (.own a):=by
 obtain⟨d,z,ne,ob,mA,n,r,q⟩:=(show nO P w H h a (.ins C dx fs) from hok a _ e);exact⟨mA,⟨ob,n,ne⟩,r,q,z,d⟩
end
structure Cls(K:Frag)(C:Addr):Prop where
 pg:PySem.W.plainGet K C Str.empty=true
 hd:PySem.W.hasDictIn K C=true
 po:PySem.W.plainOver K C=true
 sa:PySem.W.findIn K (.ref C) "__setattr__"=some (some (.builtin "object.__setattr__"))
theorem Cls.get{K:Frag}{C:Addr}(c:Cls K C)(f:Str):PySem.W.plainGet K C f=true:=c.pg
def iP(K:Frag)(C:Addr)(f:Str):Prop:=PySem.W.findIn K (.ref C) f=some none
theorem iP.taker{K:Frag}{C:Addr}{f:Str}(n:iP K C f):PySem.W.takerIn K C f=some none:=by
 unfold PySem.W.takerIn;rw[show PySem.W.findIn K (.ref C) f=some none from n];rfl
structure Meth(K:Frag)(C:Addr)(m:Str)(f:Addr):Prop where
 at_:PySem.W.findIn K (.ref C) m=some (some (.ref f))
 fn:PySem.W.isFn K (.ref f)=true
 kp:PySem.W.keepIn K (.ref f)=true
section
variable {X:Cx} {pins:PN} {σ:St} {H:Hp} {s:Shared} {a C dx:Addr} {fs:List (Str×V)} {f:Str} {v:V} {A:Around} {E:VP}
theorem Lk{b:Bool}{Q:VP}(I:Inv X pins σ H s)(e:H a=some (.ins C dx fs))(c:Cls X.K C)(n:iP X.K C f)(l:fs.lookup f=some v)
  (h:∀u s',Inv X pins σ H s'->RelV v u->Q u s'):wpAny (model X.prog X.w) A (getAttr (.ref a) f b) Q E s:=by
 obtain⟨mA,O,r,_,_,_⟩:=cE I.hok e;obtain⟨u,hu,ru⟩:=RelO.some_of (v:=v) (o:=mA f) (by rw[←l];exact r f);exact Lp I.kIn O (c.get f) c.hd n hu (Ll ru) (h u _ (I.tok _) ru)
theorem Db{m:Str}{g:Addr}{pl:Sem Bool}{Q:Value×LW->Shared->Prop}(I:Inv X pins σ H s)(e:H a=some (.ins C dx fs))(c:Cls X.K C)(k:Meth X.K C m g)(l:fs.lookup m=none)
  (h:Q (.ref g,[.ref a]) s):wpAny (model X.prog X.w) A (getMethod (.ref a) m pl) Q E s:=by
 obtain⟨mA,O,r,_,_,_⟩:=cE I.hok e;have hn:mA m=none:=RelO.none_of (by rw[←l];exact r m);exact Lo I.kIn O (c.get m) k.at_ k.fn hn h
theorem Lj{y:V}{u:Value}{Q:Unit->Shared->Prop}(I:Inv X pins σ H s)(e:H a=some (.ins C dx fs))(c:Cls X.K C)(n:iP X.K C f)(hl:fs.length<1000)(ry:RelV y u)
  (h:∀s',Inv X pins σ (upd H a (.ins C dx (putF f y fs))) s'->Q () s'):wpAny (model X.prog X.w) A (setAttr (.ref a) f u) Q E s:=by
 obtain⟨mA,O,r,wi,_,ho⟩:=cE I.hok e;have hz:(fs.map (·.1)).length<=sizeLine:=by rw[yP,sizeLine_eq];omega
 refine Ln I.kIn O c.sa c.po n.taker c.hd wi hz λh' O' sb=>h _ ?_;have hd:∃o,h'.get? dx=some o:=let ⟨o,_,_,e',_⟩:=O'.ns;⟨o,e'⟩
 refine I.write (x:=a) (e:=dx) (by rw[e];exact True.intro) (.inr ho) (λb q hb z=>(sb.2 b hb).trans z) hd ?_;refine⟨by rw[oE O.ne];exact ho,?_,O.ne,O'.obj,_,O'.ns,λg=>?_,λg hg=>?_⟩
 ·have:=Dc f y fs;omega
 ·show RelO ((putF f y fs).lookup g) (if g=f then some u else mA g);rw[De]
  by_cases q:g=f
  ·rw[zJ q,zJ q];exact ry
  ·rw[zI q,zI q];exact r g
 ·by_cases q:g=f
  ·rw[q];exact(aX f y fs).1
  ·refine(aX f y fs).2 g (wi g λz=>hg ?_);show(if g=f then some u else mA g)=none;rw[zI q];exact z
theorem Inv.made(I:Inv X pins σ H s):Inv X pins σ (upd (upd H s.heap.objs.size (.own (s.heap.objs.size+1))) (s.heap.objs.size+1) (.ins C s.heap.objs.size []))
  {s with heap:=(s.heap.push PySem.W.emptyDict).push (PySem.W.instObj C s.heap.objs.size)}:=by
 have e1:(s.heap.push PySem.W.emptyDict).get? s.heap.objs.size=some PySem.W.emptyDict:=zT s.heap rfl;have e2:((s.heap.push PySem.W.emptyDict).push (PySem.W.instObj C s.heap.objs.size)).get? (s.heap.objs.size+1)=some (PySem.W.instObj C s.heap.objs.size):=by
  have:=zT (s.heap.push PySem.W.emptyDict) (o:=PySem.W.instObj C s.heap.objs.size) rfl
  rwa[xW]at this
 have e3:(s.heap.push PySem.W.emptyDict).Ns s.heap.objs.size (λ_=>none):=⟨PySem.W.emptyDict,#[],_,e1,rfl,(λe he=>absurd he (by simp)),λ_=>rfl⟩;have I1:=I.laid (a:=s.heap.objs.size) (o:=.own (s.heap.objs.size+1)) (h':=s.heap.push PySem.W.emptyDict) (t':=s.toks) (λb u q=>zD _ q) (zG _) ⟨_,e1⟩;refine I1.laid (a:=s.heap.objs.size+1) (o:=.ins C s.heap.objs.size []) (t':=s.toks) (λb u q=>zD _ q) (sQ (xW _ _)) ?_;have ne:s.heap.objs.size≠s.heap.objs.size+1:=yB (sD _);refine⟨by rw[oE ne,pV],yU _,ne,e2,λ_=>none,(Heap.Ns1.of_empty e3).at λo q=>zD _ q,λ_=>True.intro,λy hy=>absurd rfl hy⟩
theorem Li{prog:Program}{w:World}{env:Env}{e:Expr}{f:Str}{pos:Pos}{s:Shared}{Q:VP}(hb:attributeBase e f env (eval e env)=eval e env)
  (h:wpAny (model prog w) A (eval e env) (λo s₁=>wpAny (model prog w) A (getAttr o f true) Q E s₁) E s):wpAny (model prog w) A (eval (.Attribute e f pos) env) Q E s:=
 Attribute_any_ h (by rw[arm_eval_Attribute,hb])
end
def tFld(K:Frag)(ta:TE)(f:Str):TE:=λσ H Q=>ta σ H λx H1=>∃a C dx fs v,x=.ref a/\H1 a=some (.ins C dx fs)/\Cls K C/\iP K C f/\fs.lookup f=some v/\Q v H1
def sFld(K:Frag)(ta tv:TE)(f:Str):TS:=λD σ H=>tv σ H λy H1=>ta σ H1 λx H2=>∃a C dx fs,x=.ref a/\H2 a=some (.ins C dx fs)/\Cls K C/\iP K C f/\fs.length<1000 /\
 D.nx σ (upd H2 a (.ins C dx (putF f y fs)))
section
variable {X:Cx} {o e value:Expr} {f:Str} {pos pos' tpos:Pos} {ta tv:TE}
theorem gP(he:PE X e ta)(hb:attributeBase e f X.env (eval e X.env)=eval e X.env):PE X (.Attribute e f pos) (tFld X.K ta f):=by
 intro pins s σ H Q I h;refine Li hb (thn (he pins s σ H _ I h) λu s1⟨x,H1,I1,rx,a,C,dx,fs,v,ex,ea,c,n,l,q⟩=>?_);subst ex;obtain rfl:u=Value.ref a:=rx;exact Lk I1 ea c n l λu' s2 I2 ru=>⟨v,H1,I2,ru,q⟩
theorem fV(ha:PE X o ta)(hv:PE X value tv)(hs:swapsWith value (some (.Attribute o f pos')) pos.line X.env=pure false):PS X (.Assign [.Attribute o f pos'] value pos) (sFld X.K ta tv f):=by
 intro pins s σ H D I h;refine plainObj_wpAny_Assign_Attribute (thn (hv pins s σ H _ I h) λu s1⟨y,H1,I1,ry,q⟩=>thn (ha pins s1 σ H1 _ I1 q) λov s2⟨x,H2,I2,rx,a,C,dx,fs,ex,ea,c,n,l,q2⟩=>?_) hs;subst ex;obtain rfl:ov=Value.ref a:=rx;exact Lj I2 ea c n l ry λs3 I3=>⟨σ,_,I3,q2⟩
end
section
variable {X:Cx} {pins:PN} {σ:St} {H:Hp} {s:Shared} {A:Around} {E:VP} {Q:VP} {c:Value} {b:Bool}
inductive TyOf(K:Frag)(H:Hp):V->Value->Prop where
 |non:TyOf K H .non (.type "NoneType")
 |bl (x:Bool):TyOf K H (.bl x) (.type "bool")
 |int (i:Int):TyOf K H (.int i) (.type "int")
 |str (x:Str):TyOf K H (.str x) (.type "str")
 |flt (x:UInt64):TyOf K H (.flt x) (.type "float")
 |lst {a:Addr} {xs:List V} (e:H a=some (.lst xs)):TyOf K H (.ref a) (.type "list")
 |frz {a:Addr} {o:Obj} {xs:List V} (e:H a=some (.frz o (.lst xs))):TyOf K H (.ref a) (.type "list")
 |tup {a:Addr} {xs:List V} (e:H a=some (.tup xs)):TyOf K H (.ref a) (.type "tuple")
 |dK {a:Addr} {kvs:List (Key×V)} (e:H a=some (.dK kvs)):TyOf K H (.ref a) (.type "dict")
 |dT {a:Addr} {kvs:List (List Key×V)} (e:H a=some (.dT kvs)):TyOf K H (.ref a) (.type "dict")
 | ins {a C dx:Addr} {fs:List (Str×V)} (e:H a=some (.ins C dx fs)) (cl:Cls K C) (ha:PySem.W.findIn K (.ref C) "__class__"=some (some (.builtin "object.__class__")))
   (hn:PySem.W.specialIn K (.builtin "object.__class__") "__get__"=some (some (.builtin "getset_descriptor.__get__"))) (htk:PySem.W.takesIn K (.builtin "object.__class__")=some true)
   (hm:PySem.W.mroIn K C (.type "object")=some true):TyOf K H (.ref a) (.ref C)
theorem Lh{x:V}{u t:Value}(I:Inv X pins σ H s)(rx:RelV x u)(ty:TyOf X.K H x t)(e:PySem.W.kitOne X.K t c=some b)(h:∀tk,Q (.bool b) {s with toks:=tk}):
  wpAny (model X.prog X.w) A (call (.builtin "isinstance") [u,c]) Q E s:=by
 cases ty with
 |non=>cases(show u=Value.none from rx);exact xK PySem.W.kitx_none I.kIn True.intro e (λz=>nomatch z) h
 |bl y=>cases(show u=Value.bool y from rx);exact xK PySem.W.kitx_bool I.kIn True.intro e (λz=>nomatch z) h
 |int i=>obtain⟨t,q⟩:=(show∃t,u=Value.int i t from rx);cases q;exact xK PySem.W.kitx_int I.kIn True.intro e (λz=>nomatch z) h
 |str y=>obtain⟨t,q⟩:=(show∃t,u=Value.str y t from rx);cases q;exact xK PySem.W.kitx_str I.kIn True.intro e (λz=>nomatch z) h
 |flt y=>obtain⟨t,q⟩:=(show∃t,u=Value.float y t from rx);cases q;exact xK PySem.W.kitx_float I.kIn True.intro e (λz=>nomatch z) h
 |@lst a xs ea =>
  cases(show u=Value.ref a from rx);obtain⟨_,_,n,_,h1⟩:=(show nO X.prog X.w H s.heap a (.lst xs) from I.hok a _ ea);exact xK PySem.W.kitx_list I.kIn ⟨_,h1,rfl⟩ e (λz=>nomatch z) h
 |@frz a ob xs ea =>
  cases(show u=Value.ref a from rx);obtain⟨_,_,_,n,_,h1⟩:=(show nO X.prog X.w H s.heap a (.frz ob (.lst xs)) from I.hok a _ ea);exact xK PySem.W.kitx_list I.kIn ⟨_,h1,rfl⟩ e (λz=>nomatch z) h
 |@tup a xs ea =>
  cases(show u=Value.ref a from rx);obtain⟨_,_,_,p⟩:=(show nO X.prog X.w H s.heap a (.tup xs) from I.hok a _ ea);obtain⟨o,h1,h2,_⟩:=p;exact xK PySem.W.kitx_tuple I.kIn ⟨o,h1,h2⟩ e (λz=>nomatch z) h
 |@dK a kvs ea =>
  cases(show u=Value.ref a from rx);obtain⟨_,_,vs,_,p⟩:=(show nO X.prog X.w H s.heap a (.dK kvs) from I.hok a _ ea);obtain⟨o,es,ep,h1,h2,_⟩:=p;exact xK PySem.W.kitx_dict I.kIn ⟨o,h1,h2.1⟩ e (λz=>nomatch z) h
 |@dT a kvs ea =>
  cases(show u=Value.ref a from rx);obtain⟨_,_,xs,_,o,es,ep,h1,h2,_⟩:=(show nO X.prog X.w H s.heap a (.dT kvs) from I.hok a _ ea);exact xK PySem.W.kitx_dict I.kIn ⟨o,h1,h2.1⟩ e (λz=>nomatch z) h
 |@ins a C dx fs ea cl ha hn htk hm =>
  cases(show u=Value.ref a from rx);obtain⟨mA,O,_⟩:=cE I.hok ea;obtain⟨od,J,_⟩:=O.look;exact xK (PySem.W.kitx_own (cl.get _) cl.hd ha hn htk hm) I.kIn J e (λz=>nomatch z) h
end
structure Room(k:Nat)(A:Around):Prop where
 hd:A.handled=none
 dp:A.depth+3*k+5<recursionLimit
 un:A.units+16*k+200<cLine
theorem Room.mono{j k:Nat}{A:Around}(r:Room k A)(h:j<=k):Room j A:=⟨r.hd,by have:=r.dp;omega,by have:=r.un;omega⟩
theorem Room.mo{j k:Nat}{A:Around}(r:Room k A)(h:j<=k:=by first|decide|omega):Room j A:=r.mono h
theorem Room.deeper{k:Nat}{A:Around}(r:Room (k+1) A)(env:Env):Room k (A.deeper env):=
 ⟨r.hd,by have:=r.dp;show A.depth+1+3*k+5<_;omega,by have:=r.un;show A.units+3+16*k+200<_;omega⟩
theorem Lg{A:Around}{C:Addr}{us:LW}{kw:List (Str×Value)}:(A.under (.builtin "type.__call__" ⟨.ref C:: us,kw⟩)).depth=A.depth+1:=by
 first|rfl|simp[Around.under,Code.weight,Code.isCreation,Code.isGuard,Code.isCaller,Code.frames,Code.isFrame,guardIds]
theorem Lf{A:Around}{C:Addr}{us:LW}{kw:List (Str×Value)}:(A.under (.builtin "type.__call__" ⟨.ref C:: us,kw⟩)).units=A.units+1:=by
 first|rfl|simp[Around.under,Code.cUnits,Code.frames,Code.isFrame]
theorem Room.make{k:Nat}{A:Around}(r:Room (k+1) A)(C:Addr)(us:LW)(kw:List (Str×Value)):Room k (A.under (.builtin "type.__call__" ⟨.ref C:: us,kw⟩)):=
 ⟨r.hd,by have:=r.dp;rw[Lg];omega,by have:=r.un;rw[Lf];omega⟩
theorem Room.depth{k:Nat}{A:Around}(r:Room k A):A.depth<recursionLimit:=by have:=r.dp;omega
theorem Room.units{k:Nat}{A:Around}(r:Room k A):A.units+64<cLine:=by have:=r.un;omega
def tNil:TA:=λ_ H Q=>Q [] H
def pW(ta:TE)(tr:TA):TA:=λσ H Q=>ta σ H λx H1=>tr σ H1 λxs H2=>Q (x:: xs) H2
section
variable {X:Cx} {e:Expr} {es:List Expr} {te:TE} {t:TA} {pos:Pos}
theorem pL:PA X [] tNil:=λ_ _ _ _ H Q I h=>Calls.spliced_nil ⟨[],H,I,.nil,h⟩
theorem pK(ha:PE X e te)(hr:PA X es t)(hs:starEach (e:: es) X.env=(false,eval e X.env):: starEach es X.env:=by rfl):PA X (e:: es) (pW te t):=by
 intro pos pins s σ H Q I h;rw[hs];show wpAny _ _ (spliced ((false,eval e X.env):: backTo pos (starEach es X.env))) _ _ s;refine Calls.spliced_cons (thn (ha pins s σ H _ I h) λu s1⟨x,H1,I1,r1,q1⟩=>?_);exact thn (hr pos pins s1 σ H1 _ I1 q1) λus s2⟨xs,H2,I2,r2,q2⟩=>⟨x:: xs,H2,I2,.cons r1 r2,q2⟩
def tTup(t:TA):TE:=λσ H Q=>t σ H λxs H1=>xs.length<=sizeLine/\∀p,H1 p=none->Q (.ref p) (upd H1 p (.tup xs))
def tLst(t:TA):TE:=λσ H Q=>t σ H λxs H1=>xs.length<=sizeLine/\∀p,H1 p=none->Q (.ref p) (upd H1 p (.lst xs))
theorem nJ{x1}(h:PA X es t):PE X (.Tuple es x1 pos) (tTup t):=by
 intro pins s σ H Q I hq;refine wpAny_Tuple_spliced (thn (h pos pins s σ H _ I hq) λus s1⟨xs,H1,I1,r,z,q⟩=>⟨by rw[←r.length];exact z,?_⟩);have hf:H1 s1.heap.objs.size=none:=I1.hok.fresh (zG _);refine⟨.ref s1.heap.objs.size,upd H1 s1.heap.objs.size (.tup xs),I1.laid (t':=s1.toks) (λb u e=>zD _ e) (zG _) ?_,rfl,q _ hf⟩;exact⟨z,us,r,⟨_,zT _ rfl,rfl,_,rfl⟩⟩
theorem lG(h:PA X es t):PE X (.List es pos) (tLst t):=by
 intro pins s σ H Q I hq;refine wpAny_List_spliced (thn (h pos pins s σ H _ I hq) λus s1⟨xs,H1,I1,r,z,q⟩=>⟨by rw[←r.length];exact z,?_⟩);have hf:H1 s1.heap.objs.size=none:=I1.hok.fresh (zG _);refine⟨.ref s1.heap.objs.size,upd H1 s1.heap.objs.size (.lst xs),I1.laid (t':=s1.toks) (λb u e=>zD _ e) (zG _) ?_,rfl,q _ hf⟩;exact⟨z,us,0,r,zT _ rfl⟩
end
abbrev Sp:=List V->Hp->VK->XK->Prop
abbrev CXT:=List Env->Hp->Shared->XK->VP
structure Env0(P:Program)(w:World)(K:Frag)(mg:MT)(base:Heap)(A:Around)(outer:List Env)(s:Shared)(H:Hp):Prop where
 frames:A.frames=some outer
 mod:Mod K mg base
 bs:∀b o,base.get? b=some o->s.heap.get? b=some o/\H b=none
 bsz:base.objs.size<=s.heap.objs.size
 funs:s.heap.FunFrames base outer
 frf:∀b∈frs outer,H b=none
 hok:HOk P w H s.heap
 bare:AllBare s.gens
def CE(outer:List Env)(P:Program)(w:World)(H:Hp)(s:Shared)(Q:VK)(u:Value)(s':Shared):Prop:=
 ∃v H',s'.os=s.os/\AllBare s'.gens/\Un (frs outer) [] H H' s.heap s'.heap/\HOk P w H' s'.heap/\RelV v u/\Q v H'
def CR(CX:CXT)(outer:List Env)(P:Program)(w:World)(H:Hp)(s:Shared)(Q:VK)(E:XK)(r:Result)(s':Shared):Prop:=
 match r with
 |.ok (.ret u)=>CE outer P w H s Q u s'
 |.ok _=>False
 |.error e=>CX outer H s E e s'
structure FnOk(P:Program)(w:World)(K:Frag)(mg:MT)(base:Heap)(CX:CXT)(k:Nat)(f:Addr)(fd:FuncData)(ps:List Str)(sp:Sp):Prop where
 len:∀vs H Q E,sp vs H Q E->vs.length=ps.length
 run:∀(A:Around)(outer:List Env)(s:Shared)(H:Hp)(args:Args)(us:LW)(vs:List V)(Q:VK)(E:XK),Room k A->Env0 P w K mg base A outer s H->BindsTo s fd args (ps.zip us)->Vals vs us->sp vs H Q E ->
  codeAny (model P w) A (.call (.ref f) args) (CR CX outer P w H s Q E) s
theorem Env0.make{P:Program}{w:World}{K:Frag}{mg:MT}{base:Heap}{A:Around}{outer:List Env}{s:Shared}{H:Hp}(e:Env0 P w K mg base A outer s H)(C:Addr)(us:LW)(kw:List (Str×Value)):
  Env0 P w K mg base (A.under (.builtin "type.__call__" ⟨.ref C:: us,kw⟩)) outer s H:=⟨by first|exact e.frames|(simpa [Around.under,Code.envs,Code.isFrame,pushEnvs]using e.frames),e.mod,e.bs,e.bsz,e.funs,e.frf,e.hok,e.bare⟩
section
variable {X:Cx} {pins:PN} {σ:St} {H:Hp} {s s':Shared}
theorem Inv.env0(I:Inv X pins σ H s):Env0 X.prog X.w X.K X.mg X.base X.A X.stack s H:=
 ⟨I.ok.frames,I.ok.mod,I.bs,yL I.ok.bsz I.sz,I.stack,I.stkFree,I.hok,I.bare⟩
theorem Inv.after{Q:VK}{u:Value}(I:Inv X pins σ H s)(h:CE X.stack X.prog X.w H s Q u s'):EP X pins σ Q u s':=by
 obtain⟨v,H',os,bare,un,hok,r,q⟩:=h;obtain⟨hh,g,d,t,os'⟩:=s';obtain rfl:os'=s.os:=os;exact⟨v,H',I.call (h':=hh) (g':=g) (d':=d) (t':=t) (ch:=[]) un hok bare (λb z=>absurd z (by simp)),r,q⟩
end
def nL(sp:Sp)(dvs:List V)(E:XK)(t:TA):TE:=λσ H Q=>t σ H λvs H1=>sp (vs++dvs) H1 Q E
def kS(C:Addr)(m:Str)(sp:Sp)(dvs:List V)(E:XK)(ta:TE)(t:TA):TE:=λσ H Q=>ta σ H λx H1=>∃a dx fs,x=.ref a/\H1 a=some (.ins C dx fs)/\fs.lookup m=none /\
 t σ H1 λvs H2=>sp (x:: (vs++dvs)) H2 Q E
def cF(C:Addr)(sp:Sp)(dvs:List V)(E:XK)(t:TA):TE:=λσ H Q=>t σ H λvs H1=>∀x dx,H1 x=none->H1 dx=none->dx≠x ->
 sp (.ref x:: (vs++dvs)) (upd (upd H1 dx (.own x)) x (.ins C dx [])) (λv H2=>v=.non/\Q (.ref x) H2) E
def mD(K:Frag)(fd:FuncData)(ps:List Str)(ds:LW):Prop:=
 ∀(s:Shared)(us:LW),K.In s.heap->(us++ds).length=ps.length->BindsTo s fd ⟨us,[]⟩ (ps.zip (us++ds))
theorem mD.all{K:Frag}{fd:FuncData}{ps:List Str}(h:∀us:LW,us.length=ps.length->bindArgs fd ⟨us,[]⟩=pure (ps.zip us)):mD K fd ps []:=λs us _ hl=>by
 rw[vG]at hl ⊢;exact .of_eq (h us hl)
def iA(CX:CXT)(X:Cx)(E:XK):Prop:=∀(pins:PN)(σ:St)(H:Hp)(s:Shared)(e:Value)(s':Shared),Inv X pins σ H s->CX X.stack H s E e s'->X.xe e s'
section
variable {X:Cx} {CX:CXT} {k:Nat} {f C:Addr} {fd:FuncData} {ps:List Str} {sp:Sp} {dvs:List V} {ds:LW} {E:XK} {x m:Str} {p pos apos:Pos} {e o:Expr} {es:List Expr} {ta:TE} {t:TA}
theorem aY{pins:PN}{σ:St}{H:Hp}{s:Shared}{Q:VK}{us:LW}{vs:List V}(F:FnOk X.prog X.w X.K X.mg X.base CX k f fd ps sp)(hr:Room k X.A)(hb:mD X.K fd ps ds)(hd:Vals dvs ds)(hx:iA CX X E)
  (I:Inv X pins σ H s)(r:Vals vs us)(h:sp (vs++dvs) H Q E):wpAny (model X.prog X.w) X.A (call (.ref f) us) (EP X pins σ Q) X.xe s:=by
 have r2:Vals (vs++dvs) (us++ds):=r.append hd;have hl:(us++ds).length=ps.length:=by rw[←r2.length];exact F.len _ _ _ _ h
 refine wpAny_call (rT (F.run X.A X.stack s H ⟨us,[]⟩ (us++ds) (vs++dvs) Q E hr I.env0 (hb s us I.kIn hl) r2 h) λr s' hq=>?_);cases r with
 |error e=>exact hx pins σ H s e s' I hq
 |ok fl =>
  cases fl with
  |ret u=>exact I.after hq
  |next=>exact False.elim hq
  |brk=>exact False.elim hq
  |cont=>exact False.elim hq
theorem jG(F:FnOk X.prog X.w X.K X.mg X.base CX k f fd ps sp)(hr:Room k X.A)(hg:Gl X x)(hm:X.mg x=some (.ref f))(hk:PySem.W.keepIn X.K (.ref f)=true)(hb:mD X.K fd ps ds)(hd:Vals dvs ds)(hx:iA CX X E)
  (ha:PA X (e:: es) t)(hdb:(x == ("__debug__" :Str))=false:=by decide)(he:starEach (e:: es) X.env=(false,eval e X.env):: starEach es X.env:=by rfl)(hpl:(backTo pos (starEach es X.env)).any (·.1)=false:=by rfl):
  PE X (.Call (.Name x p) (e:: es) [] pos) (nL sp dvs E t):=by
 intro pins s σ H Q I h;refine tL (dY I hg hm ?_ hdb);refine rL (h₀:=X.base) I.ok.mod.kin hk (thn (ha pos pins s σ H _ I h) λus s1⟨vs,H1,I1,r,q⟩=>⟨I1.kIn,?_⟩) he hpl;exact aY F hr hb hd hx I1 r q
theorem Da{pl:Sem Bool}(he:PE X o ta)(c:Cls X.K C)(hm:Meth X.K C m f)(F:FnOk X.prog X.w X.K X.mg X.base CX k f fd ps sp)(hr:Room k X.A)(hb:mD X.K fd ps ds)(hd:Vals dvs ds)(hx:iA CX X E)(ha:PA X (e:: es) t)
  (hst:starEach (e:: es) X.env=(false,eval e X.env):: starEach es X.env:=by rfl)(hpl:(backTo pos (starEach es X.env)).any (·.1)=false:=by rfl)
  (ht:eval (.Call (.Attribute o m apos) (e:: es) [] pos) X.env=(do
   let ov ←eval o X.env
   standAt apos.atName
   let (f,first) ←holding [ov] (getMethod ov m pl)
   callWith pos f first (backTo pos (starEach (e:: es) X.env)) (backToKw pos (keywordEach [] X.env))):=by rfl):
  PE X (.Call (.Attribute o m apos) (e:: es) [] pos) (kS C m sp dvs E ta t):=by
 intro pins s σ H Q I h;refine PySem.W.methodCall_KW (pl:=pl) (thn (he pins s σ H _ I h) λu s1⟨x,H1,I1,rx,a,dx,fs,ex,ea,l,q⟩=>?_) ht;subst ex;obtain rfl:u=Value.ref a:=rx;refine Db I1 ea c hm l ?_;refine rL (first:=[.ref a]) (h₀:=X.base) I.ok.mod.kin hm.kp (thn (ha pos pins s1 σ H1 _ I1 q) λus s2⟨vs,H2,I2,r,q2⟩=>⟨I2.kIn,?_⟩) hst hpl;exact aY (us:=.ref a:: us) (vs:=.ref a:: vs) F hr hb hd hx I2 (.cons rfl r) q2
theorem iQ{pl:Sem Bool}(he:PE X o ta)(c:Cls X.K C)(hm:Meth X.K C m f)(F:FnOk X.prog X.w X.K X.mg X.base CX k f fd ps sp)(hr:Room k X.A)(hb:mD X.K fd ps ds)(hd:Vals dvs ds)(hx:iA CX X E)
  (ht:eval (.Call (.Attribute o m apos) [] [] pos) X.env=(do
   let ov ←eval o X.env
   standAt apos.atName
   let (f,first) ←holding [ov] (getMethod ov m pl)
   callWith pos f first (backTo pos (starEach [] X.env)) (backToKw pos (keywordEach [] X.env))):=by rfl):
  PE X (.Call (.Attribute o m apos) [] [] pos) (kS C m sp dvs E ta tNil):=by
 intro pins s σ H Q I h;refine PySem.W.methodCall_KW (pl:=pl) (thn (he pins s σ H _ I h) λu s1⟨x,H1,I1,rx,a,dx,fs,ex,ea,l,q⟩=>?_) ht;subst ex;obtain rfl:u=Value.ref a:=rx;refine Db I1 ea c hm l ?_;exact PySem.W.callWith_K0 (first:=[.ref a]) I1.kIn hm.kp (aY (us:=[.ref a]) (vs:=[.ref a]) F hr hb hd hx I1 (.cons rfl .nil) q)
structure Mk(K:Frag)(C f:Addr):Prop where
 makes:PySem.W.makesIn K C=true
 init:PySem.W.findIn K (.ref C) "__init__"=some (some (.ref f))
 fn:PySem.W.isFn K (.ref f)=true
 kp:PySem.W.keepIn K (.ref C)=true
theorem Le{pins:PN}{σ:St}{H:Hp}{s:Shared}{Q:VK}{us:LW}{vs:List V}(M:Mk X.K C f)(F:FnOk X.prog X.w X.K X.mg X.base CX k f fd ps sp)(hr:Room (k+1) X.A)(hb:mD X.K fd ps ds)(hd:Vals dvs ds)
  (hx:iA CX X E)(I:Inv X pins σ H s)(r:Vals vs us)
  (h:∀x dx,H x=none->H dx=none->dx≠x->sp (.ref x:: (vs++dvs)) (upd (upd H dx (.own x)) x (.ins C dx [])) (λv H2=>v=.non/\Q (.ref x) H2) E):
  wpAny (model X.prog X.w) X.A (call (.ref C) us) (EP X pins σ Q) X.xe s:=by
 have hq:=h (s.heap.objs.size+1) s.heap.objs.size (I.hok.fresh (qP _)) (I.hok.fresh (zG _)) (yB (sD _));have I2:=Inv.made (C:=C) I;have r2:Vals (V.ref (s.heap.objs.size+1):: (vs++dvs)) (Value.ref (s.heap.objs.size+1):: (us++ds)):=.cons rfl (r.append hd);have hl:(Value.ref (s.heap.objs.size+1):: us++ds).length=ps.length:=by
  have e:=r2.length;rw[F.len _ _ _ _ hq]at e;exact e.symm
 refine wpAny_call (Lm (f:=f) I.kIn M.makes M.init (qT.mp M.fn) (rT (F.run _ X.stack _ _ ⟨Value.ref (s.heap.objs.size+1):: us,[]⟩ (Value.ref (s.heap.objs.size+1):: (us++ds)) _ _ E (hr.make C us [])
  (I2.env0.make C us []) (hb _ (Value.ref (s.heap.objs.size+1):: us) I2.kIn hl) r2 hq) λr s' hq'=>?_))
 cases r with
 |error e=>exact hx pins σ _ _ e s' I2 hq'
 | ok fl =>
  cases fl with
  |ret u =>
   obtain⟨v,H',I3,rv,ev,q3⟩:=I2.after hq';subst ev;exact⟨rv,⟨V.ref (s.heap.objs.size+1),H',I3,rfl,q3⟩⟩
  |next=>exact False.elim hq'
  |brk=>exact False.elim hq'
  |cont=>exact False.elim hq'
theorem aZ(M:Mk X.K C f)(F:FnOk X.prog X.w X.K X.mg X.base CX k f fd ps sp)(hr:Room (k+1) X.A)(hg:Gl X x)(hm:X.mg x=some (.ref C))(hb:mD X.K fd ps ds)(hd:Vals dvs ds)(hx:iA CX X E)
  (ha:PA X (e:: es) t)(hdb:(x == ("__debug__" :Str))=false:=by decide)(he:starEach (e:: es) X.env=(false,eval e X.env):: starEach es X.env:=by rfl)(hpl:(backTo pos (starEach es X.env)).any (·.1)=false:=by rfl):
  PE X (.Call (.Name x p) (e:: es) [] pos) (cF C sp dvs E t):=by
 intro pins s σ H Q I h;refine tL (dY I hg hm ?_ hdb);refine rL (h₀:=X.base) I.ok.mod.kin M.kp (thn (ha pos pins s σ H _ I h) λus s1⟨vs,H1,I1,r,q⟩=>⟨I1.kIn,?_⟩) he hpl;exact Le M F hr hb hd hx I1 r q
end
section
variable {X:Cx} {CX:CXT} {k:Nat} {f C:Addr} {fd:FuncData} {ps ks:List Str} {sp:Sp} {E:XK} {x m:Str} {p pos apos kpos:Pos} {e o:Expr} {es:List Expr} {kws:List Keyword} {te ta:TE} {t tk:TA} {nm:Option Str}
variable {g:LW->LW->LW} {gV:List V->List V->List V}
end
structure oC(N P:List Str)(sc:Scope):Prop where
 kind:sc.kind=.function
 co:sc.isCoroutine=false
 gen:sc.isGenerator=false
 nd:N.Nodup
 pre:N.take P.length=P
 par:∀x∈P,sc.names.lookup x=some .local\/sc.names.lookup x=some .cell
 nofree:∀y∈sc.names,y.2≠.free
theorem Ez{kindOf:Str->Option NameKind}{x:Str}:∀{binds:List (Str×Value)}{m:MT},(∀v,(x,v)∉binds)->bindL kindOf binds m x=m x
 |[],_,_=>rfl
 | (n,v):: r,m,h=>by
  unfold bindL;rw[Ez λw hw=>h w (zM _ hw)];split
  ·have:x≠n:=by rintro rfl;exact h v zU
   simp[this]
  ·rfl
theorem Ey{kindOf:Str->Option NameKind}{x:Str}:∀{binds:List (Str×Value)}{m:MT},(∀v,(x,v)∉binds)->bindC kindOf binds m x=m x
 |[],_,_=>rfl
 | (n,v):: r,m,h=>by
  unfold bindC;rw[Ey λw hw=>h w (zM _ hw)];split
  ·rfl
  ·have:x≠n:=by rintro rfl;exact h v zU
   simp[this]
theorem Ex{kindOf:Str->Option NameKind}{x:Str}{v:Value}:∀{P:List Str}{vs:LW}{i:Nat}{m:MT},P.Nodup->P[i]?=some x->vs[i]?=some v->kindOf x=some .local ->
  bindL kindOf (P.zip vs) m x=some v
 |[],_,_,_,_,h,_,_=>by simp at h
 |_:: _,[],_,_,_,_,h,_=>by simp at h
 |p:: P,w:: vs,0,m,nd,h1,h2,hk=>by
  simp at h1 h2;subst h1;subst h2;show bindL kindOf ((p,w):: P.zip vs) m p=_;unfold bindL;rw[Ez λv hv=>(sZ.mp nd).1 (sI hv).1,zJ hk];simp
 |p:: P,w:: vs,i+1,m,nd,h1,h2,hk=>by
  show bindL kindOf ((p,w):: P.zip vs) m x=_;unfold bindL;exact Ex (i:=i) (sZ.mp nd).2 (by simpa using h1) (by simpa using h2) hk
theorem Ew{kindOf:Str->Option NameKind}{x:Str}{v:Value}:∀{P:List Str}{vs:LW}{i:Nat}{m:MT},P.Nodup->P[i]?=some x->vs[i]?=some v->kindOf x≠some .local ->
  bindC kindOf (P.zip vs) m x=some v
 |[],_,_,_,_,h,_,_=>by simp at h
 |_:: _,[],_,_,_,_,h,_=>by simp at h
 |p:: P,w:: vs,0,m,nd,h1,h2,hk=>by
  simp at h1 h2;subst h1;subst h2;show bindC kindOf ((p,w):: P.zip vs) m p=_;unfold bindC;rw[Ey λv hv=>(sZ.mp nd).1 (sI hv).1,zI hk];simp
 |p:: P,w:: vs,i+1,m,nd,h1,h2,hk=>by
  show bindC kindOf ((p,w):: P.zip vs) m x=_;unfold bindC;exact Ew (i:=i) (sZ.mp nd).2 (by simpa using h1) (by simpa using h2) hk
noncomputable def jH(N:List Str)(vs:List V):St:=vs.map some++List.replicate (N.length-vs.length) none
noncomputable def cxOf(CX:CXT)(P:Program)(w:World)(K:Frag)(mg:MT)(base:Heap)(N:List Str)(qual:Str)(scope:Scope)(f:Addr)(cd:Value)(A:Around)(outer:List Env)(s:Shared)(H:Hp)(E:XK):Cx where
 prog:=P
 w:=w
 K:=K
 mg:=mg
 base:=base
 A:=A.deeper (envOfC qual scope s.heap.objs.size f cd)
 N:=N
 s₀:=s
 H₀:=H
 env:=envOfC qual scope s.heap.objs.size f cd
 outer:=outer
 stack:=envOfC qual scope s.heap.objs.size f cd:: outer
 ex:=[]
 calm:=true
 fn:=λ_=>true
 pn:=[]
 xe:=λe s'=>wpAny (model P w) (A.deeper (envOfC qual scope s.heap.objs.size f cd)) (leaving (envOfC qual scope s.heap.objs.size f cd) e) (λ_ s''=>CX outer H s E e s'') (λe' s''=>CX outer H s E e' s'') s'
theorem Ev{sc:Scope}{n:Nat}{x:Str}(h:sc.names.lookup x=some .cell):∃c,(cellsFrom n sc.names []).lookup x=some c:=by
 have q:=PySem.W.cellsFrom_some sc.names n [] (.inl h);exact Option.isSome_iff_exists.mp q
theorem Ld{CX:CXT}{P:Program}{w:World}{K:Frag}{mg:MT}{base:Heap}{N ps:List Str}{qual:Str}{scope:Scope}{f:Addr}{cd:Value}{A:Around}{outer:List Env}{s s1:Shared}{H:Hp}{E:XK}{us:LW}{vs:List V}
  (S:oC N ps scope)(hd:A.handled=none)(e0:Env0 P w K mg base A outer s H)(hl:vs.length=ps.length)(r:Vals vs us)
  (x:InCallC s s.heap.objs.size (bindL (envOfC qual scope s.heap.objs.size f cd).kindOf (ps.zip us) λ_=>none) (cellsFrom (s.heap.objs.size+1) scope.names []) (bindC (envOfC qual scope s.heap.objs.size f cd).kindOf (ps.zip us) λ_=>none) s1):
  Inv (cxOf CX P w K mg base N qual scope f cd A outer s H E) [] (jH N vs) H s1:=by
 have hpl:ps.length<=N.length:=by have:=wC List.length S.pre;rw[yW]at this;omega
 obtain⟨h1,tk,rfl,hk⟩:=x.done;have noA:∀b:Addr,b∉(cxOf CX P w K mg base N qual scope f cd A outer s H E).ex:=λb z=>absurd (show b∈([]:LA) from z) (by simp);refine⟨⟨e0.mod,S.kind,rfl,rfl,zG _,λy z c h1 h2=>?_,λy hy=>?_,λy c _ h=>?_,λ_=>hd,Around.frames_deeper e0.frames,.inr ⟨rfl,rfl⟩,λb z=>absurd z (noA b),e0.bs,e0.bsz,λb _ _=>noA b,λb z=>absurd z (noA b),e0.funs,e0.frf⟩,
  rfl,e0.bare,Un.kept hk,⟨_,x.toInCall.ns,λi y v h1 h2 h3=>?_⟩,λy c h=>⟨_,x.cell y c h⟩,e0.hok.fresh (zG _),λy c h=>?_,λp hp=>absurd (show p∈([]:PN) from hp) (by simp),e0.hok.kept hk,?_⟩
 ·exact name_of_addr x.apart (wW h1) (wW h2)
 ·have hy:scope.names.lookup y=some .cell\/scope.names.lookup y=some .free:=hy;rcases hy with hy|hy
  ·exact Ev hy
  ·exact absurd rfl (S.nofree _ (wW hy))
 ·exact xR (x.above y c (wW h))
 ·have hi:i<vs.length:=by
   unfold jH at h2
   by_cases hi:i<vs.length
   ·exact hi
   ·rw[yD (by simpa using hi)]at h2;rw[vW]at h2;split at h2 <;> cases h2
  have ha:vs[i]?=some v:=by
   unfold jH at h2;rw[yT (by simpa using hi),zC]at h2;cases e:vs[i]? with
   |none=>rw[e]at h2;cases h2
   |some a=>rw[e]at h2;cases h2;rfl
  obtain⟨u,hu,rv⟩:=r.get ha;have hp:ps[i]?=some y:=by
   rw[←S.pre,List.getElem?_take_of_lt ⋯];exact h1
  have ndP:ps.Nodup:=by rw[←S.pre];exact S.nd.sublist (List.take_sublist _ _)
  refine⟨u,rv,?_⟩;rcases S.par y (yC hp) with k|k
  ·exact .inl ⟨k,Ex ndP hp hu k⟩
  ·obtain⟨c,e⟩:=Ev (n:=s.heap.objs.size+1) k;refine .inr ⟨.inl k,c,e,?_⟩;have q:=x.cell y c e;rw[Ew ndP hp hu (by show scope.names.lookup y≠_;rw[k];decide)]at q;exact q
 ·exact e0.hok.fresh (xR (x.above y c (wW h)))
 ·unfold jH;show _=N.length;rw[zX,yP,xO];omega
theorem Az{CX:CXT}{P:Program}{w:World}{K:Frag}{mg:MT}{base:Heap}{k:Nat}{f:Addr}{name qual:Str}{params:Arguments}{body:List Stmt}{scope:Scope}{dV kV doc pm cdv ct oc:Value}{an od:Option Addr}
  {osl:Array (Option Value)}{N ps:List Str}{sp:Sp}(lk:K.lookup f=some ⟨oc,od,.func (PySem.W.fnOf name qual params body scope dV kV doc pm an cdv ct),osl⟩)(hcd:PySem.W.codeIn K cdv qual=true)(S:oC N ps scope)
  (len:∀vs H Q E,sp vs H Q E->vs.length=ps.length)
  (hbody:∀(A:Around)(outer:List Env)(s:Shared)(H:Hp)(vs:List V)(Q:VK)(E:XK),Room k (A.deeper (envOfC qual scope s.heap.objs.size f cdv))->sp vs H Q E ->
   ∃t,PSs (cxOf CX P w K mg base N qual scope f cdv A outer s H E) body t/\t {nx:=λ_ H'=>Q .non H',rt:=Q} (jH N vs) H):
  FnOk P w K mg base CX (k+1) f (PySem.W.fnOf name qual params body scope dV kV doc pm an cdv ct) ps sp:=by
 refine⟨len,λA outer s H args us vs Q E hr e0 hb r hsp=>?_⟩;have hl:=len _ _ _ _ hsp;have KX:K.In s.heap:=e0.mod.kin.keeps λb o e=>(e0.bs b o e).1;have lim:s.heap.NoLimit:=e0.mod.nolimit.keeps λb o e=>(e0.bs b o e).1;have hkind:∀y∈ps.zip us,scope.names.lookup y.1=some .local\/(scope.names.lookup y.1=some .cell/\((cellsFrom (s.heap.objs.size+1) scope.names []).lookup y.1).isSome=true):=λ⟨n,v⟩hy=>by
  rcases S.par n (sI hy).1 with q|q
  ·exact .inl q
  ·exact .inr ⟨q,PySem.W.cellsFrom_some _ _ _ (.inl q)⟩
 refine codeAny_call_function hr.depth (KX _ _ lk) rfl S.co S.gen rfl (PySem.W.codeRec_of KX hcd) (hb _ _ _ _ ?_);refine wpAny_newFunctionEnv_cells S.kind hkind λenv he s1 x=>?_;subst he;refine⟨lim.keeps x.toInCall.keep,codeAny_func ?_⟩;obtain⟨t,ht,hq⟩:=hbody A outer s H vs Q E (hr.deeper _) hsp;have I:Inv (cxOf CX P w K mg base N qual scope f cdv A outer s H E) [] (jH N vs) H s1:=Ld S hr.hd e0 hl r x;refine xJ (ht [] s1 (jH N vs) H _ I hq) (λfl s' hs=>?_) λe s' hs=>hs;have fin:∀{σ':St}{H':Hp}{v:V}{u:Value},Inv (cxOf CX P w K mg base N qual scope f cdv A outer s H E) [] σ' H' s'->RelV v u->Q v H'->CE outer P w H s Q u s':=
  λ{σ' H' v u}J rv q=>⟨v,H',J.os,J.bare,J.base,J.hok,rv,q⟩
 cases fl with
 |ret u =>
  obtain⟨v,σ',H',J,rv,q⟩:=hs;exact fin J rv q
 |next =>
  obtain⟨σ',H',J,q⟩:=hs;exact fin (v:=V.non) (u:=Value.none) J rfl q
 |brk =>
  obtain⟨_,_,_,q⟩:=hs;exact False.elim q
 |cont =>
  obtain⟨_,_,_,q⟩:=hs;exact False.elim q
section
variable {X:Cx} {x:Str} {p pos:Pos} {e:Expr} {es:List Expr} {t:TA} {id T:String} {r:List V->Hp->VK->Prop}
def tCB(r:List V->Hp->VK->Prop)(t:TA):TE:=λσ H Q=>t σ H λvs H1=>r vs H1 Q
theorem mJ(hc:lF X (.builtin id) r)(hg:Gl X x)(hm:X.mg x=none)(hv:bootBuiltins x=some (.builtin id))(ha:PA X (e:: es) t)(hn:x≠"__name__" := by decide)(hdb:(x == ("__debug__" :Str))=false:=by decide)
  (he:starEach (e:: es) X.env=(false,eval e X.env):: starEach es X.env:=by rfl)(hpl:(backTo pos (starEach es X.env)).any (·.1)=false:=by rfl):PE X (.Call (.Name x p) (e:: es) [] pos) (tCB r t):=by
 intro pins s σ H Q I h;refine tL (gK I hg hm hv ?_ hn hdb);exact PyProof.Rows.callWith_builtin1 (thn (ha pos pins s σ H _ I h) λus s1⟨vs,H1,I1,r1,q1⟩=>hc pins s1 σ H1 vs us Q I1 r1 q1) he hpl
theorem nS(hc:lF X (.type T) r)(hg:Gl X x)(hm:X.mg x=none)(hv:bootBuiltins x=some (.type T))(ha:PA X (e:: es) t)(hn:x≠"__name__" := by decide)(hdb:(x == ("__debug__" :Str))=false:=by decide)
  (he:starEach (e:: es) X.env=(false,eval e X.env):: starEach es X.env:=by rfl)(hpl:(backTo pos (starEach es X.env)).any (·.1)=false:=by rfl):PE X (.Call (.Name x p) (e:: es) [] pos) (tCB r t):=by
 intro pins s σ H Q I h;refine tL (gK I hg hm hv ?_ hn hdb);exact vB (thn (ha pos pins s σ H _ I h) λus s1⟨vs,H1,I1,r1,q1⟩=>hc pins s1 σ H1 vs us Q I1 r1 q1) he hpl
end
end L2
namespace HT
open PySem PyProof.Rows
section
open PySem.SeqAt
open PySem.AutoSeq1 (wpAny_loadPart')
open PySem.MeetsSeq PySem.MeetsSeq2 PySem.MeetsSeq3
end
section
variable {prog:Program} {w:World} {A:Around} {E:VP} {s:Shared}
noncomputable def sIx(n d:Nat):Option Int->Nat
 |none=>d
 |some v=>if v<0 then(v+(n:Int)).toNat else min v.toNat n
theorem sIx_none(n d:Nat):sIx n d none=d:=rfl
theorem sIx_nat(n d k:Nat):sIx n d (some (k:Int))=min k n:=by
 show(if(k:Int)<0 then((k:Int)+(n:Int)).toNat else min (k:Int).toNat n)=min k n;rw[zI ⋯,zS]
theorem Lc(n d:Nat)(hd:d<=n)(o:Option Int):sIx n d o<=n:=by
 cases o with
 |none=>exact hd
 |some v =>
  show(if v<0 then(v+(n:Int)).toNat else min v.toNat n)<=n
  by_cases hv:v<0
  ·rw[zJ hv];omega
  ·rw[zI hv];exact Nat.min_le_right _ _
theorem Eu(v:Int)(n d:Nat):(if v<0 then max (v+(n:Int)) 0 else min v (n:Int))=((sIx n d (some v):Nat):Int):=by
 show(if v<0 then max (v+(n:Int)) 0 else min v (n:Int))=(((if v<0 then(v+(n:Int)).toNat else min v.toNat n):Nat):Int)
 by_cases hv:v<0
 ·simp only[if_pos hv];omega
 ·simp only[if_neg hv];omega
theorem Lb(lo hi:Option Int)(n:Nat):Builtin.Slice.sliceAdjust lo hi 1 (n:Int)=(((sIx n 0 lo:Nat):Int),((sIx n n hi:Nat):Int)):=by
 have h1:¬ ((1:Int)<0):=⋯
 unfold Builtin.Slice.sliceAdjust;simp only[h1,if_false];refine Prod.ext ?_ ?_
 ·cases lo with
  |none=>rfl
  |some v=>exact Eu v n 0
 ·cases hi with
  |none=>rfl
  |some v=>exact Eu v n n
theorem La(i j:Nat):Builtin.Slice.slicePlaces (i:Int) (j:Int) 1=j-i:=by
 unfold Builtin.Slice.slicePlaces;have h1:(1:Int) > 0:=⋯
 simp only[h1,if_true,Int.ediv_one];split <;> omega
theorem Et{v:Value}{o:Option Int}{Q:Option Int->Shared->Prop}(p:IsPart v o)(h:Q o s):wpAny (model prog w) A (Builtin.Slice.slicePartIndex v) Q E s:=by
 cases p with
 |none=>exact slicePart_none h
 |int i t=>exact slicePart_int h
theorem Mz{sl:Addr}{vl vu:Value}{lo hi:Option Int}{n:Nat}{Q:Int×Int×Nat->Shared->Prop}(hs:s.heap.IsSliceOf sl vl vu .none)(pl:IsPart vl lo)(pu:IsPart vu hi)
  (h:Q (((sIx n 0 lo:Nat):Int),1,sIx n n hi-sIx n 0 lo) s):wpAny (model prog w) A (Builtin.Slice.sliceApplied (.ref sl) (pure (n:Int))) Q E s:=by
 obtain⟨os,hos,hcs,hds⟩:=id hs;unfold Builtin.Slice.sliceApplied Builtin.Slice.sliceFields;refine zA (zA (xX hos hds (x:=vl) rfl (zA (xX hos hds (x:=vu) rfl (zA (xX hos hds (x:=.none) rfl (zB ?_)))))));refine zA (slicePart_none ?_);show wpAny _ _ (if((1:Int) == 0)=true then _ else _) _ _ s;rw[zI ∅];refine zA (Et pl (zA (Et pu (zA (zB ?_)))));show wpAny _ _ (match Builtin.Slice.sliceAdjust lo hi 1 (n:Int) with|(lo,hi)=>pure (lo,(1:Int),Builtin.Slice.slicePlaces lo hi 1)) _ _ s;rw[Lb lo hi n];show wpAny _ _ (pure (((sIx n 0 lo:Nat):Int),(1:Int),Builtin.Slice.slicePlaces ((sIx n 0 lo:Nat):Int) ((sIx n n hi:Nat):Int) 1)) _ _ s;rw[La];exact zB h
theorem My(xs:Array Value)(i k:Nat):((List.range k).filterMap λ(m:Nat)=>xs[((i:Int)+(m:Int)*1).toNat]?).toArray=((xs.toList.drop i).take k).toArray:=by
 have e:(λ(m:Nat)=>xs[((i:Int)+(m:Int)*1).toNat]?)=λm=>xs[i+m]?:=by
  funext m
  have:((i:Int)+(m:Int)*1).toNat=i+m:=⋯
  rw[this]
 rw[e];have:=pick_run xs i k;rw[List.filterMap_map]at this;have e2:((λx=>xs[x]?)∘ λx=>i+x)=λm=>xs[i+m]?:=rfl;rw[e2]at this;rw[this]
theorem getItem_tuple_cut{t sl:Addr}{items:Array Value}{vl vu:Value}{lo hi:Option Int}{Q:VP}(ht:IsTup s.heap t items)(hs:s.heap.IsSliceOf sl vl vu .none)(pl:IsPart vl lo)(pu:IsPart vu hi)
  (hw:¬ (sIx items.size 0 lo=0/\sIx items.size items.size hi=items.size))
  (h:Q (.ref s.heap.objs.size) {s with heap:=s.heap.push {cls:=.type "tuple",data:=.seq ((items.toList.drop (sIx items.size 0 lo)).take (sIx items.size items.size hi-sIx items.size 0 lo)).toArray}})
  (hsz:items.size<=sizeLine):wpAny (model prog w) A (getItem (.ref t) (.ref sl)) Q E s:=by
 have htake:sizeOk (.seq ((items.toList.drop (sIx items.size 0 lo)).take (sIx items.size items.size hi-sIx items.size 0 lo)).toArray):=by
  show((items.toList.drop (sIx items.size 0 lo)).take (sIx items.size items.size hi-sIx items.size 0 lo)).toArray.size<=sizeLine;rw[zV,yW,vO,zO];omega
 have hj:sIx items.size items.size hi<=items.size:=Lc _ _ (zG _) hi;obtain⟨os,hos,hcs,hds⟩:=id hs;have hTs:s.TypeIs (.ref sl) "slice" := ⟨os,hos,hcs⟩;unfold getItem
 try with_reducible refine xQ ?_
 first|refine zA (zB ?_)|skip
 refine zA (wpAny_sequenceKey ht.typeIs ∅ ?_);refine zA (xY (name:=Str.ofString "__getitem__") ht.typeIs PyProof.Rows.slot_tuple_getitem
  (xS PyProof.Rows.slot_tuple_getitem ht.typeIs entry_tuple_getitem ?_ (args_tuple_getitem _ _)))
 show wpAny _ _ (Builtin.Tuple.tupleItemsOf (.ref t) >>= _) _ _ s;refine zA (tupleItemsOf_ ht ?_);refine zA (tD hTs ?_);rw[zJ ∅];refine zA (Mz hs pl pu ?_);have hno:¬ ((((sIx items.size 0 lo:Nat):Int) == 0 && (1:Int) == 1 && (sIx items.size items.size hi-sIx items.size 0 lo) == items.size)=true):=by
  intro q;rw[zQ,zQ]at q;have q1:((sIx items.size 0 lo:Nat):Int)=0:=yQ q.1.1;have q2:sIx items.size items.size hi-sIx items.size 0 lo=items.size:=yQ q.2;exact hw ⟨⋯,⋯⟩
 show wpAny _ _ (if(((sIx items.size 0 lo:Nat):Int) == 0 && (1:Int) == 1 && (sIx items.size items.size hi-sIx items.size 0 lo) == items.size)=true then _ else _) _ _ s;rw[zI hno,My]
 first
  |exact zA (m:=Builtin.Tuple.tupleExact _) (xI (zB ⟨_,rfl,zB h⟩) htake)
  |exact zA (m:=Builtin.Tuple.tupleExact _) (xI (zA (zB (zB ⟨_,rfl,zB h⟩))) htake)
  |exact zA (zA (m:=Builtin.Tuple.tupleExact _) (xI (zB (zB ⟨_,rfl,zB h⟩)) htake))
  |exact zA (zA (m:=Builtin.Tuple.tupleExact _) (xI (zB ⟨_,rfl,zB h⟩) htake))
end
end HT
namespace L2
open PySem PySem.Spec PyProof.Rows
open PySem.W (Frag)
abbrev TO:=St->Hp->(Option Int->Hp->Prop)->Prop
def PO(X:Cx)(e:Option Expr)(t:TO):Prop:=
 ∀(pins:PN)(s:Shared)(σ:St)(H:Hp)(Q:Option Int->Hp->Prop),Inv X pins σ H s->t σ H Q ->
  wpAny (model X.prog X.w) X.A (evalPart e X.env) (λu s'=>∃o H',Inv X pins σ H' s'/\IsPart u o/\Q o H') X.xe s
def Ay:TO:=λ_ H Q=>Q none H
def Ax(t:TE):TO:=λσ H Q=>t σ H λx H1=>∃i,x=.int i/\Q (some i) H1
section
variable {X:Cx} {e:Expr} {te:TE} {lo hi:Option Expr} {tl th:TO} {pos p2:Pos}
theorem Es:PO X none Ay:=by
 intro pins s σ H Q I h;rw[evalPart_none];exact zB ⟨none,H,I,.none,h⟩
theorem iB(h:PE X e te):PO X (some e) (Ax te):=by
 intro pins s σ H Q I hw;rw[evalPart_some];refine thn (h pins s σ H _ I hw) λu s1⟨x,H1,I1,r1,q1⟩=>?_;obtain⟨i,rfl,q⟩:=q1;obtain⟨t,rfl⟩:=r1;exact⟨some i,H1,I1,.int i t,q⟩
def SlR(X:Cx)(r:V->Option Int->Option Int->Hp->VK->Prop):Prop:=
 ∀(pins:PN)(s:Shared)(σ:St)(H:Hp)(x:V)(v vl vu:Value)(lo hi:Option Int)(sl:Addr)(Q:VK),Inv X pins σ H s->RelV x v->s.heap.IsSliceOf sl vl vu .none->IsPart vl lo->IsPart vu hi->r x lo hi H Q ->
  ∃T id,typeLookup (.type T) "__getitem__"=pure (some (.builtin id))/\s.TypeIs v T/\wpAny (model X.prog X.w) X.A (getItem v (.ref sl)) (EP X pins σ Q) X.xe s
def tSl(r:V->Option Int->Option Int->Hp->VK->Prop)(te:TE)(tl th:TO):TE:=λσ H Q=>te σ H λx H1=>tl σ H1 λl H2=>th σ H2 λu H3=>r x l u H3 Q
theorem fW{r:V->Option Int->Option Int->Hp->VK->Prop}(hr:SlR X r)(he:PE X e te)(hl:PO X lo tl)(hu:PO X hi th):PE X (.Subscript e (.Slice lo hi none p2) pos) (tSl r te tl th):=by
 intro pins s σ H Q I h;refine Subscript_ (thn (he pins s σ H _ I h) λv s1⟨x,H1,I1,r1,q1⟩=>?_);refine wpAny_Slice (thn (hl pins s1 σ H1 _ I1 q1) λvl s2⟨l,H2,I2,pl,q2⟩=>thn (hu pins s2 σ H2 _ I2 q2) λvu s3⟨u,H3,I3,pu,q3⟩=>?_);rw[evalPart_none];refine zB ?_;have I4:Inv X pins σ H3 {s3 with heap:=s3.heap.push {cls:=.type "slice",data:=.fields #[vl,vu,.none]}}:=I3.kept (t':=s3.toks) λb ob q=>zD _ q;obtain⟨T,id,hT,ht,hg⟩:=hr pins {s3 with heap:=s3.heap.push {cls:=.type "slice",data:=.fields #[vl,vu,.none]}} σ H3 x v vl vu l u s3.heap.objs.size Q I4 r1 (Heap.IsSliceOf.new ..) pl pu q3;show wpAny (model X.prog X.w) X.A (subscriptTail e (.Slice lo hi none p2) v (.ref s3.heap.objs.size)) (EP X pins σ Q) X.xe {s3 with heap:=s3.heap.push {cls:=.type "slice",data:=.fields #[vl,vu,.none]}};exact tail_any (ops:=[.ref s3.heap.objs.size,v]) ht hT hg (by with_unfolding_all rfl)
noncomputable def cutV(xs:List V)(lo hi:Option Int):List V:=(xs.drop (HT.sIx xs.length 0 lo)).take (HT.sIx xs.length xs.length hi-HT.sIx xs.length 0 lo)
theorem Er(xs:List V)(lo hi:Option Int):(cutV xs lo hi).length<=xs.length:=by
 unfold cutV;rw[yW,vO];omega
def rSlT(K:Frag):V->Option Int->Option Int->Hp->VK->Prop:=λx lo hi H Q=>∃a xs,x=.ref a/\SqT K H a xs /\
 ¬ (HT.sIx xs.length 0 lo=0/\HT.sIx xs.length xs.length hi=xs.length)/\∀p,H p=none->Q (.ref p) (upd H p (.tup (cutV xs lo hi)))
theorem Mx:SlR X (rSlT X.K):=by
 intro pins s σ H x v vl vu lo hi sl Q I rx hs pl pu h;obtain⟨a,xs,rfl,hx,hw,q⟩:=h;cases rx;obtain⟨its,r,ht,hz⟩:=I.tuple hx;have hlen:its.toArray.size=xs.length:=by rw[zV];exact r.length.symm
 refine⟨"tuple",_,PyProof.Rows.slot_tuple_getitem.lookup,ht.typeIs,?_⟩;refine HT.getItem_tuple_cut ht hs pl pu (by rw[hlen];exact hw) ?_ (by rw[hlen];exact hz);rw[hlen];refine⟨.ref s.heap.objs.size,_,I.laid (t':=s.toks) (o:=.tup (cutV xs lo hi)) (λb ob q=>zD _ q) (zG _) ?_,rfl,q _ (I.hok.fresh (zG _))⟩;exact⟨yL (Er xs lo hi) hz,_,(r.drop (HT.sIx xs.length 0 lo)).take (HT.sIx xs.length xs.length hi-HT.sIx xs.length 0 lo),IsTup.new _ _⟩
end
noncomputable def ixN(n:Nat)(i:Int):Option Nat:=if 0<=i then(if i<n then some i.toNat else none) else if -(n:Int)<=i then some (i+n).toNat else none
noncomputable def atI{α:Type}(xs:List α)(i:Int):Option α:=(ixN xs.length i).bind λj=>xs[j]?
theorem Ep{n:Nat}{i:Int}{j:Nat}(h:ixN n i=some j):seqIndex? i n=some j/\j<n/\-(n:Int)<=i/\i<n:=by
 unfold ixN at h
 by_cases h0:0<=i
 ·rw[zJ h0]at h
  by_cases h1:i<n
  ·rw[zJ h1]at h;have e:i.toNat=j:=zR h;exact⟨by rw[seqIndex_of h0 h1,e],⋯,⋯,h1⟩
  ·rw[zI h1]at h;cases h
 ·rw[zI h0]at h
  by_cases h1:-(n:Int)<=i
  ·rw[zJ h1]at h;have e:(i+n).toNat=j:=zR h;exact⟨by rw[qK ⋯ h1,e],⋯,h1,⋯⟩
  ·rw[zI h1]at h;cases h
theorem Eo{α:Type}{xs:List α}{i:Int}{v:α}(h:atI xs i=some v):∃j,seqIndex? i xs.length=some j/\xs[j]?=some v/\j<xs.length/\-(xs.length:Int)<=i/\i<xs.length:=by
 unfold atI at h;cases e:ixN xs.length i with
 |none=>rw[e]at h;cases h
 |some j =>
  rw[e]at h;obtain⟨h1,h2,h3,h4⟩:=Ep e;exact⟨j,h1,h,h2,h3,h4⟩
theorem Mw{α:Type}{xs:List α}{j:Nat}{v:α}(h:xs[j]?=some v):atI xs (j:Int)=some v:=by
 have hj:j<xs.length:=(pG.mp h).1;have e:ixN xs.length (j:Int)=some j:=by
  unfold ixN;rw[zJ ⋯,zJ ⋯];simp
 unfold atI;rw[e];exact h
def Mv(b:Expr):Prop:=∀o i,subscripted b false o i=operate [o,i] (getItem o i)
def IxR(X:Cx)(r:R2):Prop:=
 ∀(value slice:Expr)(pins:PN)(s:Shared)(σ:St)(H:Hp)(x y:V)(v u:Value)(Q:VK),Inv X pins σ H s->RelV x v->RelV y u->r x y H Q ->
  subscripted slice false v u=operate [v,u] (getItem v u)->wpAny (model X.prog X.w) X.A (subscriptTail value slice v u) (EP X pins σ Q) X.xe s
def MtR(X:Cx)(id:String)(r:V->List V->Hp->VK->Prop):Prop:=
 ∀(pins:PN)(s:Shared)(σ:St)(H:Hp)(x:V)(xs:List V)(v:Value)(us:LW)(Q:VK),Inv X pins σ H s->RelV x v->Vals xs us->r x xs H Q ->
  wpAny (model X.prog X.w) X.A (call (.builtin id) (v:: us)) (EP X pins σ Q) X.xe s
section
variable {X:Cx} {a b:Expr} {ta tb:TE} {pos:Pos}
theorem nD{r:R2}(hr:IxR X r)(ha:PE X a ta)(hb:PE X b tb)(hs:Mv b):PE X (.Subscript a b pos) (tOp r ta tb):=by
 intro pins s σ H Q I h;exact Subscript_ (binT ha hb I h λv u s2 x y H2 I2 rx ry q=>hr a b pins s2 σ H2 x y v u Q I2 rx ry q (hs _ _))
def rIxL(K:Frag):R2:=λx y H Q=>∃p xs i v,x=.ref p/\y=.int i/\SqL K H p xs/\atI xs i=some v/\Q v H
def rIxT(K:Frag):R2:=λx y H Q=>∃p xs i v,x=.ref p/\y=.int i/\SqT K H p xs/\atI xs i=some v/\Q v H
theorem Mu:IxR X (rIxL X.K):=by
 intro value slice pins s σ H x y v u Q I rx ry h hs;obtain⟨p,xs,i,z,rfl,rfl,hq,he,q⟩:=h;cases rx;obtain⟨t,rfl⟩:=ry;obtain⟨its,r,pl,hz⟩:=I.list hq;obtain⟨j,h1,h2,h3,h4,h5⟩:=Eo he;obtain⟨w,ew,rw'⟩:=r.get h2;have hl:=r.length;have hn:=cD;have fin:EP X pins σ Q w s:=⟨z,H,I,rw',q⟩
 by_cases h0:0<=i
 ·have hj:i.toNat=j:=by
   rw[seqIndex_of h0 h5]at h1;exact zR h1
  exact item_listR pl.isList h0 ⋯ (by rw[hj];simpa using ew) fin hs
 ·have hj:(i+(its.toArray.size:Int)).toNat=j:=by
   rw[qK ⋯ h4]at h1;rw[zV,←hl];exact zR h1
  exact tW (x:=w) pl.isList.typeIs slot_list_getitem.lookup
   (wpAny_getItem_list_neg (Q:=λr s'=>r=w/\EP X pins σ Q r s') pl.isList ⋯ (by rw[zV] <;> omega) ⋯ (by rw[hj];simpa using ew) ⟨rfl,fin⟩) hs
theorem Mt:IxR X (rIxT X.K):=by
 intro value slice pins s σ H x y v u Q I rx ry h hs;obtain⟨p,xs,i,z,rfl,rfl,hq,he,q⟩:=h;cases rx;obtain⟨t,rfl⟩:=ry;obtain⟨its,r,pl,hz⟩:=I.tuple hq;obtain⟨j,h1,h2,h3,h4,h5⟩:=Eo he;obtain⟨w,ew,rw'⟩:=r.get h2;have hl:=r.length;have hn:=cD;have fin:EP X pins σ Q w s:=⟨z,H,I,rw',q⟩;exact tW (x:=w) pl.typeIs slot_tuple_getitem.lookup
  (getItem_tuple (j:=j) (Q:=λr s'=>r=w/\EP X pins σ Q r s') pl ⋯ ⋯ (by rw[zV,←hl];exact h1) (by simpa using ew) ⟨rfl,fin⟩) hs
theorem Mr(its:LW)(n j:Nat)(u:Value):Obj.mapSeq (·.setIfInBounds j u) {cls:=.type "list",data:=.seq its.toArray n}={cls:=.type "list",data:=.seq (its.set j u).toArray n}:=by
 simp[Obj.mapSeq]
theorem Inv.lst{pins:PN}{σ:St}{H:Hp}{s:Shared}{p:Addr}{xs:List V}(I:Inv X pins σ H s)(h:H p=some (.lst xs)):
  ∃(its:LW)(n:Nat),Vals xs its/\s.heap.get? p=some {cls:=.type "list",data:=.seq its.toArray n}/\xs.length<=sizeLine:=by
 obtain⟨z,its,n,r,e⟩:=I.hok p _ h;exact⟨its,n,r,e,z⟩
theorem Inv.lstUpd{pins:PN}{σ:St}{H:Hp}{s:Shared}{p:Addr}{xs ys:List V}{its its':LW}{n n':Nat}{f:Obj->Obj}(I:Inv X pins σ H s)(h:H p=some (.lst xs))
  (ho:s.heap.get? p=some {cls:=.type "list",data:=.seq its.toArray n})(hf:f {cls:=.type "list",data:=.seq its.toArray n}={cls:=.type "list",data:=.seq its'.toArray n'})(r:Vals ys its')(hz:ys.length<=sizeLine)(t:Nat):
  Inv X pins σ (upd H p (.lst ys)) {s with heap:=s.heap.update p f,toks:=t}:=by
 have e:(s.heap.update p f).get? p=some {cls:=.type "list",data:=.seq its'.toArray n'}:=by
  rw[vD f ho (by rw[hf] <;> rfl),hf]
 refine I.write (x:=p) (e:=p) (by rw[h];trivial) (.inl rfl) (λb u hb q=>(uD _ _ (yE hb)).trans q) ⟨_,e⟩ ?_;exact⟨hz,its',n',r,e⟩
def Aw:V->V->V->Hp->(Hp->Prop)->Prop:=λo i v H Q=>∃p xs k j,o=.ref p/\i=.int k/\H p=some (.lst xs)/\ixN xs.length k=some j/\Q (upd H p (.lst (xs.set j v)))
theorem En:PSet X Aw:=by
 intro pins s σ H o i v ov iv u Q I ro ri rv h;obtain⟨p,xs,k,j,rfl,rfl,hp,hj,q⟩:=h;cases ro;obtain⟨t,rfl⟩:=ri;obtain⟨its,n,r,ho,hz⟩:=I.lst hp;obtain⟨h1,h2,h3,h4⟩:=Ep hj;have hl:=r.length;have hn:=cD;have I':Inv X pins σ (upd H p (.lst (xs.set j v))) {s with heap:=s.heap.update p (Obj.mapSeq (·.setIfInBounds j u))}:=
  I.lstUpd hp ho (Mr its n j u) (r.set rv j) (by rw[List.length_set];exact hz) s.toks
 by_cases h0:0<=k
 ·have hk:k.toNat=j:=by
   rw[seqIndex_of h0 h4]at h1;exact zR h1
  exact PySem.W.ki_setAt ho h0 ⋯ (by rw[zV,←hl];exact h4) (by rw[hk];exact⟨_,I',q⟩)
 ·have hk:(k+(its.toArray.size:Int)).toNat=j:=by
   rw[qK ⋯ h3]at h1;rw[zV,←hl];exact zR h1
  exact PySem.W.ki_setBack ho ⋯ (by rw[zV,←hl];exact h3) ⋯ (by rw[hk];exact⟨_,I',q⟩)
theorem Mq(lo hi:Option Int)(n:Nat):(sliceBounds lo hi none n).1=((HT.sIx n 0 lo:Nat):Int)/\(sliceBounds lo hi none n).2.1=((HT.sIx n n hi:Nat):Int)/\(sliceBounds lo hi none n).2.2=1:=by
 refine⟨?_,?_,rfl⟩
 ·cases lo with
  |none=>simp[sliceBounds,HT.sIx]
  |some i =>
   simp only[sliceBounds,HT.sIx,Option.getD_none,show(1:Int) > 0 by decide,if_true]
   by_cases h:i<0
   ·simp only[h,if_true] <;> omega
   ·simp only[h,if_false] <;> omega
 ·cases hi with
  |none=>simp[sliceBounds,HT.sIx]
  |some i =>
   simp only[sliceBounds,HT.sIx,Option.getD_none,show(1:Int) > 0 by decide,if_true]
   by_cases h:i<0
   ·simp only[h,if_true] <;> omega
   ·simp only[h,if_false] <;> omega
theorem Mp(its:LW)(lo hi:Option Int):slicePick its.toArray lo hi none=((its.drop (HT.sIx its.length 0 lo)).take (HT.sIx its.length its.length hi-HT.sIx its.length 0 lo)).toArray:=by
 obtain⟨h1,h2,h3⟩:=Mq lo hi its.toArray.size;unfold slicePick;rw[h1,h2,h3];simp only[sliceRange_one,pick_run,List.size_toArray] <;> rfl
def rSlL(K:Frag):V->Option Int->Option Int->Hp->VK->Prop:=λx lo hi H Q=>∃a xs,x=.ref a/\SqL K H a xs/\∀p,H p=none->Q (.ref p) (upd H p (.lst (cutV xs lo hi)))
theorem Mo:SlR X (rSlL X.K):=by
 intro pins s σ H x v vl vu lo hi sl Q I rx hs pl pu h;obtain⟨a,xs,rfl,hx,q⟩:=h;cases rx;obtain⟨its,r,ht,hz⟩:=I.list hx;have hlen:=r.length;refine⟨"list",_,slot_list_getitem.lookup,ht.isList.typeIs,?_⟩;refine wpAny_getItem_list_slice ht.isList hs pl pu .none (by simp) ?_ (by rw[List.size_toArray] <;> omega);rw[Mp,←hlen];refine⟨.ref s.heap.objs.size,_,I.laid (t':=s.toks) (o:=.lst (cutV xs lo hi)) (λb ob q=>zD _ q) (zG _) ?_,rfl,q _ (I.hok.fresh (zG _))⟩;exact⟨yL (Er xs lo hi) hz,_,0,(r.drop (HT.sIx xs.length 0 lo)).take (HT.sIx xs.length xs.length hi-HT.sIx xs.length 0 lo),zT _ rfl⟩
noncomputable def iC:V->Bool
 |.non=>true
 |.bl _=>true
 |.int _=>true
 |.str _=>true
 |_=>false
noncomputable def eqV:V->V->Bool
 |.non,.non=>true
 |.bl a,.bl b=>a == b
 |.bl a,.int b=>(if a then 1 else 0) == b
 |.int a,.bl b=>a == (if b then 1 else 0)
 |.int a,.int b=>a == b
 |.str a,.str b=>a == b
 |_,_=>false
theorem Mn{A:Around}{s:Shared}{y x:V}{u v:Value}(ry:RelV y u)(rx:RelV x v)(fy:iC y=true)(fx:iC x=true):SeqAt.EqAt A s u v (eqV y x):=by
 cases y with
 |non =>
  cases ry;cases x with
  |non=>cases rx;exact SeqAt.EqAt.same _
  |bl b=>cases rx;exact SeqAt.EqAt.none_bool b
  |int b=>obtain⟨t,rfl⟩:=rx;exact SeqAt.EqAt.none_int b t
  |str b=>obtain⟨t,rfl⟩:=rx;exact SeqAt.EqAt.none_str b t
  |_=>exact absurd (show false=true from fx) yF
 |bl a =>
  cases ry;cases x with
  |non=>cases rx;exact SeqAt.EqAt.bool_none a
  |bl b=>cases rx;exact SeqAt.EqAt.bool_bool a b
  |int b=>obtain⟨t,rfl⟩:=rx;exact SeqAt.EqAt.bool_int a b t
  |str b=>obtain⟨t,rfl⟩:=rx;exact SeqAt.EqAt.bool_str a b t
  |_=>exact absurd (show false=true from fx) yF
 |int a =>
  obtain⟨t',rfl⟩:=ry;cases x with
  |non=>cases rx;exact SeqAt.EqAt.int_none a t'
  |bl b=>cases rx;exact SeqAt.EqAt.int_bool a t' b
  |int b=>obtain⟨t,rfl⟩:=rx;exact SeqAt.EqAt.int_int a t' b t
  |str b=>obtain⟨t,rfl⟩:=rx;exact SeqAt.EqAt.int_str a t' b t
  |_=>exact absurd (show false=true from fx) yF
 |str a =>
  obtain⟨t',rfl⟩:=ry;cases x with
  |non=>cases rx;exact SeqAt.EqAt.str_none a t'
  |bl b=>cases rx;exact SeqAt.EqAt.str_bool a t' b
  |int b=>obtain⟨t,rfl⟩:=rx;exact SeqAt.EqAt.str_int a t' b t
  |str b=>obtain⟨t,rfl⟩:=rx;exact SeqAt.EqAt.str_str a t' b t
  |_=>exact absurd (show false=true from fx) yF
 |_=>exact absurd (show false=true from fy) yF
noncomputable def eqU(x:V)(u:Value):Bool:=match u with
 |.none=>eqV .non x
 |.bool b=>eqV (.bl b) x
 |.int i _=>eqV (.int i) x
 |.str z _=>eqV (.str z) x
 |_=>false
theorem Em{x y:V}{u:Value}(r:RelV y u)(f:iC y=true):eqU x u=eqV y x:=by
 cases y with
 |non=>cases r;rfl
 |bl b=>cases r;rfl
 |int i=>obtain⟨t,rfl⟩:=r;rfl
 |str z=>obtain⟨t,rfl⟩:=r;rfl
 |_=>exact absurd (show false=true from f) yF
theorem Av{x:V}:∀{xs:List V}{us:LW},Vals xs us->xs.all iC=true->us.any (eqU x)=xs.any λy=>eqV y x
 |_,_,.nil,_=>rfl
 |y:: xs,u:: us,.cons r t,f=>by
  rw[xC,zQ]at f;rw[uS,uS,Em r f.1,Av t f.2]
theorem Au{A:Around}{s:Shared}{x:V}{v:Value}(rx:RelV x v)(fx:iC x=true):∀{xs:List V}{us:LW},Vals xs us->xs.all iC=true->∀u∈us,SeqAt.EqAt A s u v (eqU x u)
 |_,_,.nil,_=>λu hu=>by cases hu
 |y:: xs,u:: us,.cons r t,f=>λu' hu=>by
  rw[xC,zQ]at f;rcases xE.mp hu with rfl|hu
  ·rw[Em r f.1];exact Mn r rx f.1 fx
  ·exact Au rx fx t f.2 u' hu
noncomputable def inV(x:V)(xs:List V):Bool:=xs.any λy=>eqV y x
def rIn(K:Frag)(neg:Bool):R2:=λx y H Q=>∃p xs,y=.ref p/\(SqL K H p xs\/SqT K H p xs)/\iC x=true/\xs.all iC=true/\Q (.bl (if neg then !inV x xs else inV x xs)) H
theorem cG:OpR X (compareOp .NotIn) (rIn X.K true):=by
 intro pins s σ H x y v u Q I rx ry h;obtain⟨p,xs,rfl,hq,fx,fs,q⟩:=h;cases ry;rcases hq with hq|hq
 ·obtain⟨its,r,pl,hz⟩:=I.list hq;refine SeqAt.notIn_listAt (eqU x) pl.isList (λw hw=>Au rx fx r fs w (by simpa using hw)) ⟨.bl _,H,I,rfl,?_⟩;rw[show its.toArray.any (eqU x)=its.any (eqU x) by simp,Av r fs];exact q
 ·obtain⟨its,r,pl,hz⟩:=I.tuple hq;refine SeqAt.notIn_tupleAt (eqU x) pl (λw hw=>Au rx fx r fs w (by simpa using hw)) ⟨.bl _,H,I,rfl,?_⟩;rw[show its.toArray.any (eqU x)=its.any (eqU x) by simp,Av r fs];exact q
theorem Mm:lF X (.builtin "len") (λxs H Q=>∃p ys,xs=[.ref p]/\(SqL X.K H p ys\/SqT X.K H p ys)/\Q (.int ys.length) H):=by
 intro pins s σ H xs us Q I r h;obtain⟨p,ys,rfl,hq,q⟩:=h;obtain⟨u,rfl,rx⟩:=jF r;cases rx;have hn:=cD;rcases hq with hq|hq
 ·obtain⟨its,r',pl,hz⟩:=I.list hq;have hlen:=r'.length;exact Calls.call_len_list pl.isList (by simp only[List.size_toArray] <;> omega) ⟨.int ys.length,H,I.tok _,⟨s.toks+1,by rw[zV,hlen]⟩,q⟩
 ·obtain⟨its,r',pl,hz⟩:=I.tuple hq;have hlen:=r'.length;exact len_tuple pl (by simp only[List.size_toArray] <;> omega) ⟨.int ys.length,H,I.tok _,⟨s.toks+1,by rw[zV,hlen]⟩,q⟩
theorem Ml:lF X (.type "list") (λxs H Q=>∃p ys,xs=[.ref p]/\(SqL X.K H p ys\/SqT X.K H p ys)/\∀l,H l=none->Q (.ref l) (upd H l (.lst ys))):=by
 intro pins s σ H xs us Q I r h;obtain⟨p,ys,rfl,hq,q⟩:=h;obtain⟨u,rfl,rx⟩:=jF r;cases rx;have fin:∀(its:LW),Vals ys its->ys.length<=sizeLine->∀(h':Heap)(c':Nat),(∀b o',s.heap.get? b=some o'->h'.get? b=some o') ->
   h'.get? s.heap.objs.size=some {cls:=.type "list",dict:=none,data:=.seq its.toArray c',slots:=#[]}->EP X pins σ Q (.ref s.heap.objs.size) {s with heap:=h'}:=λits r' hz h' c' kp e =>
  ⟨.ref s.heap.objs.size,_,I.laid (t':=s.toks) kp (zG _) (show nO X.prog X.w _ h' _ (.lst ys) from⟨hz,its,c',r',e⟩),rfl,q _ (I.hok.fresh (zG _))⟩
 rcases hq with hq|hq
 ·obtain⟨its,r',pl,hz⟩:=I.list hq;have hlen:=r'.length;obtain⟨o,ho,hc,n,hd⟩:=pl.isList;exact call_list_seq p (.inl rfl) ho hc hd (λh' c' kp e=>fin its r' hz h' c' kp e) (by simp only[List.size_toArray] <;> omega)
 ·obtain⟨its,r',pl,hz⟩:=I.tuple hq;have hlen:=r'.length;obtain⟨o,ho,hc,n,hd⟩:=pl;exact call_list_seq p (.inr rfl) ho hc hd (λh' c' kp e=>fin its r' hz h' c' kp e) (by simp only[List.size_toArray] <;> omega)
theorem Mj:lF X (.type "tuple") (λxs H Q=>∃p ys,xs=[.ref p]/\((SqL X.K H p ys/\∀l,H l=none->Q (.ref l) (upd H l (.tup ys)))\/(SqT X.K H p ys/\Q (.ref p) H))):=by
 intro pins s σ H xs us Q I r h;obtain⟨p,ys,rfl,h⟩:=h;obtain⟨u,rfl,rx⟩:=jF r;cases rx;rcases h with⟨hq,q⟩|⟨hq,q⟩
 ·obtain⟨its,r',pl,hz⟩:=I.list hq;have hlen:=r'.length;refine call_tuple_list pl.isList (λh' kp=>?_) (by simp only[List.size_toArray] <;> omega);have I1:Inv X pins σ H {s with heap:=h'}:=I.kept (t':=s.toks) kp;have I2:Inv X pins σ (upd H h'.objs.size (.tup ys)) {s with heap:=h'.push {cls:=.type "tuple",data:=.seq its.toArray}}:=
   I1.laid (t':=s.toks) (λb o e=>zD _ e) (zG _) (show nO X.prog X.w _ _ _ (.tup ys) from⟨hz,its,r',IsTup.new _ _⟩)
  exact⟨.ref h'.objs.size,_,I2,rfl,q _ (I1.hok.fresh (zG _))⟩
 ·obtain⟨its,r',pl,hz⟩:=I.tuple hq;exact call_tuple_same pl ⟨.ref p,H,I,rfl,q⟩
def tyV(K:Frag)(T:String)(x:V)(H:Hp):Prop:=match x with
 |.str _=>T="str"
 |.int _=>T="int"
 | .ref p=>(T="list" /\ ∃xs,SqL K H p xs)\/(T="tuple" /\ ∃o,K.lookup p=some o/\o.cls=.type "tuple" /\ o.dict=none) \/
   (T="dict" /\ ((∃kvs,H p=some (.dK kvs))\/∃kvs,H p=some (.dT kvs)))\/(T="set" /\ ∃S n,H p=some (.set S n))
 |_=>False
theorem Mi{pins:PN}{σ:St}{H:Hp}{s:Shared}{T:String}{x:V}{v:Value}(I:Inv X pins σ H s)(r:RelV x v)(ty:tyV X.K T x H):
  s.TypeIs v T/\∀a,v=.ref a->∃ob,s.heap.get? a=some ob/\ob.dict=none:=by
 cases x with
 |str z =>
  obtain⟨t,rfl⟩:=r;cases(show T="str" from ty);exact⟨typeIs_str s z t,λ_ e=>nomatch e⟩
 |int i =>
  obtain⟨t,rfl⟩:=r;cases(show T="int" from ty);exact⟨typeIs_int s i t,λ_ e=>nomatch e⟩
 | ref p =>
  cases r;rcases ty with⟨rfl,xs,hq⟩|⟨rfl,o,hk,hc,hd⟩|⟨rfl,hk⟩|⟨rfl,S,n,hk⟩
  ·obtain⟨its,_,pl,_⟩:=I.list hq;refine⟨pl.isList.typeIs,λa e=>?_⟩;cases e;obtain⟨o,n,e,c,hd,_⟩:=pl;exact⟨o,e,hd⟩
  ·refine⟨⟨o,I.kIn p o hk,hc⟩,λa e=>?_⟩;cases e;exact⟨o,I.kIn _ o hk,hd⟩
  ·have z:∃o,s.heap.get? p=some o/\o.ExactDict:=by
    rcases hk with⟨kvs,hk⟩|⟨kvs,hk⟩
    ·obtain⟨_,_,_,_,o,_,_,e,ex,_⟩:=I.hok p _ hk;exact⟨o,e,ex⟩
    ·obtain⟨_,_,_,_,o,_,_,e,ex,_⟩:=I.hok p _ hk;exact⟨o,e,ex⟩
   obtain⟨o,e,ex⟩:=z;refine⟨⟨o,e,ex.1⟩,λa e2=>?_⟩;cases e2;exact⟨o,e,ex.2.1⟩
  ·obtain⟨o,_,_,_,e,ex,_⟩:=I.hok p _ hk;refine⟨⟨o,e,ex.1⟩,λa e2=>?_⟩;cases e2;exact⟨o,e,ex.2.1⟩
 |_=>exact False.elim ty
def tBM0(K:Frag)(T:String)(r:V->List V->Hp->VK->Prop)(to:TE):TE:=λσ H Q=>to σ H λx H1=>tyV K T x H1/\r x [] H1 Q
def tBM(K:Frag)(T:String)(r:V->List V->Hp->VK->Prop)(to:TE)(t:TA):TE:=λσ H Q=>to σ H λx H1=>tyV K T x H1/\t σ H1 λxs H2=>r x xs H2 Q
variable {o e:Expr} {es:List Expr} {to:TE} {t:TA} {name:Str} {apos cpos:Pos} {T id:String} {r:V->List V->Hp->VK->Prop}
theorem cH(pa:PlainAttrs T)(slot:Slot T name id)(hty:typeOf (.builtin id)=pure (.type "method_descriptor"))(hm:MtR X id r)(ho:PE X o to)(ha:PA X (e:: es) t)
  (hbase:attributeBase o name X.env (eval o X.env)=eval o X.env:=by rfl)
  (hfew:((backTo cpos (starEach (e:: es) X.env)).all (λx=>!x.1) && (backToKw cpos (keywordEach [] X.env)).all (λx=>x.1.isSome)
   && decide ((e:: es).length+([]:List Keyword).length+(if([]:List Keyword).isEmpty then 0 else 1)<30))=true:=by rfl)
  (hline:(apos.endLine == cpos.line)=true:=by rfl)(hs:starEach (e:: es) X.env=(false,eval e X.env):: starEach es X.env:=by rfl)(hplain:(backTo cpos (starEach es X.env)).any (·.1)=false:=by rfl):
  PE X (.Call (.Attribute o name apos) (e:: es) [] cpos) (tBM X.K T r to t):=by
 intro pins s σ H Q I h;refine wpAny_Call_method_late hbase hfew hline rfl (thn (ho pins s σ H _ I h) λv s1⟨x,H1,I1,r1,ty,q1⟩=>?_);obtain⟨h1,h2⟩:=Mi I1 r1 ty;refine⟨T,id,pa,slot,hty,h1,h2,?_⟩;have hA:=ha cpos pins s1 σ H1 _ I1 q1;rw[hs]at hA ⊢;refine Calls.callWith_builtin (by show(false || (backTo cpos (starEach es X.env)).any (·.1))=false;rw[hplain] <;> rfl) (sU ?_);exact thn hA λus s2⟨vs,H2,I2,r2,q2⟩=>hm pins s2 σ H2 x vs v us Q I2 r1 r2 q2
end
def MtM(X:Cx)(id:String)(r:V->List V->Hp->VK->Prop):Prop:=
 ∀(pins:PN)(s:Shared)(σ:St)(H:Hp)(x:V)(xs:List V)(v:Value)(us:LW)(Q:VK),Inv X pins σ H s->RelV x v->Vals xs us->r x xs H Q ->
  wpAny (model X.prog X.w) X.A (call (.builtin id) (v:: us)) (EP X pins σ Q) X.xe s
theorem Vals.one:∀{x:V}{us:LW},Vals [x] us->∃u,us=[u]/\RelV x u
 |_,_,.cons r .nil=>⟨_,rfl,r⟩
theorem Vals.two:∀{x y:V}{us:LW},Vals [x,y] us->∃u v,us=[u,v]/\RelV x u/\RelV y v
 |_,_,_,.cons r (.cons q .nil)=>⟨_,_,rfl,r,q⟩
theorem Vals.rep{xs:List V}{us:LW}(h:Vals xs us):∀k:Nat,Vals (List.replicate k xs).flatten (List.replicate k us).flatten
 |0=>.nil
 |k+1=>by
  rw[wL,wL,tR,tR];exact Vals.append h (Vals.rep h k)
theorem El(its:LW):∀(k:Nat)(acc:LW),
  List.foldl (λx1 x2=>x1++x2) acc.toArray (List.replicate k its.toArray)=(acc++(List.replicate k its).flatten).toArray
 |0,acc=>by simp
 | k+1,acc=>by
  have e:acc.toArray++its.toArray=(acc++its).toArray:=by simp
  have e2:(acc++its)++(List.replicate k its).flatten=acc++(List.replicate (k+1) its).flatten:=by
   rw[wL,tR,yR]
  rw[←e2,←El its k (acc++its),←e,wL,wK]
section
variable {X:Cx} {pins:PN} {σ:St} {H:Hp} {s:Shared} {l b:Addr} {xs ys zs:List V}
theorem Inv.lset{its its':LW}{n:Nat}{f:Array Value->Array Value}{t':Nat}(I:Inv X pins σ H s)(hH:H l=some (.lst xs))
  (e:s.heap.get? l=some {cls:=.type "list",data:=.seq its.toArray n})(hf:f its.toArray=its'.toArray)(hv:Vals ys its')(hz:ys.length<=sizeLine):
  Inv X pins σ (upd H l (.lst ys)) {s with heap:=s.heap.update l (Obj.mapSeq f),toks:=t'}:=by
 have q:=PySem.IsL.update e f;rw[hf]at q;refine I.write (x:=l) (e:=l) (by rw[hH];exact trivial) (.inl rfl) (λb' u hb hu=>(uD s.heap (Obj.mapSeq f) (yE hb)).trans hu) ⟨_,q⟩ ?_;exact⟨hz,its',_,hv,q⟩
theorem Inv.lnew{its:LW}{t':Nat}(I:Inv X pins σ H s)(hv:Vals ys its)(hz:ys.length<=sizeLine):
  Inv X pins σ (upd H s.heap.objs.size (.lst ys)) {s with heap:=s.heap.push {cls:=.type "list",data:=.seq its.toArray},toks:=t'}:=
 I.laid (λ_ _ q=>zD _ q) (zG _) ⟨hz,its,0,hv,zT _ rfl⟩
theorem Inv.fresh(I:Inv X pins σ H s):H s.heap.objs.size=none:=I.hok.fresh (zG _)
theorem Inv.lstM(I:Inv X pins σ H s)(hH:H l=some (.lst xs)):xs.length<=sizeLine/\∃(its:LW)(n:Nat),Vals xs its/\xs.length=its.length/\s.heap.get? l=some {cls:=.type "list",data:=.seq its.toArray n}:=by
 obtain⟨z,its,n,r,e⟩:=I.hok l _ hH;exact⟨z,its,n,r,r.length,e⟩
theorem Mh{n:Nat}(h:n<=sizeLine):Builtin.List.listTooLong n=false:=by
 unfold Builtin.List.listTooLong;exact zN ⋯
end
section
variable {X:Cx}
def Mg:V->List V->Hp->VK->Prop:=λx vs H Q=>∃l xs y,x=.ref l/\vs=[y]/\H l=some (.lst xs)/\xs.length<sizeLine/\Q .non (upd H l (.lst (xs++[y])))
theorem fX:MtM X "list.append" Mg:=by
 intro pins s σ H x vs v us Q I rx rv h;obtain⟨l,xs,y,rfl,rfl,hH,hz,q⟩:=h;cases rx;obtain⟨u,rfl,ru⟩:=rv.one;obtain⟨z,its,n,r,hl,e⟩:=I.lstM hH;refine call_meets F.slot_list_append ⟨_,e,rfl⟩ F.entry_list_append (F.args_list_append_2 _ _) (PySem.list_append l its.toArray n u (by rw[zV];omega)) ⟨e,?_⟩;refine⟨.non,_,I.lset (its':=its++[u]) hH e (by simp) (r.append (.cons ru .nil)) ?_,rfl,q⟩;rw[zX,List.length_singleton];omega
def rCat:R2:=λx y H Q=>∃l b xs zs,x=.ref l/\y=.ref b/\H l=some (.lst xs)/\H b=some (.lst zs)/\xs.length+zs.length<=sizeLine/\∀p,H p=none->Q (.ref p) (upd H p (.lst (xs++zs)))
theorem cI:OpR X (binaryOp .Add) rCat:=by
 intro pins s σ H x y v u Q I rx ry h;obtain⟨l,b,xs,zs,rfl,rfl,hH,hB,hz,q⟩:=h;cases rx;cases ry;obtain⟨z,its,n,r,hl,e⟩:=I.lstM hH;obtain⟨z2,its2,n2,r2,hl2,e2⟩:=I.lstM hB;refine PySem.P.add_list e e2 ?_ (by rw[zV,zV];omega);have ea:its.toArray++its2.toArray=(its++its2).toArray:=by simp
 rw[ea];exact⟨.ref _,_,I.lnew (t':=s.toks) (r.append r2) (by rw[zX];omega),rfl,q _ I.fresh⟩
def rRep:R2:=λx y H Q=>∃l k xs,x=.ref l/\y=.int k/\H l=some (.lst xs)/\-(2^63)<=k/\k<2^63/\xs.length*k.toNat<=sizeLine /\
 ∀p,H p=none->Q (.ref p) (upd H p (.lst (List.replicate k.toNat xs).flatten))
theorem Mf{α:Type}(xs:List α)(k:Nat):(List.replicate k xs).flatten.length=k*xs.length:=by
 induction k with
 |zero=>simp
 |succ k ih=>rw[wL,tR,zX,ih,rA,Nat.add_comm]
theorem Me:OpR X (binaryOp .Mult) rRep:=by
 intro pins s σ H x y v u Q I rx ry h;obtain⟨l,k,xs,rfl,rfl,hH,h1,h2,hz,q⟩:=h;cases rx;obtain⟨t,rfl⟩:=ry;obtain⟨z,its,n,r,hl,e⟩:=I.lstM hH;have hlen:its.toArray.size*k.toNat<=sizeLine:=by rw[zV,←hl];exact hz
 have hcap:¬ its.toArray.size*k.toNat > (2^63-1)/8:=by
  have:(sizeLine:Nat)<=(2^63-1)/8:=∅
  omega
 have hfit:¬ (!Builtin.List.listFitsIndex k)=true:=by
  rw[fitsIndex_both h1 h2];exact yF
 have hlong:¬ Builtin.List.listTooLong (its.toArray.size*k.toNat)=true:=by
  rw[Mh hlen];exact yF
 have hnew:List.foldl (λx1 x2=>x1++x2) #[] (List.replicate (if its.toArray.isEmpty=true then 0 else k.toNat) its.toArray)=(List.replicate k.toNat its).flatten.toArray:=by
  have f0:∀m:Nat,List.foldl (λx1 x2=>x1++x2) #[] (List.replicate m its.toArray)=(List.replicate m its).flatten.toArray:=λm=>by
   have:=El its m [];rw[List.nil_append]at this;exact this
  rw[f0];cases its with
  |nil=>simp
  |cons a r'=>rw[zI (by simp)]
 refine wpAny_binaryOp_repeat_ref (T:= "list") (U:= "int") ∅ ⟨_,e,rfl⟩ (λs'=>typeIs_int s' k t) noFill_list_mul F.fills_int_mul F.slot_int_rmul repeat_list F.slot_int_index.lookup
  (call_meets F.slot_int_rmul (typeIs_int s k t) F.entry_int_rmul (F.args_int_rmul_2 _ _) (int___rmul___int_list k t l its.toArray n)
   ⟨e,rfl,⟨_,e,rfl⟩,call_meets F.slot_list_mul ⟨_,e,rfl⟩ F.entry_list_mul (F.args_list_mul_2 _ _) (AutoListH.list___mul___list_int_3 l its.toArray n k t hfit hcap hlong) ⟨e,?_⟩⟩)
 rw[hnew];exact⟨.ref _,_,I.lnew (t':=s.toks) (r.rep k.toNat) (by rw[Mf,rW];exact hz),rfl,q _ I.fresh⟩
end
section
variable {prog:Program} {w:World} {A:Around} {E:VP} {s:Shared}
set_option maxRecDepth 100000 in
end
end L2
namespace Att
open PySem PySem.W PySem.Calls PyProof.Rows
theorem Md{P:Params}{h:Heap}:∀(ns:LI')(vs:LW),WellAll P h vs (ns.map WData.int)->IntsAre vs ns:=by
 intro ns
 induction ns with
 |nil =>
  intro vs w;rw[List.map_nil]at w;cases w;exact .nil
 | cons n ns ih =>
  intro vs w;rw[zL]at w;cases w with
  |cons a b =>
   cases a;exact .cons _ _ (ih _ b)
theorem Mc{l:OpenLaw}{n:Nat}(hn:l.most=some n){P:Params}{h:Heap}{args:List WData}{vals:LW}
  (hpre:l.row.toRowW.claim.pre args=true)(hwl:WellAll P h vals args):
  ∃a vs ns,vals=[Value.ref a]/\args=[WData.list (ns.map WData.int)]/\h.get? a=some {cls:=.type "list",data:=.seq vs.toArray}/\IntsAre vs ns/\ns.length<=n:=by
 have hsh:WShape.hasAll [] args [.list .int]=true:=(pre_splitW hpre).1;have hc:l.pre.holds [] {args:=args}=true:=(pre_splitW hpre).2;obtain⟨d,r,rfl,h1,h2⟩:=hasAllW_cons hsh;obtain rfl:=hasAllW_nil h2;obtain⟨xs,rfl,h3⟩:=hasW_list h1;obtain⟨ns,rfl⟩:=items_int h3;have hlen:ns.length<=n:=by
  unfold OpenLaw.pre at hc;have h4:(WTm.not (.lt (.lit (.int (n:Int))) (.len (.arg 0)))).holds [] {args:=[.list (ns.map .int)]}=true:=by
   have h4:=(holds_andW hc).1;rw[hn]at h4;exact h4
  have h5:=condW_of h4 (w_not (w_lt w_lit (w_len_list (w_arg rfl))));rw[yP]at h5;refine Nat.le_of_not_lt λq=>?_;have q':(n:Int)<((ns.length:Nat):Int):=⋯
  first
   |(rw[zK q']at h5;exact absurd h5 ∅)
   |(simp at h5;omega)
 cases hwl with
 |cons w1 w2 =>
  cases w2;cases w1 with
  |list ho hall=>exact⟨_,_,ns,rfl,rfl,ho,Md ns _ hall,hlen⟩
theorem Mb(l:OpenLaw)(args:List WData):l.row.toRowW.claim.post args (.bool true) args=true:=
 postW_of (r:=l.row.toRowW) (X:=(true == true))
  (show WShape.has [] (.bool true) .bool=true by first|rfl|decide|simp[WShape.has,WShape.arms,WShape.armsAll])
  (show(WTm.eq .res (.lit (.bool true))).value [] {args:=args,res:=some (.bool true),after:=args}=some (.bool (true == true)) from w_eq_bool (w_res rfl) w_lit) rfl
section
variable {prog:Program} {w:World} {A:Around} {E:VP} {s:Shared} {K:Frag}
noncomputable def t_b(h:Heap)(L d:Addr):PN:=(List.range h.objs.size).filterMap λa=>if a=L\/a=d then none else(h.get? a).map λo=>(a,o)
end
end Att
namespace L2
open PySem PySem.Spec PyProof.Rows
open PySem.W (Frag)
theorem Ek:∀{vs:LW}{ns:LI'},IntsAre vs ns->Vals (ns.map V.int) vs
 |_,_,.nil=>.nil
 |_,_,.cons n t h=>.cons ⟨t,rfl⟩ (Ek h)
def Only(H:Hp):Prop:=∀b,H b=none\/∃o xs,H b=some (.frz o (.lst xs))
theorem Ma{P:Program}{w:World}{K:Frag}{mg mb:MT}{CX:CXT}{k:Nat}{fa a:Addr}{fd:FuncData}{x:Str}{sp:Sp}{s₁:Shared}{vs:LW}{ns:LI'}
  (KX:K.In s₁.heap)(hns:s₁.heap.Ns mainGlobals mg)(hb:s₁.heap.Ns builtinsNs mb)(hbb:∀x:Str,x≠"__name__" -> mb x=bootBuiltins x)(hlim:s₁.heap.NoLimit)(hg:s₁.gens=#[])
  (ha:s₁.heap.get? a=some {cls:=.type "list",data:=.seq vs.toArray})(hi:IntsAre vs ns)(hl:ns.length<=sizeLine)(hr:Room k callerA)
  (F:∀base:Heap,K.In base->base.Ns mainGlobals mg->FnOk P w K mg base CX k fa fd [x] sp)(hbind:∀(s:Shared)(u:Value),BindsTo s fd ⟨[u],[]⟩ [(x,u)])
  (hsp:∀H:Hp,Only H->SqL K H a (ns.map V.int)->sp [.ref a] H (λv _=>v=.bl true) λ_ _ _=>False)
  (hCX:∀H e s',CX [] H s₁ (λ_ _ _=>False) e s'->False):
  codeAny (model P w) callerA (.call (.ref fa) ⟨[.ref a],[]⟩) (λr s'=>r=.ok (.ret (.bool true))/\OldK s₁.heap s'.heap/\s'.os=s₁.os/\AllBare s'.gens) s₁:=by
 have rv:=Ek hi;have lenV:=hi.length
 -- from an abstract heap in which nothing but the script may be tracked
 have core:∀H:Hp,Only H->SqL K H a (ns.map V.int)->HOk P w H s₁.heap->(∀b,H b≠none->b=a)->(H a≠none->K.lookup a=none) ->
   codeAny (model P w) callerA (.call (.ref fa) ⟨[.ref a],[]⟩) (λr s'=>r=.ok (.ret (.bool true))/\OldK s₁.heap s'.heap/\s'.os=s₁.os/\AllBare s'.gens) s₁:=by
  intro H hO hS hok hA hK;have base_of:∀{b:Addr}{o:Obj},s₁.heap.get? b=some o->H b=none->(hidT s₁.heap H).get? b=some o:=λe n=>Kn e n;have noA:∀{b:Addr}{o:Obj}{es:Array DictEntry}{ep:Nat},s₁.heap.get? b=some o->o.data=.dict es ep->H b=none:=λ{b o es ep}e d=>by
   cases q:H b with
   |none=>rfl
   |some u =>
    have e':b=a:=hA b (by rw[q];simp);subst e';rw[ha]at e;cases e;have d':Data.seq vs.toArray _=Data.dict es ep:=d;cases d'
  have nsK:∀{b:Addr}{m:MT},s₁.heap.Ns b m->(hidT s₁.heap H).Ns b m:=λ{b m}⟨o,es,ep,e,d,r⟩=>⟨o,es,ep,base_of e (noA e d),d,r⟩;have hKb:K.In (hidT s₁.heap H):=λb o e=>base_of (KX b o e) (by
   cases q:H b with
   |none=>rfl
   |some u =>
    have e':b=a:=hA b (by rw[q];simp);subst e';rw[hK (by rw[q];simp)]at e;cases e)
  have hM:Mod K mg (hidT s₁.heap H):=⟨hKb,nsK hns,⟨mb,nsK hb,hbb⟩,let ⟨mc,h1,h2⟩:=hlim;⟨mc,nsK h1,h2⟩⟩;have e0:Env0 P w K mg (hidT s₁.heap H) callerA [] s₁ H:=⟨rfl,hM,λb o e=>Km e,sQ (Ko _ _),trivial,λb hb=>absurd (show b∈([]:LA) from hb) (by simp),hok,.of_eq hg⟩;refine rT ((F _ hKb (nsK hns)).run callerA [] s₁ H ⟨[.ref a],[]⟩ [.ref a] [.ref a] _ _ hr e0 (hbind s₁ (.ref a)) (.cons rfl .nil) (hsp H hO hS)) λr s' h=>?_;cases r with
  |error e=>exact(hCX H e s' h).elim
  | ok fl =>
   cases fl with
   |next=>exact False.elim h
   |brk=>exact False.elim h
   |cont=>exact False.elim h
   | ret u =>
    obtain⟨v,H',os,bare,un,hok',r',q⟩:=h;have q':v=.bl true:=q;subst q';obtain rfl:u=Value.bool true:=r';refine⟨rfl,OldK.of_keep λb o e=>?_,os,bare⟩;cases q:H b with
    |none=>exact un.keep b o e q (by intro z;exact absurd (show b∈([]:LA) from z) (by simp)) (by simp)
    |some u =>
     rcases hO b with z|⟨ob,xs,z⟩
     ·rw[q]at z;cases z
     ·have z2:=un.frzs b ob _ z;obtain⟨e1,_⟩:=hok b _ z;obtain⟨e2,_⟩:=hok' b _ z2;rw[e]at e1;cases e1;exact e2
 cases hk:K.lookup a with
 |some o =>
  -- the script is one of the module's own objects
  have e:=KX a o hk;rw[ha]at e;cases e;refine core (λ_=>none) (λ_=>.inl rfl) (.inr ⟨_,vs.toArray,_,hk,rfl,rfl,rfl,by rw[zV,lenV];exact hl,by simpa using rv⟩) (λb u z=>by have z':(none:Option HO)=some u:=z;cases z') (λb z=>absurd rfl z) λz=>absurd rfl z
 | none =>
  refine core (λb=>if b=a then some (.frz {cls:=.type "list",data:=.seq vs.toArray} (.lst (ns.map V.int))) else none) (λb=>?_) (.inl (.inr ⟨{cls:=.type "list",data:=.seq vs.toArray},zJ rfl⟩)) (λb u z=>?_) (λb z=>?_) λ_=>hk
  ·by_cases hb:b=a
   ·exact .inr ⟨_,_,zJ hb⟩
   ·exact .inl (zI hb)
  ·by_cases hb:b=a
   ·have z':=(zJ hb).symm.trans z;cases z';subst hb;exact⟨ha,by rw[yP];exact hl,vs,_,rv,ha⟩
   ·have z':=(zI hb).symm.trans z;cases z'
  ·by_cases hb:b=a
   ·exact hb
   ·exact absurd (zI hb) z
noncomputable abbrev KOf{K:Frag}{h:Heap}(_:K.In h):Frag:=K
noncomputable def fY(s:Stmt)(j:Nat):Stmt:=match s with
 |.ClassDef _ _ _ body _ _ _ _ _ _ _=>body.getD j (.Pass ⟨0,0,0,0⟩)
 |_=>.Pass ⟨0,0,0,0⟩
noncomputable def kU(s:Stmt):Arguments:=match s with
 |.FunctionDef _ a _ _ _ _ _ _ _ _=>a
 |_=>{posonlyargs:=[],args:=[],vararg:=none,kwonlyargs:=[],kw_defaults:=[],kwarg:=none,defaults:=[]}
noncomputable def mY(s:Stmt):List Stmt:=match s with
 |.FunctionDef _ _ b _ _ _ _ _ _ _=>b
 |_=>[]
noncomputable def pN(s:Stmt):Scope:=match s with
 |.FunctionDef _ _ _ _ _ _ sc _ _ _=>sc
 |_=>{kind:=.function,names:=[],isGenerator:=false,isCoroutine:=false}
abbrev CX0:CXT:=λ_ _ _ _ _ _=>False
abbrev E0:XK:=λ_ _ _=>False
theorem lL{X:Cx}:iA CX0 X E0:=λ_ _ _ _ _ _ _ h=>h.elim
structure Fun(K:Frag)(x qual:Str)(st:Stmt)(f:Addr)(fd:FuncData):Prop where
 ex:∃(oc:Value)(od:Option Addr)(kV doc pm:Value)(an:Option Addr)(cdv ct:Value)(osl:Array (Option Value)),
  fd=PySem.W.fnOf x qual (kU st) (mY st) (pN st) .none kV doc pm an cdv ct/\K.lookup f=some ⟨oc,od,.func fd,osl⟩/\PySem.W.codeIn K cdv qual=true
 kp:PySem.W.keepIn K (.ref f)=true
section
variable {P:Program} {w:World} {K:Frag} {mg:MT} {base:Heap}
theorem Fun.ok{x qual:Str}{st:Stmt}{f:Addr}{fd:FuncData}{N ps:List Str}{k:Nat}{sp:Sp}(F:Fun K x qual st f fd)(S:oC N ps (pN st))(len:∀vs H Q E,sp vs H Q E->vs.length=ps.length)
  (hbody:∀(cdv:Value)(A:Around)(outer:List Env)(s:Shared)(H:Hp)(vs:List V)(Q:VK)(E:XK),Room k (A.deeper (envOfC qual (pN st) s.heap.objs.size f cdv))->sp vs H Q E ->
   ∃t,PSs (cxOf CX0 P w K mg base N qual (pN st) f cdv A outer s H E).nox (mY st) t/\t {nx:=λ_ H'=>Q .non H',rt:=Q} (jH N vs) H):FnOk P w K mg base CX0 (k+1) f fd ps sp:=by
 obtain⟨oc,od,kV,doc,pm,an,cdv,ct,osl,rfl,lk,hcd⟩:=F.ex;refine Az lk hcd S len λA outer s H vs Q E hr hsp=>?_;obtain⟨t,h,q⟩:=hbody cdv A outer s H vs Q E hr hsp;exact⟨t,h.nox,q⟩
theorem Fun.binds{x qual:Str}{st:Stmt}{f:Addr}{fd:FuncData}{ps:List Str}(F:Fun K x qual st f fd)
  (h:∀(kV doc pm:Value)(an:Option Addr)(cdv ct:Value)(us:LW),us.length=ps.length->bindArgs (PySem.W.fnOf x qual (kU st) (mY st) (pN st) .none kV doc pm an cdv ct) ⟨us,[]⟩=pure (ps.zip us)):mD K fd ps []:=by
 obtain⟨oc,od,kV,doc,pm,an,cdv,ct,osl,rfl,lk,hcd⟩:=F.ex;exact .all (h kV doc pm an cdv ct)
theorem fun_mk{x qual:Str}{st:Stmt}{f:Addr}{oc:Value}{od an:Option Addr}{osl:Array (Option Value)}{kV doc pm cdv ct:Value}(l:K.lookup f=some ⟨oc,od,.func (PySem.W.fnOf x qual (kU st) (mY st) (pN st) .none kV doc pm an cdv ct),osl⟩)
  (c:PySem.W.codeIn K cdv qual=true)(k:PySem.W.keepIn K (.ref f)=true):Fun K x qual st f (PySem.W.fnOf x qual (kU st) (mY st) (pN st) .none kV doc pm an cdv ct):=⟨⟨oc,od,kV,doc,pm,an,cdv,ct,osl,rfl,l,c⟩,k⟩
end
theorem fZ{n:Nat}(h:n<=1000):n<sizeLine:=yG h ∅
section
variable {X:Cx}
theorem pv(i:Nat){x:Str}{pos:Pos}(hN:X.N[i]?=some x:=by rfl)(hv:Vis X.env.scope x:=by first|exact Or.inl rfl|exact Or.inr (Or.inl rfl)|exact Or.inr (Or.inr rfl))(hd:(x == ("__debug__" :Str))=false:=by decide)
  (hcd:(x == ("__classdict__" :Str))=false:=by decide):PE X (.Name x pos) (tVar i):=Dj hN hv hd hcd
end
theorem iteF{A B:Prop}(h:B):if false=true then A else B:=by
 rw[zI yF];exact h
theorem iteT{A B:Prop}(h:A):if true=true then A else B:=by
 rw[zJ rfl];exact h
theorem ite2{c A B:Prop}[Decidable c](h1:c->A)(h2:¬ c->B):if c then A else B:=by
 by_cases h:c
 ·rw[zJ h];exact h1 h
 ·rw[zI h];exact h2 h
def Same(H H':Hp):Prop:=∀b o,H b=some o->H' b=some o
theorem Same.refl(H:Hp):Same H H:=λ_ _ h=>h
theorem Same.trans{H H1 H2:Hp}(a:Same H H1)(b:Same H1 H2):Same H H2:=λc o h=>b c o (a c o h)
theorem Same.seq{K:Frag}{H H':Hp}{a:Addr}{xs:List V}(e:Same H H')(h:SqL K H a xs):SqL K H' a xs:=by
 rcases h with(h|⟨o,h⟩)|h
 ·exact .inl (.inl (e _ _ h))
 ·exact .inl (.inr ⟨o,e _ _ h⟩)
 ·exact .inr h
end L2
set_option maxHeartbeats 4000000
namespace L2
open PySem PySem.Spec PyProof.Rows
open PySem.W (Frag)
inductive E1{T0:Type}(P:T0->Prop):Prop
 |mk (x0:T0):P x0->E1 P
inductive E2{T0 T1:Type}(P:T0->T1->Prop):Prop
 |mk (x0:T0) (x1:T1):P x0 x1->E2 P
inductive E3{T0 T1 T2:Type}(P:T0->T1->T2->Prop):Prop
 |mk (x0:T0) (x1:T1) (x2:T2):P x0 x1 x2->E3 P
inductive E4{T0 T1 T2 T3:Type}(P:T0->T1->T2->T3->Prop):Prop
 |mk (x0:T0) (x1:T1) (x2:T2) (x3:T3):P x0 x1 x2 x3->E4 P
inductive E5{T0 T1 T2 T3 T4:Type}(P:T0->T1->T2->T3->T4->Prop):Prop
 |mk (x0:T0) (x1:T1) (x2:T2) (x3:T3) (x4:T4):P x0 x1 x2 x3 x4->E5 P
inductive E6{T0 T1 T2 T3 T4 T5:Type}(P:T0->T1->T2->T3->T4->T5->Prop):Prop
 |mk (x0:T0) (x1:T1) (x2:T2) (x3:T3) (x4:T4) (x5:T5):P x0 x1 x2 x3 x4 x5->E6 P
inductive E7{T0 T1 T2 T3 T4 T5 T6:Type}(P:T0->T1->T2->T3->T4->T5->T6->Prop):Prop
 |mk (x0:T0) (x1:T1) (x2:T2) (x3:T3) (x4:T4) (x5:T5) (x6:T6):P x0 x1 x2 x3 x4 x5 x6->E7 P
inductive E8{T0 T1 T2 T3 T4 T5 T6 T7:Type}(P:T0->T1->T2->T3->T4->T5->T6->T7->Prop):Prop
 |mk (x0:T0) (x1:T1) (x2:T2) (x3:T3) (x4:T4) (x5:T5) (x6:T6) (x7:T7):P x0 x1 x2 x3 x4 x5 x6 x7->E8 P
inductive E9{T0 T1 T2 T3 T4 T5 T6 T7 T8:Type}(P:T0->T1->T2->T3->T4->T5->T6->T7->T8->Prop):Prop
 |mk (x0:T0) (x1:T1) (x2:T2) (x3:T3) (x4:T4) (x5:T5) (x6:T6) (x7:T7) (x8:T8):P x0 x1 x2 x3 x4 x5 x6 x7 x8->E9 P
inductive E11{T0 T1 T2 T3 T4 T5 T6 T7 T8 T9 T10:Type}(P:T0->T1->T2->T3->T4->T5->T6->T7->T8->T9->T10->Prop):Prop
 |mk (x0:T0) (x1:T1) (x2:T2) (x3:T3) (x4:T4) (x5:T5) (x6:T6) (x7:T7) (x8:T8) (x9:T9) (x10:T10):P x0 x1 x2 x3 x4 x5 x6 x7 x8 x9 x10->E11 P
inductive E12{T0 T1 T2 T3 T4 T5 T6 T7 T8 T9 T10 T11:Type}(P:T0->T1->T2->T3->T4->T5->T6->T7->T8->T9->T10->T11->Prop):Prop
 |mk (x0:T0) (x1:T1) (x2:T2) (x3:T3) (x4:T4) (x5:T5) (x6:T6) (x7:T7) (x8:T8) (x9:T9) (x10:T10) (x11:T11):P x0 x1 x2 x3 x4 x5 x6 x7 x8 x9 x10 x11->E12 P
inductive A3(a b c:Prop):Prop|mk:a->b->c->A3 a b c
inductive A4(a b c d:Prop):Prop|mk:a->b->c->d->A4 a b c d
inductive A5(a b c d e:Prop):Prop|mk:a->b->c->d->e->A5 a b c d e
inductive A6(a b c d e f:Prop):Prop|mk:a->b->c->d->e->f->A6 a b c d e f
inductive A7(a b c d e f g:Prop):Prop|mk:a->b->c->d->e->f->g->A7 a b c d e f g
inductive A8(a b c d e f g h:Prop):Prop|mk:a->b->c->d->e->f->g->h->A8 a b c d e f g h
inductive A9(a b c d e f g h i:Prop):Prop|mk:a->b->c->d->e->f->g->h->i->A9 a b c d e f g h i
inductive A10(a b c d e f g h i j:Prop):Prop|mk:a->b->c->d->e->f->g->h->i->j->A10 a b c d e f g h i j
inductive A11(a b c d e f g h i j k:Prop):Prop|mk:a->b->c->d->e->f->g->h->i->j->k->A11 a b c d e f g h i j k
inductive A12(a b c d e f g h i j k l:Prop):Prop|mk:a->b->c->d->e->f->g->h->i->j->k->l->A12 a b c d e f g h i j k l
inductive A13(a b c d e f g h i j k l m:Prop):Prop|mk:a->b->c->d->e->f->g->h->i->j->k->l->m->A13 a b c d e f g h i j k l m
inductive A14(a b c d e f g h i j k l m n:Prop):Prop|mk:a->b->c->d->e->f->g->h->i->j->k->l->m->n->A14 a b c d e f g h i j k l m n
inductive A15(a b c d e f g h i j k l m n o:Prop):Prop|mk:a->b->c->d->e->f->g->h->i->j->k->l->m->n->o->A15 a b c d e f g h i j k l m n o
inductive A16(a b c d e f g h i j k l m n o p:Prop):Prop|mk:a->b->c->d->e->f->g->h->i->j->k->l->m->n->o->p->A16 a b c d e f g h i j k l m n o p
inductive A20(a b c d e f g h i j k l m n o p q r s t:Prop):Prop|mk:a->b->c->d->e->f->g->h->i->j->k->l->m->n->o->p->q->r->s->t->A20 a b c d e f g h i j k l m n o p q r s t
noncomputable def clOf(env:Env):List (Str×NameKind)->List (Str×Addr)->List (Str×Addr)
 |[],cs=>cs
 |(n,k):: r,cs=>clOf env r (if k == .free then(n,(env.cells.lookup n).getD 0):: cs else cs)
theorem Ej{env:Env}{n:Str}{c:Addr}:∀{l:List (Str×NameKind)}{cs:List (Str×Addr)},(∀y∈l,y.2=.free->∃c,env.cells.lookup y.1=some c) ->
  (clOf env l cs).lookup n=some c->cs.lookup n=some c\/env.cells.lookup n=some c
 |[],_,_,h=>.inl h
 | (m,k):: r,cs,hl,h=>by
  have hr:∀y∈r,y.2=.free->∃c,env.cells.lookup y.1=some c:=λy hy=>hl y (zM _ hy);rcases Ej hr h with q|q
  ·by_cases hk:(k == NameKind.free)=true
   ·rw[zJ hk]at q;obtain⟨c',e⟩:=hl (m,k) zU (by simpa using hk);rw[xF]at q;cases hm:n == m with
    |true =>
     rw[hm]at q;have q':(env.cells.lookup m).getD 0=c:=zR q;have em:n=m:=by simpa using hm
     rw[e]at q';have q2:c'=c:=q';rw[em,e,q2];exact .inr rfl
    |false =>
     rw[hm]at q;exact .inl q
   ·rw[zI hk]at q;exact .inl q
  ·exact .inr q
theorem At{env:Env}{n:Str}:∀{l:List (Str×NameKind)}{cs:List (Str×Addr)},((n,NameKind.free)∈l\/∃c,cs.lookup n=some c)->∃c,(clOf env l cs).lookup n=some c
 |[],_,h=>by
  rcases h with h|h
  ·simp at h
  ·exact h
 | (m,k):: r,cs,h=>by
  refine At (l:=r) ?_
  by_cases hn:(n,NameKind.free)∈r
  ·exact .inl hn
  ·refine .inr ?_;rcases h with h|⟨c,h⟩
   ·rcases xE.mp h with e|e
    ·cases e;rw[zJ ∅];exact⟨(env.cells.lookup n).getD 0,by rw[xF];simp⟩
    ·exact absurd e hn
   ·by_cases hk:(k == NameKind.free)=true
    ·rw[zJ hk,xF];cases hm:n == m with
     |true=>exact⟨_,rfl⟩
     |false=>exact⟨c,h⟩
    ·rw[zI hk];exact⟨c,h⟩
theorem Ei{scope:Scope}{env:Env}(h:∀y∈scope.names,y.2=.free->∃c,env.cells.lookup y.1=some c):closureFor scope env=pure (clOf env scope.names []):=by
 have go:∀(l:List (Str×NameKind))(cs:List (Str×Addr)),(∀y∈l,y.2=.free->∃c,env.cells.lookup y.1=some c) ->
   (forIn l cs (λ(x:Str×NameKind)(r:List (Str×Addr))=>if x.2 == NameKind.free then(do let a ←cellOf env x.1;pure (ForInStep.yield ((x.1,a):: r))) else(pure (ForInStep.yield r):Sem _)):Sem _)=pure (clOf env l cs):=by
  intro l
  induction l with
  |nil=>intro cs _;rfl
  | cons y r ih =>
   intro cs hl;obtain⟨n,k⟩:=y;have hr:∀y∈r,y.2=.free->∃c,env.cells.lookup y.1=some c:=λy hy=>hl y (zM _ hy);rw[vY]
   by_cases hk:(k == NameKind.free)=true
   ·obtain⟨c,e⟩:=hl (n,k) zU (by simpa using hk);have e1:cellOf env n=pure c:=by unfold cellOf;rw[show env.cells.lookup n=some c from e]
    dsimp only;rw[zJ hk,e1];simp only[pure_bind];rw[ih _ hr];show _=pure (clOf env r _);rw[zJ hk,show env.cells.lookup n=some c from e]
    all_goals rfl
   ·dsimp only;rw[zI hk];simp only[pure_bind];rw[ih _ hr];show _=pure (clOf env r _);rw[zI hk]
 have e:closureFor scope env=(forIn scope.names ([]:List (Str×Addr)) (λ(x:Str×NameKind)(r:List (Str×Addr))=>if x.2 == NameKind.free then(do let a ←cellOf env x.1;pure (ForInStep.yield ((x.1,a):: r))) else(pure (ForInStep.yield r):Sem _)):Sem _):=by
  unfold closureFor
  first
   |rfl
   |(simp only[bind_pure];rfl)
   |(simp;done)
 rw[e];exact go _ _ h
theorem Eh{env:Env}:∀{names:List (Str×NameKind)}{x:Str},names.lookup x=some .free ->
  (names.map λ(n,k)=>if(k == NameKind.free && env.scope.kind == .function && env.kindOf n == some .cell) then(n,NameKind.cell) else(n,k)).lookup x=some .cell \/
  (names.map λ(n,k)=>if(k == NameKind.free && env.scope.kind == .function && env.kindOf n == some .cell) then(n,NameKind.cell) else(n,k)).lookup x=some .free
 |[],_,h=>by simp at h
 | (n,k):: r,x,h=>by
  have ih:=@Eh env r x;cases hx:x == n with
  |true =>
   simp only[List.lookup_cons,hx]at h;cases h
   by_cases hc:(NameKind.free == NameKind.free && env.scope.kind == .function && env.kindOf n == some .cell)=true
   ·refine .inl ?_;rw[zL];dsimp only;rw[zJ hc,xF,hx]
   ·refine .inr ?_;rw[zL];dsimp only;rw[zI hc,xF,hx]
  |false =>
   simp only[List.lookup_cons,hx]at h;rw[zL];dsimp only
   by_cases hc:(k == NameKind.free && env.scope.kind == .function && env.kindOf n == some .cell)=true
   ·rw[zJ hc,xF,hx];exact ih h
   ·rw[zI hc,xF,hx];exact ih h
structure t_c(X:Cx)(scope:Scope)(x:Str)(fr:List (Str×Nat)):Prop where
 kind:scope.kind=.function
 cell:∀y∈scope.names,y.2≠.cell
 free:∀y∈scope.names,y.2=.free->X.env.kindOf y.1=some .cell\/X.env.kindOf y.1=some .free
 loc:∀y∈scope.names,y.2=.local->scope.names.lookup y.1=some .local
 name:scope.names.lookup x=some .local
 nd:(x:: fr.map (·.1)).Nodup
 fr:∀p∈fr,X.N[p.2]?=some p.1/\scope.names.lookup p.1=some .free
noncomputable def mE(fr:List (Str×Nat))(σ:St):St:=fr.map λp=>σ.getD p.2 none
section
variable {X:Cx} {scope:Scope} {x:Str} {fr:List (Str×Nat)}
def Eg(i:Nat)(te:TE):TS:=λD σ H=>te σ H λv H1=>D.nx (σ.set i (some v)) H1
end
theorem nO.there{P:Program}{w:World}{H:Hp}{h:Heap}{a:Addr}{o:HO}(x:nO P w H h a o):∃ob,h.get? a=some ob:=by
 cases o with
 |lst xs=>obtain⟨_,_,_,_,e⟩:=x;exact⟨_,e⟩
 |tup xs=>obtain⟨_,_,_,ob,e,_⟩:=x;exact⟨ob,e⟩
 |dK kvs=>obtain⟨_,_,_,_,o,_,_,e,_⟩:=x;exact⟨_,e⟩
 |dT kvs=>obtain⟨_,_,_,_,o,_,_,e,_⟩:=x;exact⟨_,e⟩
 |set S n=>obtain⟨o,_,_,_,e,_⟩:=x;exact⟨_,e⟩
 |ins C dx fs=>obtain⟨_,_,_,e,_⟩:=x;exact⟨_,e⟩
 |own y=>exact x
 |xd fs=>obtain⟨_,⟨_,_,_,e,_⟩,_⟩:=x;exact⟨_,e⟩
 |rng lo hi=>obtain⟨_,_,_,e⟩:=x;exact⟨_,e⟩
 |frz ob u=>exact⟨_,x.1⟩
 |tbl ps=>exact⟨_,x⟩
 |met f y=>exact⟨_,x⟩
 |ext φ=>exact x.2.1
abbrev Cov(fs:LA)(h₀:Heap)(H:Hp)(h B:Heap):Prop:=∀b o,h.get? b=some o->b∉fs->((∃o',h₀.get? b=some o')\/∃u,H b=some u)->B.get? b=some o
def CX1(P:Program)(w:World):CXT:=λouter H s E ev s'=>∃e C H' B a0,ev=.ref e/\s'.os=s.os/\AllBare s'.gens/\Un (frs outer) [] H H' s.heap s'.heap/\HOk P w H' s'.heap /\
 Heap.FlyingW B outer e C a0 s'.heap/\Cov (frs outer) s.heap H' s'.heap B/\E C none H'
abbrev XE:=St->Value->Hp->Prop
def Ef(X:Cx)(EX:XE):Prop:=∀(pins:PN)(σ:St)(H:Hp)(s:Shared)(h':Heap)(e:Addr)(C:Value)(vs:LW),Inv X pins σ H s->Heap.MadeExcOf s.heap h' e C vs->EX σ C H->X.xe (.ref e) {s with heap:=h'}
theorem Nz{X:Cx}{pins:PN}{σ:St}{H:Hp}{s:Shared}{h'' B:Heap}(I:Inv X pins σ H s)(hst:X.stack=X.env:: X.outer)(hfr:X.env.frame=some X.env.locals)(hex:X.ex=[])
  (stay:B.StaysIn h'')(sm:s.heap.UpToSlots h'')(cov:Cov (frs X.stack) X.s₀.heap H s.heap B):
  Un X.fs [] X.H₀ H X.s₀.heap h''/\HOk X.prog X.w H h''/\Cov X.fs X.s₀.heap H h'' B:=by
 have u:=I.base;rw[hex]at u;have hfs:frs X.stack=X.env.locals:: X.fs:=by
  rw[hst];unfold frs;rw[uV,hfr];rfl
 have old:∀b o,X.s₀.heap.get? b=some o->b∉X.fs->b∉frs X.stack:=λb o e hb hm=>by
  rw[hfs]at hm;rcases xE.mp hm with z|z
  ·exact absurd (zE (zP e) I.ok.above) (by rw[z];exact xB _)
  ·exact hb z
 have trk:∀b v,H b=some v->b∉frs X.stack:=λb v e hm=>by
  have:=I.stkFree b hm;rw[e]at this;cases this
 have keepO:∀b o,s.heap.get? b=some o->b∉frs X.stack->((∃o',X.s₀.heap.get? b=some o')\/∃v,H b=some v)->h''.get? b=some o:=λb o e hb hc=>stay b o (cov b o e hb hc);have frm:∀b,b∈X.fs->∀o,s.heap.get? b=some o->∃sl,h''.get? b=some {o with slots:=sl}:=λb hb o e=>by
  obtain⟨_,o',e',nf⟩:=I.funs.mem hb;rw[e]at e';cases e';exact sm b o e nf
 refine⟨⟨λb o e n hb hx=>?_,λb o e n hb hx=>?_,u.free,λb o e hx=>?_,u.tups,u.frzs,u.tbls⟩,λa o ha=>?_,λb o e hb hc=>?_⟩
 ·exact keepO b o (u.keep b o e n hb hx) (old b o e hb) (.inl ⟨o,e⟩)
 ·obtain⟨sl,e1⟩:=u.slot b o e n hb hx;obtain⟨sl',e2⟩:=frm b hb _ e1;exact⟨sl',e2⟩
 ·obtain⟨o1,e1⟩:=u.there b o e hx
  by_cases hb:b∈X.fs
  ·obtain⟨sl,e2⟩:=frm b hb _ e1;exact⟨_,e2⟩
  ·exact⟨o1,keepO b o1 e1 (old b o e hb) (.inl ⟨o,e⟩)⟩
 ·refine(I.hok a o ha).stay (λb v hb q=>?_) (λ_ q=>q) λ_ _ q=>q;rcases hb with hb|hb
  ·subst hb;exact keepO b v q (trk b o ha) (.inr ⟨o,ha⟩)
  ·exact keepO b v q (trk b _ hb) (.inr ⟨_,hb⟩)
 ·rcases hc with⟨o',e'⟩|⟨v,e'⟩
  ·obtain⟨o1,e1⟩:=u.there b o' e' (by simp);have q:=keepO b o1 e1 (old b o' e' hb) (.inl ⟨o',e'⟩);rw[e]at q;cases q;exact cov b o e1 (old b o' e' hb) (.inl ⟨o',e'⟩)
  ·obtain⟨o1,e1⟩:=(I.hok b v e').there;have q:=keepO b o1 e1 (trk b v e') (.inr ⟨v,e'⟩);rw[e]at q;cases q;exact cov b o e1 (trk b v e') (.inr ⟨v,e'⟩)
section
variable {P:Program} {w:World} {K:Frag} {mg:MT} {base:Heap} {N:List Str} {qual:Str} {scope:Scope} {f:Addr} {cd:Value} {A:Around} {outer:List Env} {s₀:Shared} {H₀:Hp} {E:XK}
theorem gQ:Ef (cxOf (CX1 P w) P w K mg base N qual scope f cd A outer s₀ H₀ E) (λ_ C H=>E C none H):=by
 intro pins σ H s h' e C vs I M hE;have hfu:=I.stack;have hid:=PySem.W.funFrames_hide (as:=frs (cxOf (CX1 P w) P w K mg base N qual scope f cd A outer s₀ H₀ E).stack) hfu (λenv he a ha=>List.mem_filterMap.mpr ⟨env,he,ha⟩);refine wpAny_leaves_madeW (s:={s with heap:=h'}) (h:=s.heap) I.ok.frames rfl (λb o q=>PySem.W.of_hideAll _ q) hid M λh'' t fl'' _ _ sm=>?_;obtain⟨un,ok,cv⟩:=Nz I rfl rfl rfl fl''.1 ((Heap.UpToSlots.of_keeps M.keeps).trans sm) λb o q hb _=>PySem.W.hideAll_get _ q hb;exact⟨e,C,H,_,_,rfl,I.os,I.bare,un,ok,fl'',cv,hE⟩
end
section
variable {X:Cx} {EX:XE} {k:Nat} {f:Addr} {fd:FuncData} {ps:List Str} {sp:Sp} {dvs:List V} {ds:LW} {x:Str} {p pos:Pos} {e:Expr} {es:List Expr} {t:TA}
def r_E(sp:Sp)(dvs:List V)(EX:XE)(t:TA):TE:=λσ H Q=>t σ H λvs H1=>sp (vs++dvs) H1 Q λC _ H'=>EX σ C H'
theorem iD{P:Program}{w:World}{Y:Cx}:iA (CX1 P w) Y E0:=λ_ _ _ _ _ _ _ h=>by
 obtain⟨_,_,_,_,_,_,_,_,_,_,_,_,q⟩:=h;exact q.elim
end
theorem Ny{K:Frag}{h:Heap}{C:Addr}{bmB:LW}{newId:String}(KX:K.In h)(hq:PySem.W.excIn K C bmB newId=true):
  ∃bm N nm qn bs hd sn sub ab col dd k0 k1 k2 k3 k5 mN,h.get? C=some (excClassObj nm qn C N bs bm hd sn sub ab col dd k0 k1 k2 k3 k5 newId)/\h.Ns N mN/\mN "__init__"=none/\OwnTail h bmB bm:=by
 revert hq
 unfold PySem.W.excIn;split
 ·next dd cd sl lk =>
  split
  ·next C1 bm k0 k1 k2 k3 nw k5 em es =>
   intro hq;simp only[Bool.and_eq_true,beq_iff_eq,Bool.not_eq_true']at hq;obtain⟨⟨⟨⟨⟨e1,e2⟩,e3⟩,e4⟩,e5⟩,e6⟩:=hq;subst e1 e2;cases cd with
   | mk nm bs mro ns qn hd sn sub ab col del =>
    have em':mro=Value.ref C1:: bm:=em;have e3':del=false:=e3;subst em' e3';have esl:sl=#[k0,k1,k2,k3,some (Value.builtin nw),k5]:=by
     cases sl with
     |mk l=>exact wC Array.mk es
    subst esl;exact⟨bm,ns,nm,qn,bs,hd,sn,sub,ab,col,dd,k0,k1,k2,k3,k5,_,KX _ _ lk,Heap.Ns.of_isNs (PySem.W.isNs_of_in KX e5),PySem.W.nsMap_none_of_in KX e5 e6,PySem.W.tail_of_in KX e4⟩
  ·intro z;cases z
 ·intro z;cases z
section
variable {X:Cx} {EX:XE} {C:Addr} {x:Str} {np cpos pos:Pos} {e₀:Expr} {rest:List Expr} {t:TA} {bmB:LW} {B newId initId:String}
def jR(C:Addr)(EX:XE)(t:TA):TS:=λ_ σ H=>t σ H λvs H1=>vs.length<=sizeLine/\EX σ (.ref C) H1
theorem gR(hc:X.calm=true)(hx:Ef X EX)(hg:Gl X x)(hm:X.mg x=some (.ref C))(hC:PySem.W.excIn X.K C bmB newId=true)(FB:ExcBaseFacts B newId initId bmB)(ha:PA X (e₀:: rest) t)
  (hdb:(x == ("__debug__" :Str))=false:=by decide)(he:starEach (e₀:: rest) X.env=(false,eval e₀ X.env):: starEach rest X.env:=by rfl)(hpl:(backTo cpos (starEach rest X.env)).any (·.1)=false:=by rfl):
  PS X (.Raise (some (.Call (.Name x np) (e₀:: rest) [] cpos)) none pos) (jR C EX t):=by
 intro pins s σ H D I h;obtain⟨bm,N,nm,q,bs,hd,sn,sub,ab,col,dd,k0,k1,k2,k3,k5,mN,hcls,hns,hni,T⟩:=Ny I.mod.kin hC;have hpl':(backTo cpos (starEach (e₀:: rest) X.env)).any (·.1)=false:=by
  rw[he];show(false || (backTo cpos (starEach rest X.env)).any (·.1))=false;rw[hpl];rfl
 refine wpAny_Raise_call_subT (C:=C) (nm:=nm) (q:=q) (N:=N) (bs:=bs) (bm:=bm) (hdct:=hd) (sn:=sn) (sub:=sub) (ab:=ab) (col:=col) (dd:=dd) (k0:=k0) (k1:=k1) (k2:=k2) (k3:=k3) (k5:=k5) FB (mN:=mN) (T.hasType FB.hasBase) (I.ok.hd hc) hpl' hni
  (dY I hg hm ⟨rfl,?_⟩ hdb)
 have hw:=ha cpos pins s σ H _ I h;rw[he]at hw ⊢;refine sU (thn hw λus s2⟨vs,H2,I2,r,z,q2⟩=>⟨rfl,?_,I2.bk _ _ hcls,hns.keeps I2.bk,T.keeps I2.bk,λh' e M=>hx pins σ H2 s2 h' e _ us I2 M q2⟩);show us.length<=sizeLine;rw[←r.length];exact z
end
section
variable {X:Cx} {pins:PN} {σ:St} {H:Hp} {s:Shared}
noncomputable def Ee(e:Addr)(C:Value):HO:=.ext λh=>∃o,h.get? e=some o/\o.cls=C
end
noncomputable abbrev Cx.body(X:Cx)(pn:PN)(E:VP):Cx:={X with pn:=pn,xe:=E}
noncomputable abbrev Cx.suite(X:Cx)(e:Addr):Cx:={X with A:=X.A.mark (some (.ref e)),calm:=false,xe:=λ_ _=>False}
section
variable {X:Cx}
theorem oW:OpR X (binaryOp .Mult) (rI (λi j=>IntMulOk i j) λi j=>.int (i*j)):=opI λ_ _ _ _ _ _ _ hc q=>mul_int q hc
def lH(_ j:Int):Prop:=j≠0/\j.natAbs.log2<9000
theorem nX:OpR X (binaryOp .FloorDiv) (rI lH λi j=>.int (i.fdiv j)):=opI λ_ _ _ _ _ _ _ hc q=>floordiv_int hc.1 q (.inl (PyProof.noPylong_of_log2 hc.2))
end
mutual
inductive Dt(K:Frag)(H:Hp):V->PyData->Prop
 |non:Dt K H .non .none
 |bl (b):Dt K H (.bl b) (.bool b)
 |int (i):Dt K H (.int i) (.int i)
 |str (x):Dt K H (.str x) (.str x)
 |lst {a xs ds}:SqL K H a xs->Dts K H xs ds->Dt K H (.ref a) (.list ds)
 |tup {a xs ds}:SqT K H a xs->Dts K H xs ds->Dt K H (.ref a) (.tuple ds)
inductive Dts(K:Frag)(H:Hp):List V->List PyData->Prop
 |nil:Dts K H [] []
 |cons {x xs d ds}:Dt K H x d->Dts K H xs ds->Dts K H (x:: xs) (d:: ds)
end
theorem Dts.ints{K:Frag}{H:Hp}:∀(ns:LI'),Dts K H (ns.map V.int) (ns.map PyData.int)
 |[]=>.nil
 |n:: r=>.cons (.int n) (Dts.ints r)
section
variable {X:Cx} {pins:PN} {σ:St} {H:Hp} {s:Shared}
mutual
theorem Dt.reads(I:Inv X pins σ H s):∀{x:V}{d:PyData}{u:Value},Dt X.K H x d->RelV x u->∃as,Reads s.heap u d as
 |_,_,_,.non,r=>by cases(show _=Value.none from r);exact⟨_,.none⟩
 |_,_,_,.bl b,r=>by cases(show _=Value.bool b from r);exact⟨_,.bool b⟩
 |_,_,_,.int i,r=>by obtain⟨t,e⟩:=(show∃t,_=Value.int i t from r);cases e;exact⟨_,.int i t⟩
 |_,_,_,.str x,r=>by obtain⟨t,e⟩:=(show∃t,_=Value.str x t from r);cases e;exact⟨_,.str x t⟩
 |_,_,_,.lst (a:=a) h hd,r=>by
  cases(show _=Value.ref a from r);obtain⟨its,rv,⟨o,n,e,c,_,dd⟩,_⟩:=I.list h;obtain⟨as,q⟩:=Dts.reads I hd rv;exact⟨_,.list e c dd (by simpa using q)⟩
 |_,_,_,.tup (a:=a) h hd,r=>by
  cases(show _=Value.ref a from r);obtain⟨its,rv,⟨o,e,c,n,dd⟩,_⟩:=I.tuple h;obtain⟨as,q⟩:=Dts.reads I hd rv;exact⟨_,.tuple e c dd (by simpa using q)⟩
theorem Dts.reads(I:Inv X pins σ H s):∀{xs:List V}{ds:List PyData}{us:LW},Dts X.K H xs ds->Vals xs us->∃as,ReadsAll s.heap us ds as
 |_,_,_,.nil,r=>by cases r;exact⟨_,.nil⟩
 | _,_,_,.cons h t,r=>by
  cases r with
  |cons r1 r2 =>
   obtain⟨as,q1⟩:=Dt.reads I h r1;obtain⟨bs,q2⟩:=Dts.reads I t r2;exact⟨_,.cons q1 q2⟩
end
end
section
variable {X:Cx}
def rEqD(K:Frag):R2:=λx y H Q=>∃d d',Dt K H x d/\Dt K H y d'/\SeqAt.shaped d=true/\SeqAt.shaped d'=true/\SeqAt.noMix d d'=true/\Q (.bl (same d d')) H
def rNeD(K:Frag):R2:=λx y H Q=>∃d d',Dt K H x d/\Dt K H y d'/\SeqAt.shaped d=true/\SeqAt.shaped d'=true/\SeqAt.noMix d d'=true/\Q (.bl (!same d d')) H
theorem Ed(hu:X.A.units+64<cLine):OpR X (compareOp .Eq) (rEqD X.K):=by
 intro pins s σ H x y v u Q I rx ry h;obtain⟨d,d',h1,h2,s1,s2,mx,q⟩:=h;obtain⟨as,r1⟩:=h1.reads I rx;obtain⟨bs,r2⟩:=h2.reads I ry;exact eq_dataH_same r1 r2 s1 s2 hu mx ⟨.bl (same d d'),H,I,rfl,q⟩
theorem Nx(hu:X.A.units+64<cLine):OpR X (compareOp .NotEq) (rNeD X.K):=by
 intro pins s σ H x y v u Q I rx ry h;obtain⟨d,d',h1,h2,s1,s2,mx,q⟩:=h;obtain⟨as,r1⟩:=h1.reads I rx;obtain⟨bs,r2⟩:=h2.reads I ry;exact ne_dataH_same r1 r2 s1 s2 hu mx ⟨.bl (!same d d'),H,I,rfl,q⟩
end
structure As(K:Frag)(C:Addr):Prop where
 ga:PySem.W.findIn K (.ref C) "__getattribute__"=some (some (.builtin "BaseException.__getattribute__"))
 gt:PySem.W.findIn K (.ref C) "__getattr__"=some none
 ca:PySem.W.findIn K (.ref C) "__class__"=some (some (.builtin "object.__class__"))
 cg:PySem.W.specialIn K (.builtin "object.__class__") "__get__"=some (some (.builtin "getset_descriptor.__get__"))
 tk:PySem.W.takesIn K (.builtin "object.__class__")=some true
 ob:PySem.W.mroIn K C (.type "object")=some true
 bx:PySem.W.mroIn K C (.type "BaseException")=some true
 cl:(PySem.W.clsIn K C).isSome=true
theorem Nw{prog:Program}{w:World}{A:Around}{E:VP}{s:Shared}{K:Frag}{x C:Addr}{Q:Option Value->Shared->Prop}(F:As K C)(KX:K.In s.heap)(ho:∃o,s.heap.get? x=some o/\o.cls=.ref C)
  (h:Q (some (.ref C)) {s with toks:=s.toks+1}):wpAny (model prog w) A (getAttr? (.ref x) "__class__") Q E s:=by
 obtain⟨hh,g,d,t,os⟩:=s;obtain⟨o,ho,hc⟩:=ho;have L0:PySem.W.Looks (model prog w) hh (typeOf (.ref x)) (.ref C):=hc ▸ (PySem.W.Looks.ld ho).andThen .now;have L1:=uQ (M:=model prog w) KX F.ga;have L2:=uQ (M:=model prog w) KX F.gt;have L3:=uQ (M:=model prog w) KX F.ca;have L4:=PySem.W.looks_specialIn (M:=model prog w) KX F.cg;have L5:=PySem.W.looks_takesIn (M:=model prog w) KX F.tk;have L6:=PySem.W.looks_mroIn (M:=model prog w) KX F.ob;have L7:=PySem.W.looks_mroIn (M:=model prog w) KX F.bx;unfold getAttr? getAttrBy? getAttrBy;refine zA (wpAny_mkText (zA (vK (xQ (zA (L0.at (zA (L1.at ?_))))))));show wpAny _ _ (getAttrByItsOwn _ _ _ _ _ _) _ _ _;unfold getAttrByItsOwn;refine zA (show wpAny _ _ (hookBefore (.ref C)) _ _ _ from L2.at ?_);refine zA (vK (xQ ?_));show wpAny _ _ (boundAndCalled _ _ _) _ _ _;unfold boundAndCalled;rw[PySem.F.attr_ValueError.ga.bind (.ref x)];refine zA (zB (wpAny_call ?_));refine codeAny_call_builtin PySem.F.attr_ValueError.ga.plain PySem.F.entry_bexc_ga ?_;have hk:builtinKind "BaseException.__getattribute__"=some .slot:=nofun
 have hsplit:splitId "BaseException.__getattribute__"=some ("BaseException","__getattribute__"):=nofun
 have hargs:=PySem.F.args_bexc_ga (.ref x) (.str "__class__" t);have LI:PySem.W.Looks (model prog w) hh (isInstance (.ref x) (.type "BaseException")) true:=L0.andThen L7;show wpAny _ _ (checkBuiltinCall "BaseException.__getattribute__" ⟨[.ref x,.str "__class__" t],[]⟩) _ _ _;simp only[checkBuiltinCall,hk,hsplit];refine zA (LI.at ?_)
 repeat wp_step
 rw[hc];refine L3.at ?_;refine zA (show wpAny _ _ (Builtin.ObjectAttr.getOf (some (.builtin "object.__class__"))) _ _ _ from L4.at ?_);have LD:PySem.W.Looks (model prog w) hh (Builtin.ObjectAttr.dataDescriptor? (some (.builtin "object.__class__")) (some (.builtin "getset_descriptor.__get__"))) (some (.builtin "getset_descriptor.__get__",.builtin "object.__class__")):=L5.andThen .now;refine zA (LD.at ?_)
 repeat wp_step
 have LO:PySem.W.Looks (model prog w) hh (isInstance (.ref x) (.type "object")) true:=L0.andThen L6;refine codeAny_call_builtin PySem.W.KF.slot_gs.plain PySem.W.KF.entry_gs (PySem.W.KF.slot_gs.check _ _ _ _ _ _ _ _ PySem.W.KF.type_class (PySem.W.KF.args_gs _ _ _) ?_)
 (unfold Builtin.«getset_descriptor.__get__» Builtin.Getset_descriptor.descrGet;rw[PySem.W.dga_obj];refine zA (zB ?_))
 (unfold Builtin.Getset_descriptor.descrGetter Builtin.Getset_descriptor.descrCheckInstance Builtin.Getset_descriptor.descrNameAndClass;simp only[PySem.W.KF.owner_class])
 refine zA (zA (zB (zA (LO.at (zB ?_)))))
 repeat wp_step
 refine⟨Code.quiet_builtin _ (nofun),uX PySem.W.KF.entry_class ?_⟩
 (unfold Builtin.«object.__class__» shownTypeOf;repeat wp_step)
 rw[hc];exact zB (zB h)
theorem Nv{K:Frag}{x C:Addr}(F:As K C):PySem.W.KitX K (.ref x) (.ref C) (λh=>∃o,h.get? x=some o/\o.cls=.ref C) where
 ty:=λM h _⟨o,ho,hc⟩=>hc ▸ (PySem.W.Looks.ld ho).andThen .now
 it:=λM h KX _=>by
  have q:=F.cl;unfold PySem.W.clsIn at q;split at q
  ·next lk =>
   intro A' Q' E' s' k z
   (unfold isType loadHead;exact zA (wpAny_loadPart (k _ _ (KX _ _ lk)) (zB z)))
  ·cases q
 ne:=λh tp dd its n sl KX htp=>by
  have q:=F.cl;refine Bool.eq_false_iff.mpr λz=>?_;have e:C=tp:=Value.ref.inj (qT.mp z);subst e;unfold PySem.W.clsIn at q;split at q
  ·next lk=>exact absurd ((KX _ _ lk).symm.trans htp) (by intro z2;cases z2)
  ·cases q
 ca:=λKX p k=>Nw F KX p k
inductive TyX(K:Frag)(H:Hp):V->Value->Prop where
 |ty {x:V} {t:Value} (h:TyOf K H x t):TyX K H x t
 |exc {e C:Addr} (h:H e=some (Ee e (.ref C))) (F:As K C):TyX K H (.ref e) (.ref C)
 |tupS {a:Addr} {xs:List V} (h:SqT K H a xs):TyX K H (.ref a) (.type "tuple")
noncomputable def clsV:V->Value
 |.ty n=>.type n
 |.ref a=>.ref a
 |_=>.none
noncomputable def Nu:V->Bool
 |.ty _=>true
 |.ref _=>true
 |_=>false
def rIsi(K:Frag):List V->Hp->VK->Prop:=λvs H Q=>∃x c t b,vs=[x,c]/\TyX K H x t/\Nu c=true/\PySem.W.kitOne K t (clsV c)=some b/\Q (.bl b) H
theorem cJ{X:Cx}:lF X (.builtin "isinstance") (rIsi X.K):=by
 intro pins s σ H xs us Q I rv h;obtain⟨x,c,t,b,rfl,ty,ic,e,q⟩:=h;obtain⟨u,w,rfl,r1,r2⟩:=rv.two;have ew:w=clsV c:=by
  cases c <;> first|exact r2|cases ic
 subst ew;have fin:∀tk,EP X pins σ Q (.bool b) {s with toks:=tk}:=λtk=>⟨.bl b,H,I.tok tk,rfl,q⟩;cases ty with
 |ty h=>exact Lh I r1 h e fin
 |exc h F =>
  obtain rfl:u=_:=r1;obtain⟨φ,_,_⟩:=(show nO X.prog X.w H s.heap _ (Ee _ _) from I.hok _ _ h);exact xK (Nv F) I.kIn φ e (λz=>nomatch z) fin
 |tupS h =>
  obtain rfl:u=_:=r1;obtain⟨its,_,⟨o,h1,h2,_⟩,_⟩:=I.tuple h;exact xK PySem.W.kitx_tuple I.kIn ⟨o,h1,h2⟩ e (λz=>nomatch z) fin
structure Nt(k:Nat)(A:Around):Prop where
 dp:A.depth+3*k+5<recursionLimit
 un:A.units+16*k+200<cLine
structure t_d(P:Program)(w:World)(K:Frag)(mg:MT)(base:Heap)(k:Nat)(f:Addr)(fd:FuncData)(ps:List Str)(sp:Sp):Prop where
 len:∀vs H Q E,sp vs H Q E->vs.length=ps.length
 run:∀(A:Around)(outer:List Env)(s:Shared)(H:Hp)(args:Args)(us:LW)(vs:List V)(Q:VK)(E:XK),Nt k A->Env0 P w K mg base A outer s H->BindsTo s fd args (ps.zip us)->Vals vs us->sp vs H Q E ->
  codeAny (model P w) A (.call (.ref f) args) (CR CX0 outer P w H s Q E) s
section
variable {X:Cx}
theorem mS:OpR X (compareOp .Eq) (rI0 λi j=>.bl (decide (i=j))):=opB0 λi j _ _ _ _ _ q=>eq_int (by rw[Bool.beq_eq_decide_eq];exact q)
theorem lW:OpR X (compareOp .NotEq) (rI0 λi j=>.bl (!decide (i=j))):=opB0 λi j _ _ _ _ _ q=>ne_int (by rw[bne,Bool.beq_eq_decide_eq];exact q)
theorem PS.nox{st:Stmt}{t:TS}(h:PS X.nox st t):PS X st t:=λpins s σ H D I hw =>
 xJ (h pins s σ H D (I.wish _) hw) (λ_ _ q=>q.unwish) λ_ _ z=>z.elim
end
section
variable {P:Program} {w:World} {K:Frag} {mg:MT} {base:Heap}
theorem Fun.okX{x qual:Str}{st:Stmt}{f:Addr}{fd:FuncData}{N ps:List Str}{k:Nat}{sp:Sp}(F:Fun K x qual st f fd)(S:oC N ps (pN st))(len:∀vs H Q E,sp vs H Q E->vs.length=ps.length)
  (hbody:∀(cdv:Value)(A:Around)(outer:List Env)(s:Shared)(H:Hp)(vs:List V)(Q:VK)(E:XK),Room k (A.deeper (envOfC qual (pN st) s.heap.objs.size f cdv))->sp vs H Q E ->
   ∃t,PSs (cxOf (CX1 P w) P w K mg base N qual (pN st) f cdv A outer s H E) (mY st) t/\t {nx:=λ_ H'=>Q .non H',rt:=Q} (jH N vs) H):FnOk P w K mg base (CX1 P w) (k+1) f fd ps sp:=by
 obtain⟨oc,od,kV,doc,pm,an,cdv,ct,osl,rfl,lk,hcd⟩:=F.ex;exact Az lk hcd S len λA outer s H vs Q E hr hsp=>hbody cdv A outer s H vs Q E hr hsp
end
end L2
namespace Att
open PySem PySem.W PySem.Calls PyProof.Rows
theorem Eb:∀ns:LI',ofPys (ns.map PyData.int)=ns.map WData.int
 |[]=>rfl
 |n:: r=>by
  show ofPy (.int n):: ofPys (r.map PyData.int)=_;rw[Eb r];rfl
theorem Nr{ns:LI'}(h:(WData.list (ns.map WData.int)).layable=true):∀n∈ns,Builtin.Int.intBits n<=1048576:=λn hn=>by
 have e:ofPy (.list (ns.map PyData.int))=WData.list (ns.map WData.int):=by
  show WData.list (ofPys (ns.map PyData.int))=_;rw[Eb]
 have sh:PySem.Spec.Shape.has (.list .int) (.list (ns.map PyData.int))=true:=by
  simp[PySem.Spec.Shape.has]
 exact intBits_le_of_item hn (layable0_of_all (lay0_ofPy (s:=.list .int) rfl sh (by rw[e];exact h)))
theorem attach_callB{l:OpenLaw}{n:Nat}{q:Program}{loose:List Str}{XP:(MT)->Heap->Prop}{YP:World->Heap->Prop}{d:DefRec}(hn:l.most=some n)(hdf:d.params.defaults=[])
  (call:∀(w:World)(s₀ s₁:Shared)(mg mb:MT)(fa:Addr)(a:Addr)(vs:LW)(ns:LI'),Ground q loose [] XP w s₀ mg mb s₁.heap->YP w s₁.heap->mg d.name=some (.ref fa) ->
   s₁.heap.get? a=some {cls:=.type "list",data:=.seq vs.toArray}->IntsAre vs ns->ns.length<=n->(∀m∈ns,Builtin.Int.intBits m<=1048576)->s₁.gens=#[] ->
   codeAny (model l.prog w) callerA (.call (.ref fa) ⟨[.ref a],[]⟩) (λr s'=>r=.ok (.ret (.bool true))/\OldK s₁.heap s'.heap/\s'.os=s₁.os/\AllBare s'.gens) s₁):
  WalkO q loose XP YP l.row.toRowW d [] (λf vs=>PySem.call f vs):=by
 intro w s₀ s₁ mg mb G Y fa o pm cd doc dV kV ho hd hcd hD hmg hg args vals as hpre hlay hrd hwl hlo;obtain rfl:dV=.none:=Dflts.none hD hdf;obtain rfl:kV=.none:=Dflts.noKw hD;obtain⟨a,vs,ns,rfl,rfl,hobj,hints,hlen⟩:=Mc hn hpre hwl;have hb:=Nr (layableW_arg hlay _ zU);refine enter_call (rT (call w s₀ s₁ mg mb fa a vs ns G Y hmg hobj hints hlen hb hg) λr s' hq=>?_);obtain⟨rfl,h2,h3,h4⟩:=hq;exact⟨.inl ⟨.bool true,.bool true,[],rfl,λ_=>rfl,.bool true,Mb l _,λ_=>⟨List.Pairwise.nil,λ_ hm=>(nomatch hm)⟩⟩,h2,h3,h4⟩
end Att
namespace L2
open PySem PySem.Spec PyProof.Rows
open PySem.W (Frag)
def Ea(K:Frag):Sp:=λvs H Q _=>∃(a:Addr)(ns:LI'),vs=[.ref a]/\SqL K H a (ns.map V.int)/\ns.length<=63/\(∀m∈ns,Builtin.Int.intBits m<=1048576)/\∀H',Q (.bl true) H'
theorem walkB{l:PySem.W.OpenLaw}{k:Nat}{q:Program}{loose:List Str}{XP:(MT)->Heap->Prop}{YP:World->Heap->Prop}{d:DefRec}{K:Params->Frag}{x:Str}
  (hn:l.most=some 63)(hdf:d.params.defaults=[])(hr:Room k callerA)(hY:∀(w:World)(h:Heap),YP w h->(K w.params).In h)
  (F:∀(w:World)(mg:MT)(fa:Addr)(h:Heap),(K w.params).In h->h.Ns mainGlobals mg->mg d.name=some (.ref fa) ->
   ∃fd:FuncData,(∀(s:Shared)(u:Value),BindsTo s fd ⟨[u],[]⟩ [(x,u)])/\∀base:Heap,(K w.params).In base->base.Ns mainGlobals mg->FnOk l.prog w (K w.params) mg base CX0 k fa fd [x] (Ea (K w.params))):
  PySem.W.WalkO q loose XP YP l.row.toRowW d [] (λf vs=>PySem.call f vs):=by
 refine Att.attach_callB hn hdf λw s₀ s₁ mg mb fa a vs ns G Y hmg hobj hints hlen hb hg=>?_;have KX:=hY w _ Y;obtain⟨fd,hbn,hF⟩:=F w mg fa _ KX G.T.g hmg;exact Ma KX G.T.g G.T.b G.T.builtins G.T.nolimit hg hobj hints (yL hlen ∅) hr hF hbn (λH _ hS=>⟨a,ns,rfl,hS,hlen,hb,λ_=>rfl⟩) λH e s' z=>z
theorem mZ{wi:TI}{g:TG}{tb:TS}{D:Ends}{σ:St}{H:Hp}(h:∀B:TS,B=tb->wi σ H λJ H1=>∃W:Nat->Nat->St->Hp->Prop,(∃m,W 0 m σ H1)/\∀i m σ H,W i m σ H ->
  (J.stop i H/\D.nx σ H)\/(J.go i H/\∃N:St->Hp->Prop,(∀σ' H',N σ' H'->∃m',m'<m/\W (i+1) m' σ' H')/\∀x H',J.yld i H x H'->g x σ H' λσ2 H2=>B {D with nx:=N,ct:=N,bk:=D.nx} σ2 H2)):tFor wi g tb D σ H:=h _ rfl
theorem Fz{c:TT}{tb:TS}{D:Ends}{σ:St}{H:Hp}(h:∀B:TS,B=tb->∃W:Nat->St->Hp->Prop,(∃m,W m σ H)/\∀m σ H,W m σ H ->
  c σ H λb H1=>if b=true then∃N:St->Hp->Prop,(∀σ' H',N σ' H'->∃m',m'<m/\W m' σ' H')/\B {D with nx:=N,ct:=N,bk:=D.nx} σ H1 else D.nx σ H1):Df c tb D σ H:=h _ rfl
theorem st{t u:TS}{D:Ends}{σ:St}{H:Hp}(h:∀NX:St->Hp->Prop,NX=u D->t {D with nx:=NX} σ H):tSeq t u D σ H:=h _ rfl
section
variable {g:Int->Int->V} {C:Int->Int->Prop} {f:Int->V} {i j:Int} {H:Hp} {Q:VK}
theorem r_H:rI0 g (.int i) (.int j) H Q=Q (g i j) H:=propext ⟨λ⟨_,_,e1,e2,q⟩=>by cases e1;cases e2;exact q,λq=>⟨_,_,rfl,rfl,q⟩⟩
theorem s_Q:rI C g (.int i) (.int j) H Q=(C i j/\Q (g i j) H):=propext ⟨λ⟨_,_,e1,e2,q⟩=>by cases e1;cases e2;exact q,λq=>⟨_,_,rfl,rfl,q⟩⟩
theorem s_R:rU f (.int i) H Q=Q (f i) H:=propext ⟨λ⟨_,e1,q⟩=>by cases e1;exact q,λq=>⟨_,rfl,q⟩⟩
end
theorem Same.new{H:Hp}{a:Addr}{o:HO}(h:H a=none):Same H (upd H a o):=λb u e=>by rw[oE (nK e h)];exact e
theorem Same.over{H H1:Hp}{a:Addr}{o:HO}(h:H a=none)(s:Same H H1):Same H (upd H1 a o):=λb u e=>by rw[oE (nK e h)];exact s b u e
theorem Same.tup{K:Frag}{H H':Hp}{a:Addr}{xs:List V}(e:Same H H')(h:SqT K H a xs):SqT K H' a xs:=by
 rcases h with(h|⟨o,h⟩)|h
 ·exact .inl (.inl (e _ _ h))
 ·exact .inl (.inr ⟨o,e _ _ h⟩)
 ·exact .inr h
section
variable {K:Frag} {a b:Addr} {xs:List V} {te:TE} {fr:List (Str×Nat)} {σ:St} {H:Hp} {Q:VK}
def t_e(H:Hp)(a:Addr)(R:Nat->V->Prop)(i:Nat)(H1:Hp):Prop:=Same H H1/\∃ys:List V,H1 a=some (.lst ys)/\ys.length=i/\∀j y,ys[j]?=some y->R j y
end
theorem oZ{α β:Type}{ys:List β}{xs:List α}{f:α->β}(hl:ys.length=xs.length)(h:∀(j:Nat)(y:β),ys[j]?=some y->∃x,xs[j]?=some x/\y=f x):ys=xs.map f:=by
 refine xM (by simpa using hl) λi h1 h2=>?_;obtain⟨x,e1,e2⟩:=h i ys[i] (by simp[h1]);obtain⟨hx,e3⟩:=pG.mp e1;rw[wY,e2,e3]
noncomputable def kG(sc scope:Scope):Scope:={scope with names:=scope.names.map λ(n,k)=>if(k == .free && sc.kind == .function && sc.names.lookup n == some .cell) then(n,.cell) else(n,k)}
theorem Nq{scope sc:Scope}{env:Env}(h:env.scope=sc):relabel scope env=kG sc scope:=by subst h;rfl
theorem eA:∀(names:List (Str×NameKind))(n:Nat)(acc:List (Str×Addr)),cellsFrom n names acc=cellsFrom n names []++acc
 |[],_,_=>rfl
 |(x,k):: r,n,acc=>by
  unfold cellsFrom;split
  ·rw[eA r (n+1) ((x,n):: acc),eA r (n+1) [(x,n)],yR];rfl
  ·exact eA r n acc
theorem Ar{y:Str}{b:Addr}:∀{names:List (Str×NameKind)}{n:Nat}{acc:List (Str×Addr)},(y,b)∈cellsFrom n names acc->(y,b)∈acc\/(y,NameKind.cell)∈names
 |[],_,_,h=>.inl h
 | (x,k):: r,n,acc,h=>by
  unfold cellsFrom at h;split at h
  ·rename_i hk;rcases Ar h with q|q
   ·rcases xE.mp q with e|e
    ·have ek:k=.cell:=by simpa using hk
     cases e;exact .inr (by rw[ek];exact zU)
    ·exact .inl e
   ·exact .inr (zM _ q)
  ·rcases Ar h with q|q
   ·exact .inl q
   ·exact .inr (zM _ q)
theorem eE{y:Str}:∀{names:List (Str×NameKind)}{n:Nat}{acc:List (Str×Addr)},((y,NameKind.cell)∈names\/∃b,acc.lookup y=some b)->∃b,(cellsFrom n names acc).lookup y=some b
 |[],_,_,h=>by
  rcases h with h|h
  ·simp at h
  ·exact h
 | (x,k):: r,n,acc,h=>by
  unfold cellsFrom;split
  ·rename_i hk;refine eE ?_;rcases h with h|⟨b,h⟩
   ·rcases xE.mp h with e|e
    ·cases e;exact .inr ⟨n,by rw[xF];simp⟩
    ·exact .inl e
   ·rw[xF];cases hx:y == x with
    |true=>exact .inr ⟨n,rfl⟩
    |false=>exact .inr ⟨b,h⟩
  ·rename_i hk;refine eE ?_;rcases h with h|h
   ·rcases xE.mp h with e|e
    ·cases e;simp at hk
    ·exact .inl e
   ·exact .inr h
theorem Aq{env:Env}{q:NameKind}:∀{names:List (Str×NameKind)}{x:Str},
  (names.map λ(n,k)=>if(k == NameKind.free && env.scope.kind == .function && env.kindOf n == some .cell) then(n,NameKind.cell) else(n,k)).lookup x=some q ->
  (q=.cell\/q=.free)->(x,NameKind.free)∈names\/(x,NameKind.cell)∈names
 |[],_,h,_=>by simp at h
 | (n,k):: r,x,h,hq=>by
  have ih:=@Aq env q r x;rw[zL]at h;dsimp only at h
  by_cases hc:(k == NameKind.free && env.scope.kind == .function && env.kindOf n == some .cell)=true
  ·rw[zJ hc,xF]at h;cases hx:x == n with
   | true =>
    have ex:x=n:=by simpa using hx
    have ek:k=.free:=by
     have:=(zQ _ _ ▸ ((zQ _ _ ▸ hc).1)).1;simpa using this
    rw[ex,ek];exact .inl zU
   |false =>
    rw[hx]at h;exact(ih h hq).imp (zM _) (zM _)
  ·rw[zI hc,xF]at h;cases hx:x == n with
   |true =>
    rw[hx]at h;have ex:x=n:=by simpa using hx
    have ek:k=q:=zR h;rcases hq with e|e
    ·rw[ex,ek,e];exact .inr zU
    ·rw[ex,ek,e];exact .inl zU
   |false =>
    rw[hx]at h;exact(ih h hq).imp (zM _) (zM _)
theorem Fy{α:Type}{x:Str}{k k':α}:∀{l:List (Str×α)},(l.map (·.1)).Nodup->(x,k)∈l->(x,k')∈l->k=k'
 |(n,q):: r,nd,h,h'=>by
  obtain⟨n1,n2⟩:=sZ.mp nd;rcases xE.mp h with e|e <;> rcases xE.mp h' with e'|e'
  ·cases e;cases e';rfl
  ·cases e;exact absurd (qW.mpr ⟨_,e',rfl⟩) n1
  ·cases e';exact absurd (qW.mpr ⟨_,e,rfl⟩) n1
  ·exact Fy n2 e e'
theorem Np{M:Model}{A:Around}{E:VP}{s:Shared}{scope:Scope}{globals:Addr}{cl:List (Str×Addr)}{qual:Str}{func:Option Addr}{code:Value}{env:Env}{bl:Addr}{Q:Env->Shared->Prop}
  (h:Q (newEnv scope s.heap.objs.size globals (cellsFrom (s.heap.objs.size+1) scope.names cl) qual func code (some env) bl) {s with heap:=pushCells (s.heap.push {cls:=.type "dict",data:=.dict #[]}) scope.names}):
  wpAny M A (newFunctionEnv scope globals cl [] qual func code (some env) bl) Q E s:=by
 simp only[newFunctionEnv,Option.isSome_some,if_true];refine zA (wpAny_alloc ?_);refine zA (wpAny_layCells _ (λname kind cells=>by cases hkc:kind == NameKind.cell <;> simp[hkc]) _ _ _ _ ?_);rw[show({s with heap:=s.heap.push {cls:=.type "dict",data:=.dict #[]}}:Shared).heap.objs.size=s.heap.objs.size+1 from xW ..];exact zB h
noncomputable def nT(X:Cx)(scope:Scope)(N:List Str)(s:Shared)(H:Hp)(fp:LA):Cx:=
 {X with N:=N,s₀:=s,H₀:=H,env:=compEnvC scope (cellsFrom (s.heap.objs.size+1) scope.names (clOf X.env scope.names [])) s.heap.objs.size X.env,outer:=X.stack,ex:=fp,fn:=λy=>scope.names.lookup y == some .cell,pn:=[],xe:=λ_ _=>False}
structure kX(X:Cx)(sc scope:Scope)(xs:List Str)(fr:List (Str×Nat)):Prop where
 hsc:X.env.scope=sc
 kind:scope.kind=.function
 nn:(scope.names.map (·.1)).Nodup
 free:∀y∈scope.names,y.2=.free->sc.names.lookup y.1=some .cell\/sc.names.lookup y.1=some .free
 loc:∀y∈scope.names,y.2=.local->scope.names.lookup y.1=some .local
 fr:∀p∈fr,X.N[p.2]?=some p.1/\scope.names.lookup p.1=some .free
section
variable {X:Cx} {sc scope:Scope} {xs:List Str} {fr:List (Str×Nat)}
theorem kX.free'(c:kX X sc scope xs fr):∀y∈scope.names,y.2=.free->X.env.kindOf y.1=some .cell\/X.env.kindOf y.1=some .free:=λy hy hf=>by
 unfold Env.kindOf;rw[c.hsc];exact c.free y hy hf
theorem kX.cells{pins:PN}{σ:St}{H:Hp}{s:Shared}(c:kX X sc scope xs fr)(I:Inv X pins σ H s):∀y∈scope.names,y.2=.free->∃c,X.env.cells.lookup y.1=some c:=
 λy hy hf=>I.ok.has y.1 (c.free' y hy hf)
theorem kX.was{pins:PN}{σ:St}{H:Hp}{s:Shared}(c:kX X sc scope xs fr)(I:Inv X pins σ H s){y:Str}{b:Addr}(h:(clOf X.env scope.names []).lookup y=some b):X.env.cells.lookup y=some b:=by
 rcases Ej (c.cells I) h with q|q
 ·simp at q
 ·exact q
theorem gS{names:List (Str×NameKind)}{n:Nat}{cl:List (Str×Addr)}{y:Str}{b:Addr}(h:(cellsFrom n names cl).lookup y=some b):(cellsFrom n names []).lookup y=some b\/((cellsFrom n names []).lookup y=none/\cl.lookup y=some b):=by
 rw[eA,List.lookup_append]at h;cases q:(cellsFrom n names []).lookup y with
 |none=>rw[q]at h;exact .inr ⟨rfl,h⟩
 |some c=>rw[q]at h;exact .inl h
theorem No{pins:PN}{σ:St}{H:Hp}{s:Shared}{fp:LA}(c:kX X sc scope xs fr)(I:Inv X pins σ H s)
  (hf:∀b∈fp,FpOk X pins H b/\∃o,s.heap.get? b=some o):
  Inv (nT X scope (xs++fr.map (·.1)) s H fp) [] (xs.map (λ_=>none)++mE fr σ) H {s with heap:=pushCells (s.heap.push {cls:=.type "dict",data:=.dict #[]}) scope.names}:=by
 have k:∀b o,s.heap.get? b=some o->(pushCells (s.heap.push {cls:=.type "dict",data:=.dict #[]}) scope.names).get? b=some o:=λb o e=>qC _ _ b o (zD _ e);have hn:(pushCells (s.heap.push {cls:=.type "dict",data:=.dict #[]}) scope.names).Ns s.heap.objs.size (λ_=>none):=(Heap.Ns.new s.heap (.type "dict")).keeps (qC _ _);have ok:=cellsFrom_ok scope.names (s.heap.push {cls:=.type "dict",data:=.dict #[]}) (s.heap.objs.size+1) [] ⟨λ_ _ hm=>(nomatch hm),List.Pairwise.nil⟩ (by rw[xW];exact zG _);rw[xW]at ok;have I4:Inv X pins σ H {s with heap:=pushCells (s.heap.push {cls:=.type "dict",data:=.dict #[]}) scope.names}:=I.kept (t':=s.toks) k;generalize hh:pushCells (s.heap.push {cls:=.type "dict",data:=.dict #[]}) scope.names=h₁ at k hn ok I4;have old:∀{y:Str}{b:Nat},(clOf X.env scope.names []).lookup y=some b->b<s.heap.objs.size:=λ{y b}e=>by
  obtain⟨v,z⟩:=I.cell y b (c.was I e);exact z.lt
 have own:∀{y:Str}{b:Nat},(cellsFrom (s.heap.objs.size+1) scope.names []).lookup y=some b->h₁.IsCell b none/\s.heap.objs.size+1<=b:=λ{y b}e=>ok.empty y b (mem_of_lookup e);refine⟨⟨I.ok.mod,c.kind,I.ok.glob,I.ok.blt,zG _,λy z b h1 h2=>?_,λy hy=>?_,λy b h0 h1=>?_,I.ok.hd,I.ok.frames,.inl rfl,λb hb=>?_,λb o e=>?_,?_,λb o e hb=>?_,λb hb hs=>?_,?_,λb hb=>?_⟩,
  rfl,I.bare,Un.kept k,⟨_,hn,λi y v h1 h2 h3=>?_⟩,λy b h=>?_,?_,λy b h=>?_,λp hp=>absurd (show p∈([]:PN) from hp) (by simp),I4.hok,?_⟩
 ·rcases gS h1 with e1|⟨_,e1⟩ <;> rcases gS h2 with e2|⟨_,e2⟩
  ·exact name_of_addr ok.apart (mem_of_lookup e1) (mem_of_lookup e2)
  ·exact absurd (zE (old e2) (rR (own e1).2)) (xB _)
  ·exact absurd (zE (old e1) (rR (own e2).2)) (xB _)
  ·exact I.ok.inj y z b (c.was I e1) (c.was I e2)
 ·show∃b,(cellsFrom (s.heap.objs.size+1) scope.names (clOf X.env scope.names [])).lookup y=some b;have hm:(y,NameKind.free)∈scope.names\/(y,NameKind.cell)∈scope.names:=by
   rcases hy with hy|hy
   ·exact Aq hy (.inl rfl)
   ·exact Aq hy (.inr rfl)
  rcases hm with hm|hm
  ·exact eE (.inr (At (.inl hm)))
  ·exact eE (.inl hm)
 ·have hy:scope.names.lookup y=some .cell:=by
   have h0':(scope.names.lookup y == some NameKind.cell)=true:=h0;simpa using h0'
  rcases gS h1 with e1|⟨e1,_⟩
  ·have:=(own e1).2;show s.heap.objs.size<=b;omega
  ·obtain⟨b',e⟩:=eE (n:=s.heap.objs.size+1) (acc:=[]) (.inl (mem_of_lookup hy));rw[e1]at e;cases e
 ·obtain⟨⟨_,_,_,_,f5,_⟩,o,e⟩:=hf b hb;refine⟨yB (zP e),λy b' h=>?_⟩;rcases gS h with e1|⟨_,e1⟩
  ·exactλz=>absurd (zE (zP e) (rR (z ▸ (own e1).2))) (xB _)
  ·exact f5 y b' (c.was I e1)
 ·exact I.bs b o e
 ·exact yL I.ok.bsz I.sz
 ·obtain⟨⟨_,_,_,f4,_,_⟩,_⟩:=hf b hb;rcases f4 with z|z
  ·exact I.ok.noex b o e z
  ·exact absurd (zE (zP e) (yL I.ok.bsz z)) (xB _)
 ·obtain⟨⟨_,f2,f3,_,_,_⟩,_⟩:=hf b hb;rcases xE.mp (I.stkSub b hs) with z|z
  ·exact f2 z
  ·exact f3 z
 ·exact I.stack
 ·exact I.stkFree b hb
 ·have h1':(xs++fr.map (·.1))[i]?=some y:=h1
  by_cases hi:i<xs.length
  ·rw[yT (by simpa using hi),zC]at h2;cases q:xs[i]? with
   |none=>rw[q]at h2;cases h2
   |some z=>rw[q]at h2;cases zR h2
  ·rw [yD ⋯]at h1';rw[yD (by simpa using hi),yP]at h2;generalize i-xs.length=j at h1' h2;rw[zC]at h1';unfold mE at h2;rw[zC]at h2;cases e:fr[j]? with
   |none=>rw[e]at h1';cases h1'
   | some p =>
    rw[e]at h1' h2;have e1:p.1=y:=zR h1';have e2:σ.getD p.2 none=some v:=zR h2;obtain⟨n1,n2⟩:=c.fr p (yC e);have e3:σ[p.2]?=some (some v):=by
     rw[uR]at e2;cases q:σ[p.2]? with
     |none=>rw[q]at e2;cases e2
     |some o=>rw[q]at e2;have e2':o=some v:=e2;rw[e2']
    subst e1;have hm:(p.1,NameKind.free)∈scope.names:=wW n2;have kd:=c.free' _ hm rfl;obtain⟨m',_,hl⟩:=I4.loc;obtain⟨u,ru,lk⟩:=hl p.2 p.1 v n1 e3 (.inr kd);refine⟨u,ru,.inr ⟨Eh n2,?_⟩⟩;rcases lk with⟨k1,_⟩|⟨_,b,q,z⟩
    ·rcases kd with kd|kd <;> (rw[kd]at k1;cases k1)
    ·obtain⟨b',q'⟩:=At (env:=X.env) (l:=scope.names) (cs:=[]) (.inl hm);have e4:=c.was I q';rw[q]at e4;cases e4;refine⟨b,?_,z⟩;show(cellsFrom (s.heap.objs.size+1) scope.names (clOf X.env scope.names [])).lookup p.1=some b;rw[eA,List.lookup_append];cases w:(cellsFrom (s.heap.objs.size+1) scope.names []).lookup p.1 with
     |none=>exact q'
     |some b2 =>
      rcases Ar (mem_of_lookup w) with w|w
      ·simp at w
      ·cases Fy c.nn hm w
 ·rcases gS h with e1|⟨_,e1⟩
  ·exact⟨none,(own e1).1⟩
  ·exact I4.cell y b (c.was I e1)
 ·exact I.hok.fresh (zG _)
 ·rcases gS h with e1|⟨_,e1⟩
  ·exact I.hok.fresh (by have:=(own e1).2;omega)
  ·exact I4.freeC y b (c.was I e1)
 ·show(xs.map (λ_=>none)++mE fr σ).length=(xs++fr.map (·.1)).length;simp[mE]
end
abbrev TOx:=St->Hp->(Option V->Hp->Prop)->Prop
def tEl(te:TE):TOx:=λσ H Q=>te σ H λy H'=>Q (some y) H'
def jS(tc:TT)(te:TE):TOx:=λσ H Q=>tc σ H λb H1=>if b=true then te σ H1 (λy H'=>Q (some y) H') else Q none H1
def eF(elt:Expr)(ifs:List Expr)(env:Env)(M:Model)(A:Around)(Q:Option Value->Shared->Prop)(E:VP)(s:Shared):Prop:=
 match ifs with
 |[]=>wpAny M A (eval elt env) (λx s1=>Q (some x) s1) E s
 |[c]=>wpAny M A (isTrue c env (eval c env)) (λb s1=>if b=true then wpAny M A (eval elt env) (λx s2=>Q (some x) s2) E s1 else Q none s1) E s
 |_=>False
def POx(X:Cx)(elt:Expr)(ifs:List Expr)(t:TOx):Prop:=∀(pins:PN)(s:Shared)(σ:St)(H:Hp)(Q:Option V->Hp->Prop),Inv X pins σ H s->t σ H Q ->
 eF elt ifs X.env (model X.prog X.w) X.A (λo s'=>∃v H',Inv X pins σ H' s'/\(match o,v with|some u,some y=>RelV y u|none,none=>True|_,_=>False)/\Q v H') X.xe s
theorem mK{X:Cx}{elt:Expr}{te:TE}(h:PE X elt te):POx X elt [] (tEl te):=λpins s σ H Q I hw =>
 thn (h pins s σ H _ I hw) λu s1⟨y,H1,I1,r1,q1⟩=>⟨some y,H1,I1,r1,q1⟩
theorem Fx{X:Cx}{elt c:Expr}{tc:TT}{te:TE}(hc:PT X c tc)(h:PE X elt te):POx X elt [c] (jS tc te):=λpins s σ H Q I hw=>by
 refine thn (hc pins s σ H _ I hw) λb s1⟨H1,I1,q1⟩=>?_;cases b with
 |true =>
  rw[zJ rfl]at q1 ⊢;exact thn (h pins s1 σ H1 _ I1 q1) λu s2⟨y,H2,I2,r2,q2⟩=>⟨some y,H2,I2,r2,q2⟩
 |false =>
  rw[zI yF]at q1 ⊢;exact⟨none,H1,I1,trivial,q1⟩
theorem Nn{prog:Program}{w:World}{A:Around}{R:Result->Shared->Prop}{s:Shared}{elt target iter:Expr}{ifs:List Expr}{scope:Scope}{pos:Pos}{it acc:Value}{env:Env}(I:Nat->Shared->Prop)
  (turn:∀n s,I n s->wpAny (model prog w) A (pyNext it) (λr s₁=>match r with
   |none=>R (.ok .next) s₁
   | some v=>wpAny (model prog w) A (letOwnedTupleGo target it v) (λ_ s₁'=>wpAny (model prog w) A (assign target env v) (λ_ s₂=>eF elt ifs env (model prog w) A (λo s₃=>match o with
     |some x=>wpAny (model prog w) A (call (.builtin "list.append") [acc,x]) (λ_ s₄=>∃m,m<n/\I m s₄) (λ_ _=>False) s₃
     |none=>∃m,m<n/\I m s₃)
     (λ_ _=>False) s₂) (λ_ _=>False) s₁') (λ_ _=>False) s₁) (λ_ _=>False) s)
  (n:Nat)(h:I n s)(hifs:ifs.length<=1):
  codeAny (model prog w) A (.compLoop (.ListComp elt [⟨target,iter,ifs,0⟩] scope pos) 0 it acc env) R s:=by
 refine codeAny_loop rfl I (λn s hI=>?_) n h;show wpAny _ _ ((compTurn (.ListComp elt [⟨target,iter,ifs,0⟩] scope pos) 0 it acc env).onRaise (λx=>do noteFrame x env;theTreesLotGoes x)) _ _ s;refine wpAny_noted ?_;have T:=turn n s hI
 match ifs,hifs,T with
 | [],_,T =>
  rw[compTurn_list1];refine zA (uT (zA (xJ T (λr s₁ h₁=>?_) λ_ _ h'=>h'.elim)));cases r with
  |none=>exact zB h₁
  | some v =>
   refine zA (xJ h₁ (λ_ s₁' h₁'=>?_) λ_ _ h'=>h'.elim);exact zA (xJ h₁' (λ_ s₂ h₂=>zA (zA (xJ (show wpAny _ _ _ _ _ _ from h₂) (λx s₃ h₃=>zA (xJ h₃
    (λ_ s₄ h₄=>zB (zB ⟨rfl,h₄⟩)) λ_ _ h'=>h'.elim)) λ_ _ h'=>h'.elim))) λ_ _ h'=>h'.elim)
 | [c],_,T =>
  have e1:compTurn (.ListComp elt [⟨target,iter,[c],0⟩] scope pos) 0 it acc env=(standAt iter.pos >>= λ_=>pyNext it >>= λr=>match r with
   |none=>pure (.done .next)
   | some v=>letOwnedTupleGo target it v >>= λ_=>assign target env v >>= λ_=>isTrue c env (eval c env) >>= λok =>
    (if ok=true then(eval elt env >>= λx=>call (.builtin "list.append") [acc,x] >>= λ_=>pure ()) >>= λ_=>again (.compLoop (.ListComp elt [⟨target,iter,[c],0⟩] scope pos) 0 it acc env)
     else again (.compLoop (.ListComp elt [⟨target,iter,[c],0⟩] scope pos) 0 it acc env))):=by
   unfold compTurn;simp only[List.forIn_cons,List.forIn_nil,if_true,bind_assoc,pure_bind,List.getElem?_cons_zero];rfl
  rw[e1];refine zA (uT (zA (xJ T (λr s₁ h₁=>?_) λ_ _ h'=>h'.elim)));cases r with
  |none=>exact zB h₁
  | some v =>
   refine zA (xJ h₁ (λ_ s₁' h₁'=>?_) λ_ _ h'=>h'.elim);refine zA (xJ h₁' (λ_ s₂ h₂=>zA (xJ (show wpAny _ _ _ _ _ _ from h₂) (λb s₃ h₃=>?_) λ_ _ h'=>h'.elim)) λ_ _ h'=>h'.elim);cases b with
   |true =>
    rw[zJ rfl]at h₃ ⊢;exact zA (zA (xJ h₃ (λx s₄ h₄=>zA (xJ h₄ (λ_ s₅ h₅=>zB (zB ⟨rfl,h₅⟩)) λ_ _ h'=>h'.elim)) λ_ _ h'=>h'.elim))
   |false =>
    rw[zI yF]at h₃ ⊢;exact zB ⟨rfl,h₃⟩
 |_:: _:: _,hifs,T =>
  exact absurd hifs (by simp)
def Nm(a:Addr)(N:Hp->Prop):Option V->Hp->Prop
 |some y,H=>∃zs,H a=some (.lst zs)/\zs.length<sizeLine/\N (upd H a (.lst (zs++[y])))
 |none,H=>N H
abbrev mT(J:It)(g:TG)(tt:TOx)(n:Nat)(fr:List (Str×Nat))(σ:St)(a:Addr)(H:Hp)(Q:VK):Prop:=
 ∃ W:Nat->Nat->Hp->Prop,(∃m,W 0 m (upd H a (.lst [])))/\∀i m H2,W i m H2->(J.stop i H2/\Q (.ref a) H2) \/
  (J.go i H2/\∃N:Hp->Prop,(∀H',N H'->∃m',m'<m/\W (i+1) m' H')/\∀(ys:St) x H3,ys.length=n->J.yld i H2 x H3 ->
   g x (ys++mE fr σ) H3 λσ4 H4=>(∃ys':St,ys'.length=n/\σ4=ys'++mE fr σ)/\tt σ4 H4 (Nm a N))
def nE(wi:TI)(g:TG)(tt:TOx)(n:Nat)(fr:List (Str×Nat)):TE:=λσ H Q=>wi σ H λJ H1=>∀a,H1 a=none->mT J g tt n fr σ a H1 Q
section
variable {X:Cx} {sc scope:Scope} {xs:List Str} {fr:List (Str×Nat)} {elt tg iter:Expr} {ifs:List Expr} {g:TG} {tt:TOx}
theorem Fw{pins:PN}{σ:St}{H:Hp}{s:Shared}{pos:Pos}{J:It}{fp:LA}{it:Addr}{tn:Nat->Heap->Prop}{Q:VK}{RR:Value->Addr->Result->Shared->Prop}{E:VP}
  (c:kX X sc scope xs fr)(hc:X.calm=true)(hifs:ifs.length<=1)(I:Inv X pins σ H s)(T:Turn X.prog X.w X.K tg J fp it tn)(t0:tn 0 s.heap)(hf:∀b∈fp,FpOk X pins H b)
  (hg:∀(s₃:Shared)(H₃:Hp)(fp:LA),(nT X scope (xs++fr.map (·.1)) s₃ H₃ fp).env.scope=kG sc scope->PG (nT X scope (xs++fr.map (·.1)) s₃ H₃ fp) tg g)
  (he:∀(s₃:Shared)(H₃:Hp)(fp:LA),(nT X scope (xs++fr.map (·.1)) s₃ H₃ fp).env.scope=kG sc scope->POx (nT X scope (xs++fr.map (·.1)) s₃ H₃ fp) elt ifs tt)
  (hw:∀a,H a=none->mT J g tt xs.length fr σ a H Q)
  (hRR:∀a C H' s' m,s'.heap.Ns C m->Inv X pins σ H' s'->FpOk X pins H' C->Q (.ref a) H'->RR (.ref a) C (.ok .next) s'):
  wpAny (model X.prog X.w) X.A (newList []) (λacc s₃=>wpAny (model X.prog X.w) X.A (newFunctionEnv scope X.env.globals (clOf X.env scope.names []) [] X.env.qual none .none (some X.env)) (λcenv s₄ =>
   codeAny (model X.prog X.w) X.A (.compStart (.ListComp elt [⟨tg,iter,ifs,0⟩] scope pos) 0 (.ref it) acc {cenv with scope:=relabel scope X.env}) (RR acc cenv.locals) s₄) E s₃) E s:=by
 obtain⟨W,⟨m0,w0⟩,turn⟩:=hw s.heap.objs.size I.fresh;refine xI (Np ?_);have I3:Inv X pins σ (upd H s.heap.objs.size (.lst [])) {s with heap:=s.heap.push {cls:=.type "list",dict:=none,data:=.seq ([]:LW).toArray}}:=I.lnew (ys:=[]) (its:=[]) (t':=s.toks) .nil (yU _);have kp:∀b o,s.heap.get? b=some o->(s.heap.push {cls:=.type "list",dict:=none,data:=.seq ([]:LW).toArray}).get? b=some o:=λb o e=>zD _ e;have un0:Un (frs X.stack) fp H (upd H s.heap.objs.size (.lst [])) s.heap (s.heap.push {cls:=.type "list",dict:=none,data:=.seq ([]:LW).toArray}):=Un.laid kp (zG _) I.fresh;dsimp only;generalize hH2:s.heap.push {cls:=.type "list",dict:=none,data:=.seq ([]:LW).toArray}=hp2 at I3 kp un0 ⊢;have hsz:s.heap.objs.size<=hp2.objs.size:=by rw[←hH2,xW];exact qP _
 have ft:∀b∈fp,∃o,s.heap.get? b=some o:=λb hb=>let ⟨o,e,_⟩:=T.obj _ _ t0 b hb;⟨o,e⟩
 have nea:∀b∈fp,b≠s.heap.objs.size:=λb hb=>let ⟨_,e⟩:=ft b hb;yB (zP e)
 have f3:∀b∈fp,FpOk X pins (upd H s.heap.objs.size (.lst [])) b/\∃o,hp2.get? b=some o:=λb hb=>by
  obtain⟨o,e⟩:=ft b hb;exact⟨⟨by rw[oE (nea b hb)];exact(hf b hb).1,(hf b hb).2⟩,o,kp b o e⟩
 have J0:=No c I3 f3;have k4:∀b o,hp2.get? b=some o->(pushCells (hp2.push {cls:=.type "dict",data:=.dict #[]}) scope.names).get? b=some o:=λb o e=>qC _ _ b o (zD _ e);have t4:tn 0 (pushCells (hp2.push {cls:=.type "dict",data:=.dict #[]}) scope.names):=T.keep 0 _ _ t0 λb hb o e=>k4 b o (kp b o e);have esc:∀(s₃:Shared)(H₃:Hp)(fp:LA),(nT X scope (xs++fr.map (·.1)) s₃ H₃ fp).env.scope=kG sc scope:=λ_ _ _=>Nq c.hsc;have stat:∀{H':Hp},(∀b∈fp,H' b=none)->∀b∈fp,FpOk (nT X scope (xs++fr.map (·.1)) {s with heap:=hp2} (upd H s.heap.objs.size (.lst [])) fp) [] H' b:=λhn b hb=>by
  obtain⟨e1,e2⟩:=J0.ok.exf b hb;exact⟨hn b hb,e1,J0.ok.exfs b hb,.inl hb,e2,λp hp=>absurd (show p∈([]:PN) from hp) (by simp)⟩
 have loop:codeAny (model X.prog X.w) X.A (.compLoop (.ListComp elt [⟨tg,iter,ifs,0⟩] scope pos) 0 (.ref it) (.ref s.heap.objs.size) (compEnvC scope (cellsFrom (hp2.objs.size+1) scope.names (clOf X.env scope.names [])) hp2.objs.size X.env))
   (RR (.ref s.heap.objs.size) hp2.objs.size) {s with heap:=pushCells (hp2.push {cls:=.type "dict",data:=.dict #[]}) scope.names}:=by
  refine Nn (λn s'=>∃i,∃ys:St,∃H',ys.length=xs.length/\Inv (nT X scope (xs++fr.map (·.1)) {s with heap:=hp2} (upd H s.heap.objs.size (.lst [])) fp) [] (ys++mE fr σ) H' s'/\tn i s'.heap/\(∀b∈fp,H' b=none)/\W i n H')
   ?_ m0 ⟨0,xs.map λ_=>none,_,by simp,J0,t4,λb hb=>(f3 b hb).1.1,w0⟩ hifs
  rintro n s3 ⟨i,ys,H3,hys,K3,st3,fr3,w3⟩;rcases turn i n H3 w3 with⟨stop,qn⟩|⟨go,N,hN,step⟩
  ·refine thn (T.done (nT X scope (xs++fr.map (·.1)) {s with heap:=hp2} (upd H s.heap.objs.size (.lst [])) fp) rfl rfl rfl hc i [] s3 _ H3 (λ_ _=>False) K3 (stat fr3) st3 stop) λr s4⟨hr,K4⟩=>?_;subst hr;obtain⟨m4,hn4,_⟩:=K4.loc;have K5:Inv X pins σ H3 s4:=I.call' K4.os (un0.trans K4.base) K4.hok K4.bare λb hb=>let f:=hf b hb;⟨f.2.2.2.1,f.2.1,f.2.2.2.2.1,f.2.2.2.2.2⟩
   exact hRR _ _ H3 s4 m4 hn4 K5 (I.fpOk hsz K4.free) qn
  ·refine thn (T.item (nT X scope (xs++fr.map (·.1)) {s with heap:=hp2} (upd H s.heap.objs.size (.lst [])) fp) rfl rfl rfl hc i [] s3 _ H3 (λ_ _=>False) K3 (stat fr3) st3 go) λr s4⟨u,hr,h4⟩=>?_;subst hr;refine thn h4 λ_ s5⟨y,H5,K5,r5,y5,st5,fr5⟩=>?_;have K5':=K5.pinned (stat fr5) (T.obj _ _ st5);refine thn (hg _ _ _ (esc _ _ _) _ s5 _ H5 y u _ K5' r5 (step ys y H5 hys y5)) λ_ s6⟨σ6,H6,K6,⟨ys6,hl6,e6⟩,q6⟩=>?_;subst e6;have fin:∀(s8:Shared)(H8:Hp),Inv (nT X scope (xs++fr.map (·.1)) {s with heap:=hp2} (upd H s.heap.objs.size (.lst [])) fp) ([]++fR fp s5.heap) (ys6++mE fr σ) H8 s8->N H8 ->
     ∃m,m<n/\∃i,∃ys:St,∃H',ys.length=xs.length/\Inv (nT X scope (xs++fr.map (·.1)) {s with heap:=hp2} (upd H s.heap.objs.size (.lst [])) fp) [] (ys++mE fr σ) H' s8/\tn i s8.heap/\(∀b∈fp,H' b=none)/\W i m H':=by
    intro s8 H8 K8 n8;obtain⟨m',hm,w8⟩:=hN H8 n8;refine⟨m',hm,i+1,ys6,H8,hl6,K8.unpinned,T.keep _ _ _ st5 λb hb o e=>(K8.pin (b,o) (yJ _ (yJ _ (cC hb e)))).1,λb hb=>?_,w8⟩;obtain⟨o,e,d⟩:=T.obj _ _ st5 b hb;exact(K8.pin (b,o) (yJ _ (yJ _ (cC hb e)))).2.1
   have h7:=he _ _ _ (esc _ _ _) _ s6 _ H6 _ K6 q6;have mono:∀{Q Q':Option Value->Shared->Prop}{E:VP}{s':Shared}{env:Env},(∀o s1,Q o s1->Q' o s1)->eF elt ifs env (model X.prog X.w) X.A Q E s'->eF elt ifs env (model X.prog X.w) X.A Q' E s':=by
    intro Q Q' E s' env hq ht;unfold eF at ht ⊢
    match ifs,hifs,ht with
    |[],_,ht=>exact xJ ht (λx s1 q=>hq _ _ q) λ_ _ e=>e
    |[c],_,ht =>
     refine xJ ht (λb s1 q=>?_) λ_ _ e=>e;split at q
     ·rename_i hb;rw[zJ hb];exact xJ q (λx s2 q=>hq _ _ q) λ_ _ e=>e
     ·rename_i hb;rw[zI hb];exact hq _ _ q
    |_:: _:: _,hifs,_=>exact absurd hifs (by simp)
   refine mono (λo s7⟨z7,H7,K7,r7,q7⟩=>?_) h7;cases o with
   |none =>
    cases z7 with
    |none=>exact fin s7 H7 K7 q7
    |some z=>exact r7.elim
   | some v7 =>
    cases z7 with
    |none=>exact r7.elim
    |some z7 =>
     obtain⟨zs,hz,hl,w7⟩:=q7;exact thn (fX _ s7 _ H7 (.ref s.heap.objs.size) [z7] (.ref s.heap.objs.size) [v7] (λ_ H8=>N H8) K7 rfl (.cons r7 .nil) ⟨_,zs,z7,rfl,rfl,hz,hl,w7⟩) λ_ s8⟨_,H8,K8,_,n8⟩=>fin s8 H8 K8 n8
 exact codeAny_compStart_list loop (T.self _ 0 _ _ _ t4 loop)
variable {wi:TI}
theorem lY{pos:Pos}(c:kX X sc scope xs fr)(hc:X.calm=true)(hi:PI X tg iter wi)
  (hg:∀(s₃:Shared)(H₃:Hp)(fp:LA),(nT X scope (xs++fr.map (·.1)) s₃ H₃ fp).env.scope=kG sc scope->PG (nT X scope (xs++fr.map (·.1)) s₃ H₃ fp) tg g)
  (he:∀(s₃:Shared)(H₃:Hp)(fp:LA),(nT X scope (xs++fr.map (·.1)) s₃ H₃ fp).env.scope=kG sc scope->POx (nT X scope (xs++fr.map (·.1)) s₃ H₃ fp) elt ifs tt)
  (hifs:ifs.length<=1:=by exact Nat.le_of_ble_eq_true rfl)(hs:∀x,foldedSetIterable iter X.env x=pure x:=by intro _;rfl):PE X (.ListComp elt [⟨tg,iter,ifs,0⟩] scope pos) (nE wi g tt xs.length fr):=by
 intro pins s σ H Q I h;rw[eval_ListComp];refine wpAny_comprehension_free (use:=none) rfl hs (Ei (c.cells I)) c.kind c.loc (thn (hi pins s σ H _ I h) λv s1 h1=>thn h1 λitv s2 h2=>?_);obtain⟨it,fp,tn,J,H2,e,I2,T,t2,f2,hw⟩:=h2;subst e;refine Fw (RR:=λacc C=>compPost (model X.prog X.w) X.A X.xe none (EP X pins σ Q) acc C) c hc hifs I2 T t2 f2 hg he hw ?_;intro a C H' s' m hn K f q;exact⟨m,hn,λh' hs'=>⟨.ref a,H',K.turned (t':=s'.toks) (λb o hb e=>(hs'.2 b hb).trans e) f.1 f.2.1 f.2.2.2.1 f.2.2.2.2.1 f.2.2.2.2.2,rfl,q⟩⟩
theorem iR{pos spos py:Pos}{y:Str}{i:Nat}(c:kX X sc scope xs fr)(hc:X.calm=true)(hN:X.N.Nodup)(hy:X.N[i]?=some y)(hl:X.env.scope.names.lookup y=some .local)(hi:PI X tg iter wi)
  (hg:∀(s₃:Shared)(H₃:Hp)(fp:LA),(nT X scope (xs++fr.map (·.1)) s₃ H₃ fp).env.scope=kG sc scope->PG (nT X scope (xs++fr.map (·.1)) s₃ H₃ fp) tg g)
  (he:∀(s₃:Shared)(H₃:Hp)(fp:LA),(nT X scope (xs++fr.map (·.1)) s₃ H₃ fp).env.scope=kG sc scope->POx (nT X scope (xs++fr.map (·.1)) s₃ H₃ fp) elt ifs tt)
  (hsw:swapsWith (.ListComp elt [⟨tg,iter,ifs,0⟩] scope pos) (some (.Name y py)) spos.line X.env=pure true:=by rfl)
  (hifs:ifs.length<=1:=by exact Nat.le_of_ble_eq_true rfl)(hs:∀x,foldedSetIterable iter X.env x=pure x:=by intro _;rfl):PS X (.Assign [.Name y py] (.ListComp elt [⟨tg,iter,ifs,0⟩] scope pos) spos) (Eg i (nE wi g tt xs.length fr)):=by
 intro pins s σ H D I h;rw[exec_Assign_Name_used _ _ _ _ hsw];refine zA (uT (zA ?_));show wpAny _ _ (do let _ ←comprehension (.ListComp elt [⟨tg,iter,ifs,0⟩] scope pos) scope X.env _ (newList []) false (eval iter X.env) (some (assign (.Name y py) X.env))) _ _ s;refine zA (xJ (wpAny_comprehension_free (use:=some (assign (.Name y py) X.env)) (Q:=λ_ s'=>SP X pins D .next s') rfl hs (Ei (c.cells I)) c.kind c.loc
  (thn (hi pins s σ H _ I h) λv s1 h1=>thn h1 λitv s2 h2=>?_)) (λ_ s' hq=>zB (zB hq)) λ_ _ e=>e)
 obtain⟨it,fp,tn,J,H2,e,I2,T,t2,f2,hw⟩:=h2;subst e;refine Fw (RR:=λacc C=>compPost (model X.prog X.w) X.A X.xe (some (assign (.Name y py) X.env)) (λ_ s'=>SP X pins D .next s') acc C) (Q:=λv H1=>D.nx (σ.set i (some v)) H1) c hc hifs I2 T t2 f2 hg he hw ?_;intro a C H' s' m hn K f q;show wpAny _ _ (assign (.Name y py) X.env (.ref a)) _ _ _;refine wpAny_assign_Name (Dk K hN hy (.inl hl) (show RelV (.ref a) (.ref a) from rfl) (λs'' K2⟨b,sb,hb⟩=>?_) (.inr hl));have hCb:C≠b:=by
  rcases hb with e|e
  ·rw[e];exact f.2.1
  ·exact yE (f.2.2.2.2.1 y b e)
 refine⟨m,hn.sameBut sb hCb,λh' hs'=>?_⟩;exact⟨_,H',K2.turned (t':=s''.toks) (λb o hb e=>(hs'.2 b hb).trans e) f.1 f.2.1 f.2.2.2.1 f.2.2.2.2.1 f.2.2.2.2.2,q⟩
end
noncomputable def cK(sc:Scope)(N:List Str)(scope:Scope)(fr:List (Str×Nat)):Bool:=
 decide (scope.kind=.function) && decide ((scope.names.map (·.1)).Nodup) && decide (∀y∈scope.names,y.2=.free->sc.names.lookup y.1=some .cell\/sc.names.lookup y.1=some .free) &&
 decide (∀y∈scope.names,y.2=.local->scope.names.lookup y.1=some .local) && decide (∀p∈fr,N[p.2]?=some p.1/\scope.names.lookup p.1=some .free)
theorem mF{X:Cx}{sc scope:Scope}{N xs:List Str}{fr:List (Str×Nat)}(h1:X.env.scope=sc)(h2:X.N=N)(h:cK sc N scope fr=true):kX X sc scope xs fr:=by
 unfold cK at h;simp only[Bool.and_eq_true,decide_eq_true_eq]at h;obtain⟨⟨⟨⟨e1,e2⟩,e3⟩,e4⟩,e5⟩:=h;subst h2;exact⟨h1,e1,e2,e3,e4,e5⟩
noncomputable def cL(sc:Scope)(N:List Str)(i:Nat)(x:Str):Bool:=decide (N.Nodup) && decide (N[i]?=some x) && (decide (sc.names.lookup x=some .local))
theorem lZ{X:Cx}{sc:Scope}{N:List Str}{i:Nat}{x:Str}{pos:Pos}(h1:X.env.scope=sc)(h2:X.N=N)(h:cL sc N i x=true):PG X (.Name x pos) (pY i):=by
 unfold cL at h;simp only[Bool.and_eq_true,decide_eq_true_eq]at h;subst h1 h2;exact oV h.1.1 h.1.2 (.inl h.2) (.inr h.2)
theorem kH{X:Cx}{sc:Scope}{N:List Str}{i:Nat}{x:Str}{pos:Pos}(h1:X.env.scope=sc)(h2:X.N=N)(h:(decide (N.Nodup) && decide (N[i]?=some x) && (decide (sc.names.lookup x=some .cell)))=true)(hf:X.fn x=true):PG X (.Name x pos) (pY i):=by
 simp only[Bool.and_eq_true,decide_eq_true_eq]at h;subst h1 h2;exact oV h.1.1 h.1.2 (.inr h.2) (.inl hf)
def SqB(b:Bool)(K:Frag)(H:Hp)(a:Addr)(xs:List V):Prop:=match b with|false=>SqL K H a xs|true=>SqT K H a xs
def ItB(b:Bool)(h:Heap)(it a:Addr)(i:Nat):Prop:=match b with|false=>h.IsListIter it a i|true=>h.IsTupleIter it a i
def seqB(b:Bool)(h:Heap)(a:Addr)(its:Array Value):Prop:=match b with|false=>h.IsList a its|true=>h.IsTuple a its
noncomputable def nmB(b:Bool):String:=match b with|false => "list_iterator" |true => "tuple_iterator"
theorem ItB.at{b:Bool}{h h':Heap}{it a:Addr}{i:Nat}(x:ItB b h it a i)(e:∀o,h.get? it=some o->h'.get? it=some o):ItB b h' it a i:=by
 cases b
 ·exact Heap.IsListIter.at x e
 ·exact Heap.IsTupleIter.at x e
theorem seqB.at{b:Bool}{h h':Heap}{a:Addr}{its:Array Value}(x:seqB b h a its)(e:∀o,h.get? a=some o->h'.get? a=some o):seqB b h' a its:=by
 cases b
 ·exact Heap.IsList.at x e
 ·obtain⟨o,ho,r⟩:=x;exact⟨o,e o ho,r⟩
theorem ItB.lt{b:Bool}{h:Heap}{it a:Addr}{i:Nat}(x:ItB b h it a i):∃o,h.get? it=some o/\∀v,o.data≠.cell v:=by
 cases b
 ·obtain⟨o,e,c,d⟩:=x;exact⟨o,e,λv z=>by rw[d]at z;cases z⟩
 ·obtain⟨o,e,c,d⟩:=x;exact⟨o,e,λv z=>by rw[d]at z;cases z⟩
section
variable {prog:Program} {w:World} {A:Around} {E:VP} {s:Shared}
theorem Nl{it t:Addr}{i:Nat}{items}{x:Value}{Q:VP}(hit:s.heap.IsTupleIter it t i)(ht:s.heap.IsTuple t items)(hx:items[i]?=some x)
  (hQ:∀h',h'.IsTupleIter it t (i+1)->Heap.SameBut it s.heap h'->Q x {s with heap:=h'}):wpAny (model prog w) A (Builtin.SmallTypes.nextOf (.ref it)) Q E s:=by
 obtain⟨o,ho,hc,hd⟩:=id hit;obtain⟨ol,hol,_,nl,hdl⟩:=ht;unfold Builtin.SmallTypes.nextOf;refine zA (xY (name:=Str.ofString "__next__") hit.typeIs vJ
  (xS vJ hit.typeIs F.entry_tuple_iterator_next ?_ (F.args_tuple_iterator_next_1 _)))
 show wpAny _ _ (field (.ref it) 0 >>= _) _ _ s;refine zA (xX ho hd (x:=.ref t) rfl ?_);show wpAny _ _ (if(Value.ref t == Value.none)=true then _ else _) _ _ s;rw[zI (show¬ ((Value.ref t == Value.none)=true) from yF)];show wpAny _ _ (field (.ref it) 1 >>= _) _ _ s;refine zA (xX ho hd (x:=.int i 0) rfl ?_);show wpAny _ _ (seqItems? (.ref t) >>= _) _ _ s;refine zA (wD hol hdl ?_);simp only[Int.toNat_natCast,hx];refine zA (rE ho hd (by simp) (zB ⟨x,rfl,zB (hQ _ ?_ (wV ..))⟩));exact⟨_,vD _ ho (Obj.isFreed_of_fields (tI hd _)),(Obj.cls_mapFields ..).trans hc,by
  rw[tI hd];simp[rawInt]⟩
theorem Nk{it t:Addr}{i:Nat}{items}{Q:VP}(hh:A.handled=none)(hit:s.heap.IsTupleIter it t i)(ht:s.heap.IsTuple t items)(hx:items[i]?=none)
  (hE:∀h' e,Heap.ExtBut it s.heap h'->(∃o,h'.get? e=some o/\o.cls=.type "StopIteration")->E (.ref e) {s with heap:=h'}):wpAny (model prog w) A (Builtin.SmallTypes.nextOf (.ref it)) Q E s:=by
 obtain⟨o,ho,hc,hd⟩:=id hit;obtain⟨ol,hol,_,nl,hdl⟩:=ht;unfold Builtin.SmallTypes.nextOf;refine zA (xY (name:=Str.ofString "__next__") hit.typeIs vJ
  (xS vJ hit.typeIs F.entry_tuple_iterator_next ?_ (F.args_tuple_iterator_next_1 _)))
 show wpAny _ _ (field (.ref it) 0 >>= _) _ _ s;refine zA (xX ho hd (x:=.ref t) rfl ?_);show wpAny _ _ (if(Value.ref t == Value.none)=true then _ else _) _ _ s;rw[zI (show¬ ((Value.ref t == Value.none)=true) from yF)];show wpAny _ _ (field (.ref it) 1 >>= _) _ _ s;refine zA (xX ho hd (x:=.int i 0) rfl ?_);show wpAny _ _ (seqItems? (.ref t) >>= _) _ _ s;refine zA (wD hol hdl ?_);simp only[Int.toNat_natCast,hx];refine zA (wP (zA (rE ho hd (by simp) ?_)));show wpAny _ _ (newExc (.type "StopIteration") [] >>= _) _ _ _;refine zA ?_;simp only[newExc,newTuple];refine zA (xI ?_ (by size_fits));refine zA (m:=firstArgMember _ _) (wpAny_of_eq (a:=Value.none) (by first|rfl|(simp only[firstArgMember];rfl)) ?_);refine xI ?_ (by size_fits);simp only[raiseNew];refine zA (wpAny_handled ?_)
 first|rw[show A.in1.handled=none from hh]|rw[hh]
 refine zA (zB (wpAny_throw ?_));exact hE _ _ (((wV ..).extBut.push _).push _) ⟨_,zT _ rfl,rfl⟩
theorem cM{b:Bool}{it l:Addr}{i:Nat}{items:Array Value}{x:Value}{Q:VP}(hit:ItB b s.heap it l i)(hl:seqB b s.heap l items)(hx:items[i]?=some x)
  (hQ:∀h',ItB b h' it l (i+1)->Heap.SameBut it s.heap h'->Q x {s with heap:=h'}):wpAny (model prog w) A (Builtin.SmallTypes.nextOf (.ref it)) Q E s:=by
 cases b
 ·exact wpAny_nextOf_list_item hit hl hx hQ
 ·exact Nl hit hl hx hQ
theorem Ap{b:Bool}{it l:Addr}{i:Nat}{items:Array Value}{Q:VP}(hh:A.handled=none)(hit:ItB b s.heap it l i)(hl:seqB b s.heap l items)(hx:items[i]?=none)
  (hE:∀h' e,Heap.ExtBut it s.heap h'->(∃o,h'.get? e=some o/\o.cls=.type "StopIteration")->E (.ref e) {s with heap:=h'}):wpAny (model prog w) A (Builtin.SmallTypes.nextOf (.ref it)) Q E s:=by
 cases b
 ·exact wpAny_nextOf_list_end hh hit hl hx hE
 ·exact Nk hh hit hl hx hE
theorem Fv{b:Bool}{l:Addr}{items:Array Value}{Q:VP}(hl:seqB b s.heap l items)
  (hQ:Q (.ref s.heap.objs.size) {s with heap:=s.heap.push {cls:=.type (nmB b),data:=.fields #[.ref l,.int 0 0]}}):wpAny (model prog w) A (pyIter (.ref l)) Q E s:=by
 cases b
 ·exact tQ hl hQ
 ·exact uA hl hQ
theorem Fu{b:Bool}{h:Heap}{l:Addr}:ItB b (h.push {cls:=.type (nmB b),data:=.fields #[.ref l,.int 0 0]}) h.objs.size l 0:=by
 cases b
 ·exact⟨_,zT _ rfl,rfl,rfl⟩
 ·exact⟨_,zT _ rfl,rfl,rfl⟩
theorem Ft(b:Bool)(hh:A.handled=none)(it l:Addr)(hne:l≠it)(items:Array Value):
  Draws prog w A it [it,l] items.size (λi v=>items[i]?=some v) (λi h=>ItB b h it l i/\seqB b h l items) where
 live:=λ_ _ st=>let ⟨o,ho,_⟩:=st.1.lt;⟨o,ho⟩
 frame:=λ_ _ _ st hk=>⟨st.1.at λo e=>hk it (by simp) o e,st.2.at λo e=>hk l (by simp) o e⟩
 item:=λi s Q E hi st hQ=>by
  refine cM st.1 st.2 (x:=items[i]) (by simp[hi]) λh' hit' hs'=>?_;exact hQ _ h' s.toks (by simp[hi]) ⟨hit',st.2.at λo e=>(hs'.2 l hne).trans e⟩ hs'
 done:=λs Q E st hE=>Ap hh st.1 st.2 (by simp) hE
theorem Nj{b1 b2:Bool}{z TI TO i1 i2 l1 l2:Addr}{k1 k2:Nat}{xs ys:Array Value}{x y a b:Value}{Q:Option Value->Shared->Prop}(D:ZipApart z TI TO i1 i2 l1 l2)
  (hz:IsZip s.heap z TI TO .none)(hTI:IsPair s.heap TI (.ref i1) (.ref i2))(hTO:IsPair s.heap TO a b)
  (h1:ItB b1 s.heap i1 l1 k1)(h2:ItB b2 s.heap i2 l2 k2)(hl1:seqB b1 s.heap l1 xs)(hl2:seqB b2 s.heap l2 ys)(hx:xs[k1]?=some x)(hy:ys[k2]?=some y)
  (hQ:∀h',IsZip h' z TI TO (rawInt s.heap.objs.size)->IsPair h' TO x y->ItB b1 h' i1 l1 (k1+1)->ItB b2 h' i2 l2 (k2+1)->IsPair h' s.heap.objs.size x y->h'.objs.size=s.heap.objs.size+1 ->
   (∀c o,c≠z->c≠TO->c≠i1->c≠i2->s.heap.get? c=some o->h'.get? c=some o)->Q (some (.ref s.heap.objs.size)) {s with heap:=h'}):
  wpAny (model prog w) A (pyNext (.ref z)) Q E s:=by
 have hT:s.TypeIs (.ref z) "zip" := ⟨_,hz,rfl⟩;unfold pyNext;refine zA (vK (xY (name:=Str.ofString "__next__") hT sK (xS sK hT F.entry_zip_next ?_ (F.args_zip_next_1 _))));show wpAny _ _ (field (.ref z) 2 >>= _) _ _ _;refine zA (xX hz rfl (x:=.bool false) rfl ?_);show wpAny _ _ (field (.ref z) 3 >>= _) _ _ _;refine zA (xX hz rfl (x:=.ref TI) rfl ?_);refine zA (wD hTI rfl ?_);show wpAny _ _ (Builtin.SmallTypes.ownedTupleIsFree (.ref z) >>= _) _ _ _;refine zA ?_;unfold Builtin.SmallTypes.ownedTupleIsFree;refine zA (xX hz rfl (x:=.none) rfl (zB ?_));simp only[if_true];refine zA (wP ?_);refine zA (xX hz rfl (x:=.ref TO) rfl ?_);refine zA (vA hz (by simp) λh₁ hz₁ hs₁=>?_);replace hz₁:IsZip h₁ z TI TO .ellipsis:=hz₁;refine zA ?_;simp only[List.zipIdx_cons,List.zipIdx_nil,List.forIn_cons,List.forIn_nil];refine zA (zA (rM ?_));show wpAny _ _ (Builtin.SmallTypes.nextOf (.ref i1) >>= _) _ _ _;refine zA (cM (h1.at λo e=>hs₁.extBut _ _ D.i1z e) (hl1.at λo e=>hs₁.extBut _ _ D.l1z e) hx λh₂ h1₂ hs₂=>zB ?_);have hTO₂:IsPair h₂ TO a b:=hs₂.extBut _ _ D.TOi1 (hs₁.extBut _ _ D.TOz hTO);refine zA (wD hTO₂ rfl ?_);refine zA (rB hTO₂ λh₃ hTO₃ hs₃=>?_);replace hTO₃:IsPair h₃ TO x b:=hTO₃;refine zA (wpAny_letGo (zB ?_));refine zA (zA (rM ?_));show wpAny _ _ (Builtin.SmallTypes.nextOf (.ref i2) >>= _) _ _ _;refine zA (cM (h2.at λo e=>hs₃.extBut _ _ D.TOi2.symm (hs₂.extBut _ _ D.i12.symm (hs₁.extBut _ _ D.i2z e)))
  (hl2.at λo e=>hs₃.extBut _ _ D.l2TO (hs₂.extBut _ _ D.l2i1 (hs₁.extBut _ _ D.l2z e))) hy λh₄ h2₄ hs₄=>zB ?_)
 have hTO₄:IsPair h₄ TO x b:=hs₄.extBut _ _ D.TOi2 hTO₃;refine zA (wD hTO₄ rfl ?_);refine zA (rB hTO₄ λh₅ hTO₅ hs₅=>?_);replace hTO₅:IsPair h₅ TO x y:=hTO₅;refine zA (wpAny_letGo (zB (zB ?_)));refine zA (wD hTO₅ rfl ?_);refine zA (wpAny_newTuple ?_);have hsz:h₅.objs.size=s.heap.objs.size:=by rw[hs₅.1,hs₄.1,hs₃.1,hs₂.1,hs₁.1]
 have hz₅:IsZip h₅ z TI TO .ellipsis:=hs₅.extBut _ _ D.TOz.symm (hs₄.extBut _ _ D.i2z.symm (hs₃.extBut _ _ D.TOz.symm (hs₂.extBut _ _ D.i1z.symm hz₁)));have hk₅:∀c o,c≠z->c≠TO->c≠i1->c≠i2->s.heap.get? c=some o->h₅.get? c=some o:=λc o c1 c2 c3 c4 e =>
  hs₅.extBut _ _ c2 (hs₄.extBut _ _ c4 (hs₃.extBut _ _ c2 (hs₂.extBut _ _ c3 (hs₁.extBut _ _ c1 e))))
 have h1₅:ItB b1 h₅ i1 l1 (k1+1):=h1₂.at λo e=>hs₅.extBut _ _ D.TOi1.symm (hs₄.extBut _ _ D.i12 (hs₃.extBut _ _ D.TOi1.symm e));have h2₅:ItB b2 h₅ i2 l2 (k2+1):=h2₄.at λo e=>hs₅.extBut _ _ D.TOi2.symm e;have hzlt:z<h₅.objs.size:=zP hz₅;show wpAny _ _ (Builtin.SmallTypes.ownedTupleHandOut (.ref z) (.ref h₅.objs.size) >>= _) _ _ _;refine zA ?_;unfold Builtin.SmallTypes.ownedTupleHandOut;have hz₆:IsZip (h₅.push {cls:=.type "tuple",data:=.seq #[x,y]}) z TI TO .ellipsis:=zD _ hz₅;refine zA (vA hz₆ (by simp) λh₇ hz₇ hs₇=>?_);replace hz₇:IsZip h₇ z TI TO (rawInt h₅.objs.size):=hz₇;refine vA hz₇ (by simp) λh₈ hz₈ hs₈=>?_;replace hz₈:IsZip h₈ z TI TO (rawInt h₅.objs.size):=hz₈;have up:∀c o,c≠z->h₅.get? c=some o->h₈.get? c=some o:=λc o c1 e=>hs₈.extBut _ _ c1 (hs₇.extBut _ _ c1 (zD _ e));have hT₈:IsPair h₈ h₅.objs.size x y:=hs₈.extBut _ _ (sL hzlt) (hs₇.extBut _ _ (sL hzlt) (zT _ rfl));have hz8:h₈.objs.size=h₅.objs.size+1:=by rw[hs₈.1,hs₇.1,xW]
 rw[hsz]at hz₈ hT₈ hz8;refine zB ⟨_,rfl,zB ?_⟩;show Q (some (.ref h₅.objs.size)) _;rw[hsz];exact hQ h₈ hz₈ (up _ _ D.TOz hTO₅) (h1₅.at λo e=>up _ o D.i1z e) (h2₅.at λo e=>up _ o D.i2z e) hT₈ hz8 λc o c1 c2 c3 c4 e=>up c o c1 (hk₅ c o c1 c2 c3 c4 e)
theorem Ni{b1 b2:Bool}{z TI TO i1 i2 l1 l2:Addr}{k1 k2:Nat}{xs ys:Array Value}{a b:Value}{Q:Option Value->Shared->Prop}(hh:A.handled=none)(D:ZipApart z TI TO i1 i2 l1 l2)
  (hz:IsZip s.heap z TI TO .none)(hTI:IsPair s.heap TI (.ref i1) (.ref i2))(hTO:IsPair s.heap TO a b)
  (h1:ItB b1 s.heap i1 l1 k1)(h2:ItB b2 s.heap i2 l2 k2)(hl1:seqB b1 s.heap l1 xs)(hl2:seqB b2 s.heap l2 ys)(hend:xs[k1]?=none\/ys[k2]?=none)
  (hQ:∀h',(∀c o,c≠z->c≠TO->c≠i1->c≠i2->s.heap.get? c=some o->h'.get? c=some o)->Q none {s with heap:=h'}):wpAny (model prog w) A (pyNext (.ref z)) Q E s:=by
 have hT:s.TypeIs (.ref z) "zip" := ⟨_,hz,rfl⟩;unfold pyNext;refine zA (vK (xY (name:=Str.ofString "__next__") hT sK (xS sK hT F.entry_zip_next (Q:=_) ?_ (F.args_zip_next_1 _))));show wpAny _ _ (field (.ref z) 2 >>= _) _ _ _;refine zA (xX hz rfl (x:=.bool false) rfl ?_);show wpAny _ _ (field (.ref z) 3 >>= _) _ _ _;refine zA (xX hz rfl (x:=.ref TI) rfl ?_);refine zA (wD hTI rfl ?_);show wpAny _ _ (Builtin.SmallTypes.ownedTupleIsFree (.ref z) >>= _) _ _ _;refine zA ?_;unfold Builtin.SmallTypes.ownedTupleIsFree;refine zA (xX hz rfl (x:=.none) rfl (zB ?_));simp only[if_true];refine zA (wP ?_);refine zA (xX hz rfl (x:=.ref TO) rfl ?_);refine zA (vA hz (by simp) λh₁ hz₁ hs₁=>?_);replace hz₁:IsZip h₁ z TI TO .ellipsis:=hz₁;refine zA ?_;simp only[List.zipIdx_cons,List.zipIdx_nil,List.forIn_cons,List.forIn_nil];refine zA (zA (rM ?_));show wpAny _ _ (Builtin.SmallTypes.nextOf (.ref i1) >>= _) _ _ _;cases hx:xs[k1]? with
 |none =>
  refine zA (Ap hh (h1.at λo e=>hs₁.extBut _ _ D.i1z e) (hl1.at λo e=>hs₁.extBut _ _ D.l1z e) hx λh₂ e hs₂ he=>?_);obtain⟨oe,hoe,hce⟩:=he;have hz₂:IsZip h₂ z TI TO .ellipsis:=hs₂ _ _ D.i1z.symm hz₁;have hez:e≠z:=λx=>by subst x;rw[hz₂]at hoe;cases hoe;simp at hce
  refine vA hz₂ (by simp) λh₃ _ hs₃=>?_;refine zA (vU (T:= "StopIteration") (b:=true) ⟨oe,hs₃.extBut _ _ hez hoe,hce⟩ qG ?_);exact zB (hQ h₃ λc o c1 _ c3 _ x=>hs₃.extBut _ _ c1 (hs₂ _ _ c3 (hs₁.extBut _ _ c1 x)))
 | some x =>
  have hy:ys[k2]?=none:=by rcases hend with h|h;rw[hx]at h;cases h;exact h
  refine zA (cM (h1.at λo e=>hs₁.extBut _ _ D.i1z e) (hl1.at λo e=>hs₁.extBut _ _ D.l1z e) hx λh₂ h1₂ hs₂=>zB ?_);have hTO₂:IsPair h₂ TO a b:=hs₂.extBut _ _ D.TOi1 (hs₁.extBut _ _ D.TOz hTO);refine zA (wD hTO₂ rfl ?_);refine zA (rB hTO₂ λh₃ hTO₃ hs₃=>?_);refine zA (wpAny_letGo (zB ?_));refine zA (zA (rM ?_));show wpAny _ _ (Builtin.SmallTypes.nextOf (.ref i2) >>= _) _ _ _;refine zA (Ap hh (h2.at λo e=>hs₃.extBut _ _ D.TOi2.symm (hs₂.extBut _ _ D.i12.symm (hs₁.extBut _ _ D.i2z e)))
   (hl2.at λo e=>hs₃.extBut _ _ D.l2TO (hs₂.extBut _ _ D.l2i1 (hs₁.extBut _ _ D.l2z e))) hy λh₄ e hs₄ he=>?_)
  obtain⟨oe,hoe,hce⟩:=he;have hz₄:IsZip h₄ z TI TO .ellipsis:=hs₄ _ _ D.i2z.symm (hs₃.extBut _ _ D.TOz.symm (hs₂.extBut _ _ D.i1z.symm hz₁));have hez:e≠z:=λx=>by subst x;rw[hz₄]at hoe;cases hoe;simp at hce
  refine vA hz₄ (by simp) λh₅ _ hs₅=>?_;refine zA (vU (T:= "StopIteration") (b:=true) ⟨oe,hs₅.extBut _ _ hez hoe,hce⟩ qG ?_);exact zB (hQ h₅ λc o c1 c2 c3 c4 x=>hs₅.extBut _ _ c1 (hs₄ _ _ c4 (hs₃.extBut _ _ c2 (hs₂.extBut _ _ c3 (hs₁.extBut _ _ c1 x)))))
end
noncomputable abbrev zB1(b1:Bool)(h:Heap)(l1:Addr):Heap:=h.push {cls:=.type (nmB b1),data:=.fields #[.ref l1,.int 0 0]}
noncomputable abbrev zB2(b1 b2:Bool)(h:Heap)(l1 l2:Addr):Heap:=(zB1 b1 h l1).push {cls:=.type (nmB b2),data:=.fields #[.ref l2,.int 0 0]}
noncomputable abbrev zB3(b1 b2:Bool)(h:Heap)(l1 l2:Addr):Heap:=(zB2 b1 b2 h l1 l2).push {cls:=.type "tuple",data:=.seq #[.ref h.objs.size,.ref (zB1 b1 h l1).objs.size]}
noncomputable abbrev zB4(b1 b2:Bool)(h:Heap)(l1 l2:Addr):Heap:=(zB3 b1 b2 h l1 l2).push {cls:=.type "tuple",data:=.seq #[.none,.none]}
noncomputable abbrev zB5(b1 b2:Bool)(h:Heap)(l1 l2:Addr):Heap:=(zB4 b1 b2 h l1 l2).push {cls:=.type "zip",data:=.fields #[.none,.bool false,.bool false,.ref (zB2 b1 b2 h l1 l2).objs.size,.ref (zB3 b1 b2 h l1 l2).objs.size]}
theorem Nh(b1 b2:Bool)(l1 l2:Addr)(xs ys:Array Value):
  Meets (Builtin.«zip.__new__» ⟨[.type "zip",.ref l1,.ref l2],[]⟩) (λ_ R s=>seqB b1 s.heap l1 xs/\seqB b2 s.heap l2 ys /\
   R (.ok (.ret (.ref (zB4 b1 b2 s.heap l1 l2).objs.size))) {s with heap:=zB5 b1 b2 s.heap l1 l2}):=
 .of_wp λprog w A R s h=>by
  obtain⟨hp,g,d,tk,os⟩:=s;obtain⟨hl1,hl2,h⟩:=h;have hsub:=sub_zip;have hL1:seqB b1 (Shared.heap ⟨hp,g,d,tk,os⟩) l1 xs:=hl1;have hL2:seqB b2 (Shared.heap ⟨hp.push {cls:=.type (nmB b1),data:=.fields #[.ref l1,.int 0 0]},g,d,tk,os⟩) l2 ys:=hl2.at λo e=>zD _ e
  wp_walk using Fv hL1,Fv hL2
  exact⟨_,rfl,h⟩
theorem Ng{prog:Program}{w:World}{A:Around}{E:VP}{s:Shared}{b1 b2:Bool}{l1 l2:Addr}{xs ys:Array Value}{Q:VP}(hl1:seqB b1 s.heap l1 xs)(hl2:seqB b2 s.heap l2 ys)
  (h:∀h',IsZip h' (s.heap.objs.size+4) (s.heap.objs.size+2) (s.heap.objs.size+3) .none->IsPair h' (s.heap.objs.size+2) (.ref s.heap.objs.size) (.ref (s.heap.objs.size+1)) ->
   IsPair h' (s.heap.objs.size+3) .none .none->ItB b1 h' s.heap.objs.size l1 0->ItB b2 h' (s.heap.objs.size+1) l2 0 ->
   (∀c o,s.heap.get? c=some o->h'.get? c=some o)->Q (.ref (s.heap.objs.size+4)) {s with heap:=h'}):
  wpAny (model prog w) A (call (.type "zip") [.ref l1,.ref l2]) Q E s:=by
 refine callType_new F.called_zip ∅ (F.typeCall_zip_2 _ _) (F.newCall_zip_2 _ _) (λobj=>F.args_object_init_3 obj _ _) F.entry_zip_new
  (Nh b1 b2 l1 l2 xs ys) ⟨hl1,hl2,?_⟩
 have z1:(zB1 b1 s.heap l1).objs.size=s.heap.objs.size+1:=xW ..;have z2:(zB2 b1 b2 s.heap l1 l2).objs.size=s.heap.objs.size+2:=by rw[xW,z1]
 have z3:(zB3 b1 b2 s.heap l1 l2).objs.size=s.heap.objs.size+3:=by rw[xW,z2]
 have z4:(zB4 b1 b2 s.heap l1 l2).objs.size=s.heap.objs.size+4:=by rw[xW,z3]
 have g5:(zB5 b1 b2 s.heap l1 l2).get? (zB4 b1 b2 s.heap l1 l2).objs.size=some _:=zT _ rfl;have g4:(zB5 b1 b2 s.heap l1 l2).get? (zB3 b1 b2 s.heap l1 l2).objs.size=some _:=zD _ (zT _ rfl);have g3:(zB5 b1 b2 s.heap l1 l2).get? (zB2 b1 b2 s.heap l1 l2).objs.size=some _:=zD _ (zD _ (zT _ rfl));have u2:∀c o,(zB2 b1 b2 s.heap l1 l2).get? c=some o->(zB5 b1 b2 s.heap l1 l2).get? c=some o:=λc o e=>zD _ (zD _ (zD _ e));have g2:ItB b2 (zB5 b1 b2 s.heap l1 l2) (zB1 b1 s.heap l1).objs.size l2 0:=Fu.at λo e=>u2 _ o e;have g1:ItB b1 (zB5 b1 b2 s.heap l1 l2) s.heap.objs.size l1 0:=Fu.at λo e=>u2 _ o (zD _ e);show _/\_;rw[z2,z3,z4]at g5;rw[z1,z2]at g3;rw[z3]at g4;rw[z1]at g2;rw[z4];exact⟨⟨_,g5,rfl⟩,h _ g5 g3 g4 g1 g2 λc o x=>u2 c o (zD _ (zD _ x))⟩
section
variable {X:Cx} {pins:PN} {σ:St} {H:Hp} {s:Shared} {h':Heap}
theorem Inv.seqB{b:Bool}{a:Addr}{xs:List V}(I:Inv X pins σ H s)(h:SqB b X.K H a xs):∃its:LW,Vals xs its/\L2.seqB b s.heap a its.toArray:=by
 cases b
 ·obtain⟨its,rv,p,_⟩:=I.list h;exact⟨its,rv,p.isList⟩
 ·obtain⟨its,rv,p,_⟩:=I.tuple h;exact⟨its,rv,p⟩
theorem Inv.seqB_inj{b:Bool}{a:Addr}{xs ys:List V}(I:Inv X pins σ H s)(h:SqB b X.K H a xs)(h2:SqB b X.K H a ys):xs=ys:=by
 cases b
 ·exact I.list_inj h h2
 ·exact I.tuple_inj h h2
theorem Inv.seq_ne{b:Bool}{a f:Addr}{xs:List V}(I:Inv X pins σ H s)(h:SqB b X.K H a xs)(hf:FpOk X pins H f):a≠f:=by
 have rd:∀u,Rd H a u->a≠f:=λu r z=>by
  subst z;rcases r with r|⟨o,r⟩ <;> (rw[hf.1]at r;cases r)
 have kk:∀o,X.K.lookup a=some o->a≠f:=λo e z=>by
  subst z;have q:=I.mod.kin a o e;rcases hf.2.2.2.1 with w|w
  ·exact I.ok.noex _ _ q w
  ·exact absurd (zE (zP q) (yL I.ok.bsz w)) (xB _)
 cases b
 ·rcases h with h|⟨o,its,n,hk,_⟩
  ·exact rd _ h
  ·exact kk _ hk
 ·rcases h with h|⟨o,its,n,hk,_⟩
  ·exact rd _ h
  ·exact kk _ hk
theorem Inv.turnedNew{fp:LA}{n:Addr}{u:HO}{t':Nat}(I:Inv X pins σ H s)(hf:∀b∈fp,FpOk X pins H b)(k:∀b o,b∉fp->s.heap.get? b=some o->h'.get? b=some o)(hn:s.heap.objs.size<=n)
  (new:nO X.prog X.w (upd H n u) h' n u):Inv X pins σ (upd H n u) {s with heap:=h',toks:=t'}:=by
 have fn:=I.hok.fresh hn;have nfp:∀b v,H b=some v->b∉fp:=λb v e z=>by rw[(hf b z).1]at e;cases e
 have nl:X.env.locals∉fp:=λz=>(hf _ z).2.1 rfl;refine I.step (g':=s.gens) (d':=s.drawn) (ch:=fp) (λb hb=>?_) (λb o _ _ hc e _=>k b o hc e) (λb o _ _ hc e _=>⟨o.slots,k b o hc e⟩) (λb o _ e z=>?_)
  (λb o hc e=>⟨o,k b o hc e⟩) (λb xs e=>?_) (λb o v e=>?_) (λb ps e=>⟨#[],?_⟩) (λm hm=>?_) (λb v e=>?_) I.bare
 ·obtain⟨f0,f1,f2,f3,f4,f5⟩:=hf b hb;exact⟨f3,f1,f4,f5⟩
 ·rw[oE (yB (zE (zP e) hn))];exact z
 ·rw[oE (nK e fn)];exact e
 ·rw[oE (nK e fn)];exact e
 ·rw[oE (nK e fn),e];simp
 ·obtain⟨o,es,ep,ho,r⟩:=hm;exact⟨o,es,ep,k _ o nl ho,r⟩
 ·by_cases hb:b=n
  ·subst hb;rw[pV]at e;cases e;exact new
  ·rw[oE hb]at e;refine(I.hok b v e).stay (λc x hc q=>k c x ?_ q) (λc q=>by rw[oE (nK q fn)];exact q) λc xs q=>by rw[oE (nK q fn)];exact q
   rcases hc with z|z
   ·rw[z];exact nfp b v e
   ·exact nfp c _ z
theorem Inv.turnedL{fp:LA}{t':Nat}(I:Inv X pins σ H s)(hf:∀b∈fp,FpOk X pins H b)(k:∀b o,b∉fp->s.heap.get? b=some o->h'.get? b=some o):Inv X pins σ H {s with heap:=h',toks:=t'}:=by
 have nfp:∀b v,H b=some v->b∉fp:=λb v e z=>by rw[(hf b z).1]at e;cases e
 have nl:X.env.locals∉fp:=λz=>(hf _ z).2.1 rfl;refine I.step (g':=s.gens) (d':=s.drawn) (ch:=fp) (λb hb=>?_) (λb o _ _ hc e _=>k b o hc e) (λb o _ _ hc e _=>⟨o.slots,k b o hc e⟩) (λb o _ e z=>z)
  (λb o hc e=>⟨o,k b o hc e⟩) (λb xs e=>e) (λb o v e=>e) (λb ps e=>⟨#[],by rw[e];simp⟩) (λm hm=>?_) (λb v e=>?_) I.bare
 ·obtain⟨f0,f1,f2,f3,f4,f5⟩:=hf b hb;exact⟨f3,f1,f4,f5⟩
 ·obtain⟨o,es,ep,ho,r⟩:=hm;exact⟨o,es,ep,k _ o nl ho,r⟩
 ·refine(I.hok b v e).stay (λc x hc q=>k c x ?_ q) (λc q=>q) λc xs q=>q;rcases hc with z|z
  ·rw[z];exact nfp b v e
  ·exact nfp c _ z
end
noncomputable def Itz(K:Frag)(b1:Bool)(l1:Addr)(b2:Bool)(l2:Addr):It:=
  ⟨λi H=>∃xs ys x y,SqB b1 K H l1 xs/\SqB b2 K H l2 ys/\xs[i]?=some x/\ys[i]?=some y,
   λi H v H'=>∃p x y,v=.ref p/\H p=none/\H'=upd H p (.tup [x,y])/\(∀xs,SqB b1 K H l1 xs->xs[i]?=some x)/\∀ys,SqB b2 K H l2 ys->ys[i]?=some y,
   λi H=>∃xs ys,SqB b1 K H l1 xs/\SqB b2 K H l2 ys/\(xs[i]?=none\/ys[i]?=none)⟩
theorem Fs{xs:List V}{its:LW}{i:Nat}(r:Vals xs its):xs[i]?=none->its.toArray[i]?=none:=λh=>by
 have:=r.none_of h;simpa using this
theorem Nf{P:Program}{w:World}{K:Frag}{es:List Expr}{k:Nat}{pos:Pos}{b1 b2:Bool}{z TI TO i1 i2 l1 l2:Addr}(hd:[z,TI,TO,i1,i2].Nodup):
  Turn P w K (.Tuple es k pos) (Itz K b1 l1 b2 l2) [z,TI,TO,i1,i2] z (λi h=>IsZip h z TI TO .none/\IsPair h TI (.ref i1) (.ref i2)/\(∃a b,IsPair h TO a b)/\ItB b1 h i1 l1 i/\ItB b2 h i2 l2 i) where
 mem:=by simp
 obj:=λi h⟨hz,hTI,⟨a,b,hTO⟩,h1,h2⟩c hc=>by
  simp only[List.mem_cons,List.not_mem_nil,or_false]at hc;rcases hc with e|e|e|e|e <;> subst e
  ·exact⟨_,hz,λv q=>by have q':Data.fields _=Data.cell v:=q;cases q'⟩
  ·exact⟨_,hTI,λv q=>by have q':Data.seq _ _=Data.cell v:=q;cases q'⟩
  ·exact⟨_,hTO,λv q=>by have q':Data.seq _ _=Data.cell v:=q;cases q'⟩
  ·exact h1.lt
  ·exact h2.lt
 keep:=λi h h'⟨hz,hTI,⟨a,b,hTO⟩,h1,h2⟩kk=>⟨kk z (by simp) _ hz,kk TI (by simp) _ hTI,⟨a,b,kk TO (by simp) _ hTO⟩,h1.at λo e=>kk i1 (by simp) o e,h2.at λo e=>kk i2 (by simp) o e⟩
 item:=by
  intro X hP hw hK hc i pins s σ H E I hf st hg;subst hP hw hK;obtain⟨hz,hTI,⟨a,b,hTO⟩,h1,h2⟩:=st;obtain⟨xs,ys,x,y,q1,q2,e1,e2⟩:=hg;obtain⟨its1,r1,p1⟩:=I.seqB q1;obtain⟨its2,r2,p2⟩:=I.seqB q2;obtain⟨u1,hu1,ru1⟩:=r1.get e1;obtain⟨u2,hu2,ru2⟩:=r2.get e2;have ne1:∀f∈[z,TI,TO,i1,i2],l1≠f:=λf hff=>I.seq_ne q1 (hf f hff);have ne2:∀f∈[z,TI,TO,i1,i2],l2≠f:=λf hff=>I.seq_ne q2 (hf f hff);simp only[List.nodup_cons,List.mem_cons,List.not_mem_nil,or_false,not_or,List.nodup_nil,and_true,not_false_eq_true]at hd;obtain⟨⟨d1,d2,d3,d4⟩,⟨d5,d6,d7⟩,⟨d8,d9⟩,d10⟩:=hd;have D:ZipApart z TI TO i1 i2 l1 l2:=⟨yE d1,yE d2,yE d3,yE d4,d5,d6,d7,d8,d9,d10,ne1 z (by simp),ne1 TO (by simp),ne1 i1 (by simp),ne1 i2 (by simp),ne2 z (by simp),ne2 TO (by simp),ne2 i1 (by simp),ne2 i2 (by simp)⟩;refine Nj D hz hTI hTO h1 h2 p1 p2 (x:=u1) (y:=u2) (by simpa using hu1) (by simpa using hu2) λh' a1 a2 a3 a4 a5 a6 a7=>⟨_,rfl,?_⟩;refine wpAny_letOwnedTupleGo_zip a1 λh'' hz' hs'=>?_;have up:∀c o,c∉[z,TI,TO,i1,i2]->s.heap.get? c=some o->h''.get? c=some o:=λc o hc' e=>by
   simp only[List.mem_cons,List.not_mem_nil,or_false,not_or]at hc';obtain⟨c1,c2,c3,c4,c5⟩:=hc';exact hs'.extBut _ _ c1 (a7 c o c1 c3 c4 c5 e)
  have nz:s.heap.objs.size≠z:=sL (zP hz);have new:nO X.prog X.w (upd H s.heap.objs.size (.tup [x,y])) h'' s.heap.objs.size (.tup [x,y]):=
   ⟨by show 2<=sizeLine;decide,[u1,u2],.cons ru1 (.cons ru2 .nil),⟨_,hs'.extBut _ _ nz a5,rfl,_,rfl⟩⟩
  have I2:Inv X pins σ (upd H s.heap.objs.size (.tup [x,y])) {s with heap:=h''}:=I.turnedNew (t':=s.toks) hf up (zG _) new;refine⟨.ref s.heap.objs.size,_,I2,rfl,⟨_,x,y,rfl,I.fresh,rfl,λxs' q=>by rw[I.seqB_inj q q1];exact e1,λys' q=>by rw[I.seqB_inj q q2];exact e2⟩,⟨hz',hs'.extBut _ _ D.TIz (a7 _ _ D.TIz D.TITO D.TIi1 D.TIi2 hTI),⟨_,_,hs'.extBut _ _ D.TOz a2⟩,a3.at λo e=>hs'.extBut _ _ D.i1z e,a4.at λo e=>hs'.extBut _ _ D.i2z e⟩,λc hc'=>?_⟩;have hcf:=(hf c hc').1;rw[oE]
  ·exact hcf
  ·intro e;subst e;simp only[List.mem_cons,List.not_mem_nil,or_false]at hc';rcases hc' with e|e|e|e|e
   ·exact nz e
   ·exact absurd (zP hTI) (by rw[←e];exact xB _)
   ·exact absurd (zP hTO) (by rw[←e];exact xB _)
   ·obtain⟨o,q,_⟩:=h1.lt;exact absurd (zP q) (by rw[←e];exact xB _)
   ·obtain⟨o,q,_⟩:=h2.lt;exact absurd (zP q) (by rw[←e];exact xB _)
 done:=by
  intro X hP hw hK hc i pins s σ H E I hf st hg;subst hP hw hK;obtain⟨hz,hTI,⟨a,b,hTO⟩,h1,h2⟩:=st;obtain⟨xs,ys,q1,q2,e1⟩:=hg;obtain⟨its1,r1,p1⟩:=I.seqB q1;obtain⟨its2,r2,p2⟩:=I.seqB q2;have ne1:∀f∈[z,TI,TO,i1,i2],l1≠f:=λf hff=>I.seq_ne q1 (hf f hff);have ne2:∀f∈[z,TI,TO,i1,i2],l2≠f:=λf hff=>I.seq_ne q2 (hf f hff);simp only[List.nodup_cons,List.mem_cons,List.not_mem_nil,or_false,not_or,List.nodup_nil,and_true,not_false_eq_true]at hd;obtain⟨⟨d1,d2,d3,d4⟩,⟨d5,d6,d7⟩,⟨d8,d9⟩,d10⟩:=hd;have D:ZipApart z TI TO i1 i2 l1 l2:=⟨yE d1,yE d2,yE d3,yE d4,d5,d6,d7,d8,d9,d10,ne1 z (by simp),ne1 TO (by simp),ne1 i1 (by simp),ne1 i2 (by simp),ne2 z (by simp),ne2 TO (by simp),ne2 i1 (by simp),ne2 i2 (by simp)⟩;refine Ni (I.ok.hd hc) D hz hTI hTO h1 h2 p1 p2 (e1.imp (Fs r1) (Fs r2)) λh' a7=>⟨rfl,I.turnedL (t':=s.toks) hf λc o hc' e=>?_⟩;simp only[List.mem_cons,List.not_mem_nil,or_false,not_or]at hc';obtain⟨c1,c2,c3,c4,c5⟩:=hc';exact a7 c o c1 c3 c4 c5 e
 self:=λ_ _ _ _ _ st h=>wpAny_pyIter_zip st.1 h
section
variable {X:Cx}
def iZip(K:Frag)(ta:TA):TI:=λσ H R=>ta σ H λvs H1=>∃b1 b2 l1 l2,vs=[.ref l1,.ref l2]/\(∃xs,SqB b1 K H1 l1 xs)/\(∃ys,SqB b2 K H1 l2 ys)/\R (Itz K b1 l1 b2 l2) H1
theorem Ao{a b:Expr}{ta:TA}{es:List Expr}{k:Nat}{tp p pos:Pos}(hg:Gl X "zip")(hm:X.mg "zip"=none)(ha:PA X [a,b] ta)(hv:bootBuiltins "zip"=some (.type "zip"):=by decide +kernel)
  (hs:starEach [a,b] X.env=[(false,eval a X.env),(false,eval b X.env)]:=by rfl)(hs2:starEach [b] X.env=[(false,eval b X.env)]:=by rfl):
  PI X (.Tuple es k tp) (.Call (.Name "zip" p) [a,b] [] pos) (iZip X.K ta):=by
 intro pins s σ H R I h;refine Call_ (gK I hg hm hv (vB (thn (ha pos pins s σ H _ I h) λus s1⟨vs,H1,I1,r1,q1⟩=>?_) (by rw[hs,hs2]) (by rw[hs2];rfl)));obtain⟨b1,b2,l1,l2,e,⟨xs,q1⟩,⟨ys,q2⟩,q⟩:=q1;subst e;cases r1 with
 | cons r rr =>
  cases rr with
  | cons r' rr =>
   cases rr;cases r;cases r';obtain⟨its1,v1,p1⟩:=I1.seqB q1;obtain⟨its2,v2,p2⟩:=I1.seqB q2;refine Ng p1 p2 λh' a1 a2 a3 a4 a5 kp=>?_;refine wpAny_pyIter_zip a1 ?_;have lt:∀j,j<=4->s1.heap.objs.size<=s1.heap.objs.size+j:=λj _=>rX _ _;refine⟨s1.heap.objs.size+4,[s1.heap.objs.size+4,s1.heap.objs.size+2,s1.heap.objs.size+3,s1.heap.objs.size,s1.heap.objs.size+1],_,_,H1,rfl,I1.kept (t':=s1.toks) kp,Nf (b1:=b1) (b2:=b2) (l1:=l1) (l2:=l2) ?_,⟨a1,a2,⟨_,_,a3⟩,a4,a5⟩,λc hc=>?_,q⟩
   ·simp
   ·have hle:s1.heap.objs.size<=c:=by
     simp only[List.mem_cons,List.not_mem_nil,or_false]at hc;rcases hc with e|e|e|e|e <;> subst e <;> first|exact zG _|exact rX _ _
    exact I1.fpOk hle (I1.hok.fresh hle)
end
open AutoSeq1 (wpAny_loadPart')
set_option maxRecDepth 100000 in
theorem Nd(l:Addr)(items:Array Value)(n:Nat)(dct:Option Addr)(sl:Array (Option Value)):
  Meets (Builtin.«enumerate.__new__» ⟨[.type "enumerate",.ref l],[]⟩) (λ_ R s=>s.heap.get? l=some {cls:=.type "tuple",dict:=dct,data:=.seq items n,slots:=sl} /\
   R (.ok (.ret (.ref (s.heap.push {cls:=.type "tuple_iterator",data:=.fields #[.ref l,.int 0 0]}).objs.size)))
    {s with heap:=(s.heap.push {cls:=.type "tuple_iterator",data:=.fields #[.ref l,.int 0 0]}).push {cls:=.type "enumerate",data:=.fields #[.none,.bool false,.ref s.heap.objs.size,rawInt 0,.none,.none]}}):=
 .of_wp λprog w A R s h=>by
  obtain⟨hp,g,d,tk,os⟩:=s;obtain⟨hl,h⟩:=h;have hsub:=sub_enumerate;have hL:Heap.IsTuple (Shared.heap ⟨hp,g,d,tk,os⟩) l items:=⟨_,hl,rfl,n,rfl⟩
  wp_walk using vZ hl
  refine wpAny_stack_any λst=>zB ?_;split
  ·rename_i c _ _ _ _ _;cases(c == Value.type "enumerate")
   ·wp_walk using vZ hl,uA hL
    exact⟨_,rfl,h⟩
   ·wp_walk using vZ hl,uA hL
    exact⟨_,rfl,h⟩
  ·wp_walk using vZ hl,uA hL
   exact⟨_,rfl,h⟩
theorem Nc{prog:Program}{w:World}{A:Around}{E:VP}{s:Shared}{b:Bool}{l:Addr}{items:Array Value}{Q:VP}(hL:seqB b s.heap l items)
  (h:∀h',IsEnum h' (s.heap.objs.size+1) s.heap.objs.size 0 .none->ItB b h' s.heap.objs.size l 0 ->
   (∀b o,s.heap.get? b=some o->h'.get? b=some o)->Q (.ref (s.heap.objs.size+1)) {s with heap:=h'}):
  wpAny (model prog w) A (call (.type "enumerate") [.ref l]) Q E s:=by
 cases b
 ·exact call_enumerate_list hL λh' a1 a2 a3 a4=>h h' a1 a2 a4
 ·obtain⟨⟨c,dct,dt,sl⟩,hl,hc,n,hd⟩:=hL;replace hc:c=.type "tuple" := hc;replace hd:dt=.seq items n:=hd;subst hc hd;refine callType_new F.called_enumerate ∅ (F.typeCall_enumerate_1 _) (F.newCall_enumerate_1 _) (λobj=>F.args_object_init_2 obj _) F.entry_enumerate_new
   (Nd l items n dct sl) ⟨hl,?_⟩
  have hz:(s.heap.push {cls:=.type "tuple_iterator",data:=.fields #[.ref l,.int 0 0]}).objs.size=s.heap.objs.size+1:=xW ..;show _/\_;rw[hz];have he:IsEnum ((s.heap.push {cls:=.type "tuple_iterator",data:=.fields #[.ref l,.int 0 0]}).push
    {cls:=.type "enumerate",data:=.fields #[.none,.bool false,.ref s.heap.objs.size,rawInt 0,.none,.none]}) (s.heap.objs.size+1) s.heap.objs.size 0 .none:=by
   have:=zT (s.heap.push {cls:=.type "tuple_iterator",data:=.fields #[.ref l,.int 0 0]})
    (o:={cls:=.type "enumerate",data:=.fields #[.none,.bool false,.ref s.heap.objs.size,rawInt 0,.none,.none]}) rfl
   rw[hz]at this;exact this
  refine⟨⟨_,he,rfl⟩,h _ he ⟨_,zD _ (zT _ rfl),rfl,rfl⟩ λb o x=>zD _ (zD _ x)⟩
noncomputable def Ite(K:Frag)(b:Bool)(l:Addr):It:=
  ⟨λi H=>∃xs x,SqB b K H l xs/\xs[i]?=some x,
   λi H v H'=>∃p x,v=.ref p/\H p=none/\H'=upd H p (.tup [.int i,x])/\∀xs,SqB b K H l xs->xs[i]?=some x,
   λi H=>∃xs,SqB b K H l xs/\xs.length=i⟩
theorem Nb{P:Program}{w:World}{K:Frag}{es:List Expr}{k:Nat}{pos:Pos}{b:Bool}{e it l:Addr}(hd:e≠it):
  Turn P w K (.Tuple es k pos) (Ite K b l) [e,it] e (λi h=>(∃old,IsEnum h e it i old)/\ItB b h it l i) where
 mem:=by simp
 obj:=λi h⟨⟨old,hz⟩,h1⟩c hc=>by
  simp only[List.mem_cons,List.not_mem_nil,or_false]at hc;rcases hc with e|e <;> subst e
  ·exact⟨_,hz,λv q=>by have q':Data.fields _=Data.cell v:=q;cases q'⟩
  ·exact h1.lt
 keep:=λi h h'⟨⟨old,hz⟩,h1⟩kk=>⟨⟨old,kk e (by simp) _ hz⟩,h1.at λo q=>kk it (by simp) o q⟩
 item:=by
  intro X hP hw hK hc i pins s σ H E I hf st hg;subst hP hw hK;obtain⟨⟨old,hz⟩,h1⟩:=st;obtain⟨xs,x,q1,e1⟩:=hg;obtain⟨its1,r1,p1⟩:=I.seqB q1;obtain⟨u1,hu1,ru1⟩:=r1.get e1;have ne1:∀f∈[e,it],l≠f:=λf hff=>I.seq_ne q1 (hf f hff);have hlt:i<its1.toArray.size:=by
   have:=(pG.mp hu1).1;simpa using this
  refine wpAny_pyNext_enum_itemD (Ft b (show X.A.in1.handled=none from I.ok.hd hc) it l (ne1 it (by simp)) its1.toArray) hz ⟨h1,p1⟩ hlt hd (λq=>?_) λu h' tk hP a1 a2 a3 a4 a5=>⟨_,rfl,?_⟩
  ·simp only[List.mem_cons,List.not_mem_nil,or_false]at q;rcases q with q|q
   ·exact hd q
   ·exact ne1 e (by simp) q.symm
  have eu:u=u1:=by
   have:its1.toArray[i]?=some u1:=by simpa using hu1
   rw[this]at hP;exact(zR hP).symm
  subst eu;refine wpAny_letOwnedTupleGo_enum a1 λh'' hz' hs'=>?_;have ne:s.heap.objs.size≠e:=sL (zP hz);have up:∀c o,c∉[e,it]->s.heap.get? c=some o->h''.get? c=some o:=λc o hc' q=>by
   simp only[List.mem_cons,List.not_mem_nil,or_false,not_or]at hc';exact hs'.extBut _ _ hc'.1 (a5 c o hc'.1 hc'.2 q)
  have new:nO X.prog X.w (upd H s.heap.objs.size (.tup [.int i,x])) h'' s.heap.objs.size (.tup [.int i,x]):=
   ⟨by show 2<=sizeLine;decide,[.int i tk,u],.cons ⟨tk,rfl⟩ (.cons ru1 .nil),⟨_,hs'.extBut _ _ ne a3,rfl,_,rfl⟩⟩
  have I2:Inv X pins σ (upd H s.heap.objs.size (.tup [.int i,x])) {s with heap:=h'',toks:=tk+1}:=I.turnedNew (t':=tk+1) hf up (zG _) new;refine⟨.ref s.heap.objs.size,_,I2,rfl,⟨_,x,rfl,I.fresh,rfl,λxs' q=>by rw[I.seqB_inj q q1];exact e1⟩,⟨⟨u,by simpa using hz'⟩,a2.1.at λo q=>hs'.extBut _ _ (yE hd) q⟩,λc hc'=>?_⟩;have hcf:=(hf c hc').1;rw[oE]
  ·exact hcf
  ·intro z;subst z;simp only[List.mem_cons,List.not_mem_nil,or_false]at hc';rcases hc' with z|z
   ·exact ne z
   ·obtain⟨o,q,_⟩:=h1.lt;exact absurd (zP q) (by rw[←z];exact xB _)
 done:=by
  intro X hP hw hK hc i pins s σ H E I hf st hg;subst hP hw hK;obtain⟨⟨old,hz⟩,h1⟩:=st;obtain⟨xs,q1,e1⟩:=hg;obtain⟨its1,r1,p1⟩:=I.seqB q1;have ne1:∀f∈[e,it],l≠f:=λf hff=>I.seq_ne q1 (hf f hff);have el:its1.toArray.size=i:=by rw[zV,←r1.length,e1]
  refine wpAny_pyNext_enum_endD (Ft b (show X.A.in1.handled=none from I.ok.hd hc) it l (ne1 it (by simp)) its1.toArray) hz ⟨by rw[el];exact h1,p1⟩ λh' hx=>⟨rfl,I.turnedL (t':=s.toks) hf λc o hc' q=>?_⟩;simp only[List.mem_cons,List.not_mem_nil,or_false,not_or]at hc';exact hx c o hc'.2 q
 self:=λ_ _ _ _ _ st h=>let ⟨⟨_,q⟩,_⟩:=st;wpAny_pyIter_enum q h
section
variable {X:Cx}
def eG(K:Frag)(ta:TA):TI:=λσ H R=>ta σ H λvs H1=>∃b l,vs=[.ref l]/\(∃xs,SqB b K H1 l xs)/\R (Ite K b l) H1
theorem cN{a:Expr}{ta:TA}{es:List Expr}{k:Nat}{tp p pos:Pos}(hg:Gl X "enumerate")(hm:X.mg "enumerate"=none)(ha:PA X [a] ta)(hv:bootBuiltins "enumerate"=some (.type "enumerate"):=by decide +kernel)
  (hs:starEach [a] X.env=[(false,eval a X.env)]:=by rfl):
  PI X (.Tuple es k tp) (.Call (.Name "enumerate" p) [a] [] pos) (eG X.K ta):=by
 intro pins s σ H R I h;refine Call_ (gK I hg hm hv (vB (thn (ha pos pins s σ H _ I h) λus s1⟨vs,H1,I1,r1,q1⟩=>?_) hs rfl));obtain⟨b,l,e,⟨xs,q1⟩,q⟩:=q1;subst e;cases r1 with
 | cons r rr =>
  cases rr;cases r;obtain⟨its1,v1,p1⟩:=I1.seqB q1;refine Nc p1 λh' a1 a2 kp=>?_;refine wpAny_pyIter_enum a1 ?_;refine⟨s1.heap.objs.size+1,[s1.heap.objs.size+1,s1.heap.objs.size],_,_,H1,rfl,I1.kept (t':=s1.toks) kp,Nb (b:=b) (l:=l) (by simp),⟨⟨_,a1⟩,a2⟩,λc hc=>?_,q⟩;have hle:s1.heap.objs.size<=c:=by
   simp only[List.mem_cons,List.not_mem_nil,or_false]at hc;rcases hc with e|e <;> subst e <;> first|exact zG _|exact rX _ _
  exact I1.fpOk hle (I1.hok.fresh hle)
theorem Fr:∀{ns:LI'}{its:LW},Vals (ns.map V.int) its->∃xs:List (Int×Tok),its=xs.map (λp=>Value.int p.1 p.2)/\xs.map (·.1)=ns
 |[],_,.nil=>⟨[],rfl,rfl⟩
 |n:: r,_,.cons ⟨t,h⟩ q=>by
  obtain⟨xs,e1,e2⟩:=Fr (ns:=r) q;exact⟨(n,t):: xs,by rw[h,e1];rfl,by rw[zL,e2]⟩
theorem An(hc:X.calm=true):lF X (.builtin "sum") (λxs H Q=>∃(p:Addr)(ns:LI'),xs=[.ref p]/\SqL X.K H p (ns.map V.int)/\Q (.int ns.sum) H):=by
 intro pins s σ H xs us Q I r h;obtain⟨p,ns,rfl,hq,q⟩:=h;obtain⟨u,rfl,rx⟩:=jF r;cases rx;obtain⟨its,rv,pl,hz⟩:=I.list hq;obtain⟨ps,e1,e2⟩:=Fr rv;have hl:s.heap.IsList p (intItems ps.toArray):=by
  have:=pl.isList;rw[e1]at this;simpa [intItems]using this
 refine sum_intListG (I.ok.hd hc) hl λh' tk t' hk=>⟨.int ns.sum,H,I.kept (t':=tk) hk,⟨t',?_⟩,q⟩;rw[preSum_eq,wN (by simp)];simp[e2]
end
theorem SqB.or{b:Bool}{K:Frag}{H:Hp}{a:Addr}{xs:List V}(h:SqB b K H a xs):SqL K H a xs\/SqT K H a xs:=by
 cases b
 ·exact .inl h
 ·exact .inr h
theorem SqB.up{b:Bool}{K:Frag}{H H':Hp}{a:Addr}{xs:List V}(h:SqB b K H a xs)(s:Same H H'):SqB b K H' a xs:=by
 cases b
 ·exact s.seq h
 ·exact s.tup h
theorem SqB.lst{K:Frag}{H:Hp}{a:Addr}{xs:List V}(h:H a=some (.lst xs)):SqB false K H a xs:=SqL.of h
theorem SqB.tup{K:Frag}{H:Hp}{a:Addr}{xs:List V}(h:H a=some (.tup xs)):SqB true K H a xs:=SqT.of h
noncomputable def Its(K:Frag)(b:Bool)(a:Addr):It:=match b with|false=>Itl K a|true=>Itt K a
theorem Its.go{K:Frag}{b:Bool}{a:Addr}{xs:List V}{x:V}{i:Nat}{H:Hp}(h:SqB b K H a xs)(e:xs[i]?=some x):(Its K b a).go i H:=by
 cases b
 ·exact⟨xs,x,h,e⟩
 ·exact⟨xs,x,h,e⟩
theorem Its.stop{K:Frag}{b:Bool}{a:Addr}{xs:List V}{i:Nat}{H:Hp}(h:SqB b K H a xs)(e:xs.length<=i):(Its K b a).stop i H:=by
 cases b
 ·exact⟨xs,h,e⟩
 ·exact⟨xs,h,e⟩
theorem Its.yld{K:Frag}{b:Bool}{a:Addr}{xs:List V}{i:Nat}{H H':Hp}{x:V}(h:SqB b K H a xs)(y:(Its K b a).yld i H x H'):H'=H/\xs[i]?=some x:=by
 cases b
 ·exact⟨y.1,y.2 xs h⟩
 ·exact⟨y.1,y.2 xs h⟩
section
variable {X:Cx}
def iSeq(K:Frag)(tl:TE):TI:=λσ H R=>tl σ H λx H1=>∃b a,x=.ref a/\(∃xs,SqB b K H1 a xs)/\R (Its K b a) H1
theorem oH{tg l:Expr}{tl:TE}(hl:PE X l tl):PI X tg l (iSeq X.K tl):=by
 intro pins s σ H R I h;refine thn (hl pins s σ H _ I h) λv s1⟨x,H1,I1,r1,q1⟩=>?_;obtain⟨b,a,e,⟨xs,hq⟩,q⟩:=q1;subst e;cases r1;cases b
 ·obtain⟨its,rv,p,hz⟩:=I1.list hq;refine tQ p.isList ?_;refine⟨s1.heap.objs.size,[s1.heap.objs.size],_,_,H1,rfl,I1.kept (t':=s1.toks) λb o e=>zD _ e,Kb a _,⟨_,zT _ rfl,rfl,rfl⟩,λb hb=>?_,q⟩;have e:b=s1.heap.objs.size:=by simpa using hb
  subst e;exact I1.fpOk (zG _) (I1.hok.fresh (zG _))
 ·obtain⟨its,rv,p,hz⟩:=I1.tuple hq;refine uA (show s1.heap.IsTuple a its.toArray from p) ?_;refine⟨s1.heap.objs.size,[s1.heap.objs.size],_,_,H1,rfl,I1.kept (t':=s1.toks) λb o e=>zD _ e,Ka a _,⟨_,zT _ rfl,rfl,rfl⟩,λb hb=>?_,q⟩;have e:b=s1.heap.objs.size:=by simpa using hb
  subst e;exact I1.fpOk (zG _) (I1.hok.fresh (zG _))
def rIxB(K:Frag):R2:=λx y H Q=>E5 λ(b:Bool)(p:Addr)(xs:List V)(i:Int)(v:V)=>A5 (x=.ref p) (y=.int i) (SqB b K H p xs) (atI xs i=some v) (Q v H)
theorem ix_B:IxR X (rIxB X.K):=by
 intro value slice pins s σ H x y v u Q I rx ry h;obtain⟨b,p,xs,i,v',e1,e2,hq,ha,q⟩:=h;cases b
 ·exact Mu value slice pins s σ H x y v u Q I rx ry ⟨p,xs,i,v',e1,e2,hq,ha,q⟩
 ·exact Mt value slice pins s σ H x y v u Q I rx ry ⟨p,xs,i,v',e1,e2,hq,ha,q⟩
def lN(K:Frag):List V->Hp->VK->Prop:=λxs H Q=>E3 λ(b:Bool)(p:Addr)(ys:List V)=>A3 (xs=[.ref p]) (SqB b K H p ys) (Q (.int ys.length) H)
theorem Na:lF X (.builtin "len") (lN X.K):=by
 intro pins s σ H xs us Q I r h;obtain⟨b,p,ys,e,hq,q⟩:=h;exact Mm pins s σ H xs us Q I r ⟨p,ys,e,hq.or,q⟩
def eH(K:Frag):List V->Hp->VK->Prop:=λxs H Q=>∃b p ys,xs=[.ref p]/\SqB b K H p ys/\∀l,H l=none->Q (.ref l) (upd H l (.lst ys))
theorem iS:lF X (.type "list") (eH X.K):=by
 intro pins s σ H xs us Q I r h;obtain⟨b,p,ys,e,hq,q⟩:=h;exact Ml pins s σ H xs us Q I r ⟨p,ys,e,hq.or,q⟩
def iU(K:Frag):List V->Hp->VK->Prop:=λxs H Q=>∃p ys,xs=[.ref p]/\((SqL K H p ys/\∀l,H l=none->Q (.ref l) (upd H l (.tup ys)))\/(SqT K H p ys/\Q (.ref p) H))
theorem lO:lF X (.type "tuple") (iU X.K):=Mj
end
theorem Oz{K:Frag}{b:Bool}{a:Addr}{xs:List V}{g:TG}{tb:TS}{D:Ends}{σ:St}{H:Hp}(Pv:Nat->St->Hp->Prop)(h0:Pv 0 σ H)(hl:∀i σ H,i<=xs.length->Pv i σ H->SqB b K H a xs)
  (hs:∀i x σ H,xs[i]?=some x->Pv i σ H->g x σ H λσ2 H2=>tb {D with nx:=Pv (i+1),ct:=Pv (i+1),bk:=D.nx} σ2 H2)(hd:∀σ H,Pv xs.length σ H->D.nx σ H):
  ∃W:Nat->Nat->St->Hp->Prop,(∃m,W 0 m σ H)/\∀i m σ H,W i m σ H ->
   ((Its K b a).stop i H/\D.nx σ H)\/((Its K b a).go i H/\∃N:St->Hp->Prop,(∀σ' H',N σ' H'->∃m',m'<m/\W (i+1) m' σ' H')/\∀x H',(Its K b a).yld i H x H'->g x σ H' λσ2 H2=>tb {D with nx:=N,ct:=N,bk:=D.nx} σ2 H2):=by
 cases b
 ·exact Lw Pv h0 hl hs hd
 ·exact Lv Pv h0 hl hs hd
theorem Oy{K:Frag}{b:Bool}{a:Addr}{xs:List V}{g:TG}{tb:TS}{D:Ends}{σ:St}{H:Hp}(Pv:Nat->St->Hp->Prop)(h0:Pv 0 σ H)(hl:∀i σ H,i<=xs.length->Pv i σ H->SqB b K H a xs)
  (hs:∀i x p σ H,xs[i]?=some x->Pv i σ H->H p=none->g (.ref p) σ (upd H p (.tup [.int i,x])) λσ2 H2=>tb {D with nx:=Pv (i+1),ct:=Pv (i+1),bk:=D.nx} σ2 H2)(hd:∀σ H,Pv xs.length σ H->D.nx σ H):
  ∃W:Nat->Nat->St->Hp->Prop,(∃m,W 0 m σ H)/\∀i m σ H,W i m σ H ->
   ((Ite K b a).stop i H/\D.nx σ H)\/((Ite K b a).go i H/\∃N:St->Hp->Prop,(∀σ' H',N σ' H'->∃m',m'<m/\W (i+1) m' σ' H')/\∀x H',(Ite K b a).yld i H x H'->g x σ H' λσ2 H2=>tb {D with nx:=N,ct:=N,bk:=D.nx} σ2 H2):=by
 refine⟨λi m σ H=>m=xs.length-i/\i<=xs.length/\Pv i σ H,⟨xs.length,by simp,yU _,h0⟩,?_⟩;rintro i m σ H ⟨rfl,hi,p⟩;have q:=hl i σ H hi p
 by_cases hlt:i<xs.length
 ·refine .inr ⟨⟨xs,xs[i],q,by simp[hlt]⟩,Pv (i+1),λσ' H' p'=>⟨xs.length-(i+1),⋯,rfl,hlt,p'⟩,λx H' y=>?_⟩;obtain⟨r,x,rfl,hr,rfl,hx⟩:=y;exact hs i x r σ H (hx xs q) p hr
 ·have e:i=xs.length:=⋯
  subst e;exact .inl ⟨⟨xs,q,rfl⟩,hd σ H p⟩
def kA(a:Addr)(H H':Hp):Prop:=∀b o,b≠a->H b=some o->H' b=some o
theorem Same.x{a:Addr}{H H':Hp}(s:Same H H'):kA a H H':=λb o _ e=>s b o e
section
variable {J:It} {g:TG} {tt:TOx} {te:TE} {n:Nat} {fr:List (Str×Nat)} {σ:St} {a:Addr} {H:Hp} {Q:VK} {K:Frag}
theorem cO(len:Nat)(P:Nat->List V->Hp->Prop)(ha:H a=none)(hz:len<=1000)(h0:P 0 [] (upd H a (.lst [])))
  (hl:∀i zs H1,P i zs H1->zs.length<=i)(mono:∀i zs H1 H2,P i zs H1->kA a H1 H2->P i zs H2)
  (hgo:∀i H1,i<len->Same H H1->J.go i H1)(hstop:∀H1,Same H H1->J.stop len H1)
  (he:∀i H1 zs,i<len->Same H H1->H1 a=some (.lst zs)->P i zs H1->∀(ys:St) x H3,ys.length=n->J.yld i H1 x H3->∀C:Option V->Hp->Prop,
   (∀y H2,Same H1 H2->P (i+1) (zs++[y]) H2->C (some y) H2)->(∀H2,Same H1 H2->P (i+1) zs H2->C none H2) ->
   g x (ys++mE fr σ) H3 λσ4 H4=>(∃ys':St,ys'.length=n/\σ4=ys'++mE fr σ)/\tt σ4 H4 C)
  (hd:∀H1 ys,Same H H1->H1 a=some (.lst ys)->P len ys H1->Q (.ref a) H1):mT J g tt n fr σ a H Q:=by
 refine⟨λi m H1=>m=len-i/\i<=len/\Same H H1/\∃zs,H1 a=some (.lst zs)/\P i zs H1,⟨len,by simp,Nat.zero_le _,Same.new ha,[],pV,h0⟩,?_⟩;rintro i m H1 ⟨rfl,hi,s1,zs,ez,p⟩
 by_cases hlt:i<len
 ·refine .inr ⟨hgo i H1 hlt s1,λH'=>i+1<=len/\Same H H'/\∃zs,H' a=some (.lst zs)/\P (i+1) zs H',λH' q=>⟨len-(i+1),⋯,rfl,q⟩,λys x H3 hys hy=>?_⟩;refine he i H1 zs hlt s1 ez p ys x H3 hys hy _ (λy H2 s2 p2=>?_) λH2 s2 p2=>?_
  ·refine⟨zs,s2 _ _ ez,fZ (by have:=hl i zs H1 p;omega),hlt,Same.over ha (s1.trans s2),_,pV,mono _ _ _ _ p2 λb o hb e=>?_⟩;rw[oE hb];exact e
  ·exact⟨hlt,s1.trans s2,zs,s2 _ _ ez,p2⟩
 ·have e:i=len:=⋯
  subst e;exact .inl ⟨hstop H1 s1,hd H1 zs s1 ez p⟩
theorem cP(len:Nat)(R:Nat->V->Hp->Prop)(ha:H a=none)(hz:len<=1000)(mono:∀i y H1 H2,R i y H1->kA a H1 H2->R i y H2)
  (hgo:∀i H1,i<len->Same H H1->J.go i H1)(hstop:∀H1,Same H H1->J.stop len H1)
  (he:∀i H1 zs,i<len->Same H H1->H1 a=some (.lst zs)->∀(ys:St) x H3,ys.length=n->J.yld i H1 x H3->∀Q':VK,(∀y H2,Same H1 H2->R i y H2->Q' y H2) ->
   g x (ys++mE fr σ) H3 λσ4 H4=>(∃ys':St,ys'.length=n/\σ4=ys'++mE fr σ)/\te σ4 H4 Q')
  (hd:∀H1 ys,Same H H1->H1 a=some (.lst ys)->ys.length=len->(∀j y,ys[j]?=some y->R j y H1)->Q (.ref a) H1):mT J g (tEl te) n fr σ a H Q:=by
 refine cO len (λi zs H1=>zs.length=i/\∀j y,zs[j]?=some y->R j y H1) ha hz ⟨rfl,λj y e=>by simp at e⟩ (λi zs H1 p=>sQ p.1) (λi zs H1 H2 p s=>⟨p.1,λj y e=>mono _ _ _ _ (p.2 j y e) s⟩) hgo hstop ?_ λH1 ys s e p=>hd H1 ys s e p.1 p.2;intro i H1 zs hi s1 ez p ys x H3 hys hy C hC _;refine he i H1 zs hi s1 ez ys x H3 hys hy _ λy H2 s2 r=>hC y H2 s2 ⟨by simp[p.1],λj z e=>?_⟩
 by_cases hj:j<zs.length
 ·rw[yT hj]at e;exact mono _ _ _ _ (p.2 j z e) s2.x
 ·rw[yD ⋯]at e;have e0:j-zs.length=0:=by
   by_cases h0:j-zs.length=0
   ·exact h0
   ·rw[vI (by simp;omega)]at e;cases e
  rw[e0]at e;cases zR e;have:j=i:=by have:=p.1;omega
  rw[this];exact r
theorem oT{b:Bool}{l:Addr}{xs:List V}(R:Nat->V->Hp->Prop)(ha:H a=none)(hS:SqB b K H l xs)(hz:xs.length<=1000)(mono:∀i y H1 H2,R i y H1->kA a H1 H2->R i y H2)
  (he:∀i x H1 zs,xs[i]?=some x->Same H H1->H1 a=some (.lst zs)->∀Q':VK,(∀y H2,Same H1 H2->R i y H2->Q' y H2)->te (some x:: mE fr σ) H1 Q')
  (hd:∀H1 ys,Same H H1->H1 a=some (.lst ys)->ys.length=xs.length->(∀j y,ys[j]?=some y->R j y H1)->Q (.ref a) H1):mT (Its K b l) (pY 0) (tEl te) 1 fr σ a H Q:=by
 refine cP xs.length R ha hz mono (λi H1 hi s=>Its.go (hS.up s) (x:=xs[i]) (by simp[hi])) (λH1 s=>Its.stop (hS.up s) (zG _)) ?_ hd;intro i H1 zs hi s1 ez ys x H3 hys hy Q' hQ';obtain⟨e1,e2⟩:=Its.yld (hS.up s1) hy;subst e1
 match ys,hys with
 |[o],_=>exact⟨⟨[some x],rfl,rfl⟩,he i x H3 zs e2 s1 ez Q' hQ'⟩
theorem mG{lo:Int}{len:Nat}(R:Nat->V->Hp->Prop)(ha:H a=none)(hz:len<=1000)(mono:∀i y H1 H2,R i y H1->kA a H1 H2->R i y H2)
  (he:∀(i:Nat) H1 zs,i<len->Same H H1->H1 a=some (.lst zs)->∀Q':VK,(∀y H2,Same H1 H2->R i y H2->Q' y H2)->te (some (.int (lo+i)):: mE fr σ) H1 Q')
  (hd:∀H1 ys,Same H H1->H1 a=some (.lst ys)->ys.length=len->(∀j y,ys[j]?=some y->R j y H1)->Q (.ref a) H1):mT (Itr lo len) (pY 0) (tEl te) 1 fr σ a H Q:=by
 refine cP len R ha hz mono (λi H1 hi s=>hi) (λH1 s=>zG _) ?_ hd;intro i H1 zs hi s1 ez ys x H3 hys hy Q' hQ';obtain⟨e1,e2⟩:=hy;subst e1 e2
 match ys,hys with
 |[o],_=>exact⟨⟨[_],rfl,rfl⟩,he i H3 zs hi s1 ez Q' hQ'⟩
theorem Am{b1 b2:Bool}{l1 l2:Addr}{xs ys:List V}(R:Nat->V->Hp->Prop)(ha:H a=none)(hS1:SqB b1 K H l1 xs)(hS2:SqB b2 K H l2 ys)(hlen:xs.length=ys.length)(hz:xs.length<=1000)(mono:∀i y H1 H2,R i y H1->kA a H1 H2->R i y H2)
  (he:∀i x y H1 zs,xs[i]?=some x->ys[i]?=some y->Same H H1->H1 a=some (.lst zs)->∀Q':VK,(∀y H2,Same H1 H2->R i y H2->Q' y H2)->te (some x:: some y:: mE fr σ) H1 Q')
  (hd:∀H1 zs,Same H H1->H1 a=some (.lst zs)->zs.length=xs.length->(∀j y,zs[j]?=some y->R j y H1)->Q (.ref a) H1):
  mT (Itz K b1 l1 b2 l2) (gTup K 2 (nC (pY 0) (nC (pY 1) gNil))) (tEl te) 2 fr σ a H Q:=by
 refine cP xs.length R ha hz mono (λi H1 hi s=>⟨xs,ys,xs[i],ys[i],hS1.up s,hS2.up s,by simp[hi],by simp⟩) (λH1 s=>⟨xs,ys,hS1.up s,hS2.up s,.inl (by simp)⟩) ?_ hd;intro i H1 zs hi s1 ez os x H3 hos hy Q' hQ';obtain⟨p,x,y,rfl,hp,rfl,hx,hy⟩:=hy;refine⟨p,[x,y],rfl,SqT.of pV,rfl,x,[y],rfl,y,[],rfl,rfl,?_⟩
 match os,hos with
 |[o,o'],_ =>
  refine⟨⟨[some x,some y],rfl,rfl⟩,he i x y _ zs (hx xs (hS1.up s1)) (hy ys (hS2.up s1)) (s1.trans (Same.new hp)) (Same.new hp _ _ ez) Q' λy H2 s2 r=>hQ' y H2 ((Same.new hp).trans s2) r⟩
theorem Ox{b:Bool}{l:Addr}{xs:List V}(R:Nat->V->Hp->Prop)(ha:H a=none)(hS:SqB b K H l xs)(hz:xs.length<=1000)(mono:∀i y H1 H2,R i y H1->kA a H1 H2->R i y H2)
  (he:∀i x H1 zs,xs[i]?=some x->Same H H1->H1 a=some (.lst zs)->∀Q':VK,(∀y H2,Same H1 H2->R i y H2->Q' y H2)->te (some (.int i):: some x:: mE fr σ) H1 Q')
  (hd:∀H1 zs,Same H H1->H1 a=some (.lst zs)->zs.length=xs.length->(∀j y,zs[j]?=some y->R j y H1)->Q (.ref a) H1):
  mT (Ite K b l) (gTup K 2 (nC (pY 0) (nC (pY 1) gNil))) (tEl te) 2 fr σ a H Q:=by
 refine cP xs.length R ha hz mono (λi H1 hi s=>⟨xs,xs[i],hS.up s,by simp[hi]⟩) (λH1 s=>⟨xs,hS.up s,rfl⟩) ?_ hd;intro i H1 zs hi s1 ez os x H3 hos hy Q' hQ';obtain⟨p,x,rfl,hp,rfl,hx⟩:=hy;refine⟨p,[.int i,x],rfl,SqT.of pV,rfl,_,[x],rfl,x,[],rfl,rfl,?_⟩
 match os,hos with
 |[o,o'],_ =>
  refine⟨⟨[some (.int i),some x],rfl,rfl⟩,he i x _ zs (hx xs (hS.up s1)) (s1.trans (Same.new hp)) (Same.new hp _ _ ez) Q' λy H2 s2 r=>hQ' y H2 ((Same.new hp).trans s2) r⟩
end
def MatB(b1 b2:Bool)(K:Frag)(H:Hp)(a:Addr)(rows:List (LI')):Prop:=∃ps:LA,SqB b1 K H a (ps.map V.ref)/\ps.length=rows.length/\∀(i:Nat)(p:Addr)(r:LI'),ps[i]?=some p->rows[i]?=some r->SqB b2 K H p (r.map V.int)
theorem MatB.up{b1 b2:Bool}{K:Frag}{H H':Hp}{a:Addr}{rows:List (LI')}(h:MatB b1 b2 K H a rows)(s:Same H H'):MatB b1 b2 K H' a rows:=let ⟨ps,h1,h2,h3⟩:=h;⟨ps,h1.up s,h2,λi p r e1 e2=>(h3 i p r e1 e2).up s⟩
def RowR(a:Addr)(f:Nat->LI')(j:Nat)(y:V)(H:Hp):Prop:=∃p,y=.ref p/\p≠a/\H p=some (.lst ((f j).map V.int))
theorem RowR.mono{a:Addr}{f:Nat->LI'}(i:Nat)(y:V)(H1 H2:Hp)(h:RowR a f i y H1)(s:kA a H1 H2):RowR a f i y H2:=let ⟨p,e,n,q⟩:=h;⟨p,e,n,s _ _ n q⟩
noncomputable def iT:Nat->PyData->Bool
 |_,.int _=>true
 |n+1,.list xs=>xs.all (iT n)
 |n+1,.tuple xs=>xs.all (iT n)
 |_,_=>false
theorem jI:∀(n:Nat)(d:PyData),iT n d=true->d.canLay0=true/\d.depth<=n
 |0,.int _,_=>by simp[PyData.canLay0,PyData.depth]
 |n+1,.int _,_=>by simp[PyData.canLay0,PyData.depth]
 | n+1,.list xs,h=>by
  have all:∀ys:List PyData,ys.all (iT n)=true->PyData.canLayAll0 ys=true/\PyData.depthAll ys<=n:=by
   intro ys
   induction ys with
   |nil=>intro _;simp[PyData.canLayAll0,PyData.depthAll]
   |cons y r ih =>
    intro hy;rw[xC,zQ]at hy;have h1:=jI n y hy.1;have h2:=ih hy.2;simp only[PyData.canLayAll0,PyData.depthAll,Bool.and_eq_true];exact⟨⟨h1.1,h2.1⟩,⋯⟩
  have:=all xs (by simpa [iT]using h);simp only[PyData.canLay0,PyData.depth];exact⟨this.1,⋯⟩
 | n+1,.tuple xs,h=>by
  have all:∀ys:List PyData,ys.all (iT n)=true->PyData.canLayAll0 ys=true/\PyData.depthAll ys<=n:=by
   intro ys
   induction ys with
   |nil=>intro _;simp[PyData.canLayAll0,PyData.depthAll]
   |cons y r ih =>
    intro hy;rw[xC,zQ]at hy;have h1:=jI n y hy.1;have h2:=ih hy.2;simp only[PyData.canLayAll0,PyData.depthAll,Bool.and_eq_true];exact⟨⟨h1.1,h2.1⟩,⋯⟩
  have:=all xs (by simpa [iT]using h);simp only[PyData.canLay0,PyData.depth];exact⟨this.1,⋯⟩
theorem cQ:∀(n:Nat)(d d':PyData),iT n d=true->iT n d'=true->SeqAt.noMix d d'=true:=by
 intro n
 induction n with
 |zero=>intro d d' h h';cases d <;> simp[iT]at h <;> cases d' <;> simp[iT]at h' <;> simp[SeqAt.noMix]
 | succ n ih =>
  have all:∀ys zs:List PyData,ys.all (iT n)=true->zs.all (iT n)=true->SeqAt.noMixAll ys zs=true:=by
   intro ys
   induction ys with
   |nil=>intro zs _ _;cases zs <;> simp[SeqAt.noMixAll]
   | cons y r ihr =>
    intro zs hy hz;cases zs with
    |nil=>simp[SeqAt.noMixAll]
    |cons z t =>
     rw[xC,zQ]at hy hz;simp only[SeqAt.noMixAll,Bool.and_eq_true];exact⟨ih y z hy.1 hz.1,ihr t hy.2 hz.2⟩
  intro d d' h h';cases d <;> simp only[iT,Bool.false_eq_true]at h <;> cases d' <;> simp only[iT,Bool.false_eq_true]at h' <;> simp only[SeqAt.noMix]
  ·exact all _ _ h h'
  ·exact all _ _ h h'
theorem cR:∀(n:Nat)(d d':PyData),iT n d=true->iT n d'=true->(same d d'=true↔d=d'):=by
 intro n
 induction n with
 |zero=>intro d d' h h';cases d <;> simp[iT]at h <;> cases d' <;> simp[iT]at h' <;> simp[same]
 | succ n ih =>
  have all:∀ys zs:List PyData,ys.all (iT n)=true->zs.all (iT n)=true->(sameAll ys zs=true↔ys=zs):=by
   intro ys
   induction ys with
   |nil=>intro zs _ _;cases zs <;> simp[sameAll]
   | cons y r ihr =>
    intro zs hy hz;cases zs with
    |nil=>simp[sameAll]
    |cons z t =>
     rw[xC,zQ]at hy hz;simp only[sameAll,Bool.and_eq_true,List.cons.injEq];rw[ih y z hy.1 hz.1,ihr t hy.2 hz.2]
  intro d d' h h';cases d <;> simp only[iT,Bool.false_eq_true]at h <;> cases d' <;> simp only[iT,Bool.false_eq_true]at h' <;> simp only[same,beq_iff_eq,PyData.int.injEq,PyData.list.injEq,PyData.tuple.injEq,reduceCtorEq,Bool.false_eq_true]
  ·exact all _ _ h h'
  ·exact all _ _ h h'
theorem cS{n:Nat}{d:PyData}(hn:n<=64)(h:iT n d=true):SeqAt.shaped d=true:=by
 have:=jI n d h;unfold SeqAt.shaped;rw[zQ];exact⟨this.1,zK ⋯⟩
section
variable {K:Frag} {H:Hp} {x y:V} {d d':PyData} {Q:VK}
theorem Fq(n:Nat)(hn:n<=64)(h1:Dt K H x d)(h2:Dt K H y d')(t1:iT n d=true)(t2:iT n d'=true){b:Bool}(hb:b=true↔d=d')(q:Q (.bl b) H):rEqD K x y H Q:=by
 refine⟨d,d',h1,h2,cS hn t1,cS hn t2,cQ n d d' t1 t2,?_⟩;have:=cR n d d' t1 t2;have e:same d d'=b:=by
  cases hs:same d d' <;> cases b <;> simp_all
 rw[e];exact q
theorem Ow(n:Nat)(hn:n<=64)(h1:Dt K H x d)(h2:Dt K H y d')(t1:iT n d=true)(t2:iT n d'=true){b:Bool}(hb:b=true↔d=d')(q:Q (.bl (!b)) H):rNeD K x y H Q:=by
 refine⟨d,d',h1,h2,cS hn t1,cS hn t2,cQ n d d' t1 t2,?_⟩;have:=cR n d d' t1 t2;have e:same d d'=b:=by
  cases hs:same d d' <;> cases b <;> simp_all
 rw[e];exact q
end
noncomputable def seqD(b:Bool)(ds:List PyData):PyData:=match b with|false=>.list ds|true=>.tuple ds
noncomputable def kY(b:Bool)(ns:LI'):PyData:=seqD b (ns.map PyData.int)
noncomputable def matD(b1 b2:Bool)(rows:List (LI')):PyData:=seqD b1 (rows.map (kY b2))
theorem Fp{b:Bool}{xs ys:List PyData}:seqD b xs=seqD b ys↔xs=ys:=by cases b <;> simp[seqD]
theorem Al{α β:Type}{f:α->β}(hf:∀x y,f x=f y->x=y):∀{xs ys:List α},xs.map f=ys.map f↔xs=ys
 |[],[]=>by simp
 |[],_:: _=>by simp
 |_:: _,[]=>by simp
 |x:: r,y:: t=>by
  rw[zL,zL,yI,yI,Al hf];exact⟨λh=>⟨hf _ _ h.1,h.2⟩,λh=>⟨by rw[h.1],h.2⟩⟩
theorem Ak{b:Bool}{ns ms:LI'}:kY b ns=kY b ms↔ns=ms:=by
 unfold kY;rw[Fp,Al λx y h=>by injection h]
theorem Ov{b1 b2:Bool}{A B:List (LI')}:matD b1 b2 A=matD b1 b2 B↔A=B:=by
 unfold matD;rw[Fp,Al λx y h=>Ak.mp h]
theorem Aj(b:Bool)(n:Nat)(ns:LI'):iT (n+1) (kY b ns)=true:=by
 have:(ns.map PyData.int).all (iT n)=true:=by
  rw[vM];intro d hd;obtain⟨i,_,rfl⟩:=qW.mp hd;cases n <;> rfl
 cases b <;> simpa [kY,seqD,iT]using this
theorem Dt.seqB{b:Bool}{K:Frag}{H:Hp}{a:Addr}{xs:List V}{ds:List PyData}(h:SqB b K H a xs)(hd:Dts K H xs ds):Dt K H (.ref a) (seqD b ds):=by
 cases b
 ·exact .lst h hd
 ·exact .tup h hd
theorem Dt.intsB{b:Bool}{K:Frag}{H:Hp}{a:Addr}{ns:LI'}(h:SqB b K H a (ns.map V.int)):Dt K H (.ref a) (kY b ns):=Dt.seqB h (Dts.ints ns)
theorem Dt.matB{b1 b2:Bool}{K:Frag}{H:Hp}{a:Addr}{rows:List (LI')}(h:MatB b1 b2 K H a rows):Dt K H (.ref a) (matD b1 b2 rows):=by
 obtain⟨ps,h1,h2,h3⟩:=h;refine Dt.seqB h1 ?_;clear h1
 induction ps generalizing rows with
 |nil =>
  cases rows with
  |nil=>exact .nil
  |cons r t=>simp at h2
 | cons p ps ih =>
  cases rows with
  |nil=>simp at h2
  |cons r t =>
   refine .cons (Dt.intsB (h3 0 p r rfl rfl)) (ih (by simpa using h2) λi q z e1 e2=>h3 (i+1) q z (by simpa using e1) (by simpa using e2))
section
variable {wi:TI} {g:TG} {tt:TOx} {te:TE} {tc:TT} {n:Nat} {fr:List (Str×Nat)} {σ:St} {H:Hp} {Q:VK}
theorem oG(h:∀B:TE,B=te->wi σ H λJ H1=>∀a,H1 a=none->mT J g (tEl B) n fr σ a H1 Q):nE wi g (tEl te) n fr σ H Q:=h _ rfl
theorem Fo(h:∀(C:TT)(B:TE),C=tc->B=te->wi σ H λJ H1=>∀a,H1 a=none->mT J g (jS C B) n fr σ a H1 Q):nE wi g (jS tc te) n fr σ H Q:=h _ _ rfl rfl
end
noncomputable def seqO(b:Bool)(xs:List V):HO:=match b with|false=>.lst xs|true=>.tup xs
def rSlB(K:Frag):V->Option Int->Option Int->Hp->VK->Prop:=λx lo hi H Q=>∃b a xs,x=.ref a/\SqB b K H a xs /\
 (b=true->¬ (HT.sIx xs.length 0 lo=0/\HT.sIx xs.length xs.length hi=xs.length))/\∀p,H p=none->Q (.ref p) (upd H p (seqO b (cutV xs lo hi)))
theorem sl_B{X:Cx}:SlR X (rSlB X.K):=by
 intro pins s σ H x v vl vu lo hi sl Q I rx hs pl pu h;obtain⟨b,a,xs,e,hq,hw,q⟩:=h;cases b
 ·exact Mo pins s σ H x v vl vu lo hi sl Q I rx hs pl pu ⟨a,xs,e,hq,q⟩
 ·exact Mx pins s σ H x v vl vu lo hi sl Q I rx hs pl pu ⟨a,xs,e,hq,hw rfl,q⟩
def MatL(H:Hp)(a:Addr)(rows:List (LI')):Prop:=∃ps:LA,H a=some (.lst (ps.map V.ref))/\ps.length=rows.length/\∀(i:Nat)(p:Addr)(r:LI'),ps[i]?=some p->rows[i]?=some r->p≠a/\H p=some (.lst (r.map V.int))
theorem MatL.b{K:Frag}{H:Hp}{a:Addr}{rows:List (LI')}(h:MatL H a rows):MatB false false K H a rows:=let ⟨ps,h1,h2,h3⟩:=h;⟨ps,SqB.lst h1,h2,λi p r e1 e2=>SqB.lst (h3 i p r e1 e2).2⟩
theorem MatL.up{H H':Hp}{a:Addr}{rows:List (LI')}(h:MatL H a rows)(s:Same H H'):MatL H' a rows:=let ⟨ps,h1,h2,h3⟩:=h;⟨ps,s _ _ h1,h2,λi p r e1 e2=>⟨(h3 i p r e1 e2).1,s _ _ (h3 i p r e1 e2).2⟩⟩
theorem MatL.of{H:Hp}{a:Addr}{f:Nat->LI'}{ys:List V}(h:H a=some (.lst ys))(hr:∀(j:Nat) y,ys[j]?=some y->RowR a f j y H):MatL H a ((List.range ys.length).map f):=by
 have hp:∃ps:LA,ys=ps.map V.ref:=by
  clear h;have:∀(zs:List V)(k:Nat),(∀(j:Nat) y,zs[j]?=some y->RowR a f (j+k) y H)->∃ps:LA,zs=ps.map V.ref:=by
   intro zs
   induction zs with
   |nil=>intro k _;exact⟨[],rfl⟩
   | cons z r ih =>
    intro k hz;obtain⟨p,e,_⟩:=hz 0 z rfl;obtain⟨ps,e2⟩:=ih (k+1) λj y q=>by
     have:=hz (j+1) y (by simpa using q)
     rwa[tZ,Nat.add_comm 1 k]at this
    exact⟨p:: ps,by rw[e,e2];rfl⟩
  exact this ys 0 hr
 obtain⟨ps,rfl⟩:=hp;refine⟨ps,h,by simp,λi p r e1 e2=>?_⟩;obtain⟨p',e,n,q⟩:=hr i (.ref p) (by simp[e1]);cases e;have hi:i<ps.length:=(pG.mp e1).1;have:r=f i:=by
  rw[zC,yP,yO hi]at e2;exact(zR e2).symm
 rw[this];exact⟨n,q⟩
theorem MatB.row{b1 b2:Bool}{K:Frag}{H:Hp}{a:Addr}{rows:List (LI')}(h:MatB b1 b2 K H a rows){i:Nat}{r:LI'}(e:rows[i]?=some r):∃ps:LA,∃p,SqB b1 K H a (ps.map V.ref)/\(ps.map V.ref)[i]?=some (.ref p)/\(ps.map V.ref).length=rows.length/\SqB b2 K H p (r.map V.int):=by
 obtain⟨ps,h1,h2,h3⟩:=h;have hi:i<ps.length:=by have:=(pG.mp e).1;omega
 exact⟨ps,ps[i],h1,by simp[hi],by simp[h2],h3 i _ r (by simp[hi]) e⟩
theorem MatB.walk{b1 b2:Bool}{K:Frag}{H:Hp}{a:Addr}{rows:List (LI')}(h:MatB b1 b2 K H a rows):∃xs:List V,SqB b1 K H a xs/\xs.length=rows.length/\∀(i:Nat) x,xs[i]?=some x->∃p r,x=.ref p/\rows[i]?=some r/\SqB b2 K H p (r.map V.int):=by
 obtain⟨ps,h1,h2,h3⟩:=h;refine⟨_,h1,by simp[h2],λi x e=>?_⟩;rw[zC]at e;cases q:ps[i]? with
 |none=>rw[q]at e;cases e
 |some p =>
  rw[q]at e;have hi:i<rows.length:=by have:=(pG.mp q).1;omega
  exact⟨p,rows[i],(zR e).symm,by simp[hi],h3 i p _ q (by simp[hi])⟩
theorem nY{α:Type}{xs:List α}{k:Nat}{x:α}{i:Int}(h:xs[k]?=some x)(hi:i=k):atI xs i=some x:=by
 subst hi;exact Mw h
theorem nQ{ns:LI'}{i:Nat}{x:V}(h:(ns.map V.int)[i]?=some x):∃n,ns[i]?=some n/\x=.int n:=by
 rw[zC]at h;cases e:ns[i]? with
 |none=>rw[e]at h;cases h
 |some n=>rw[e]at h;exact⟨n,rfl,(zR h).symm⟩
theorem mU{ns:LI'}{i:Nat}{n:Int}(h:ns[i]?=some n):(ns.map V.int)[i]?=some (.int n):=by rw[zC,h];rfl
theorem Ou{ns:LI'}{k:Nat}{n:Int}(h:ns[k]?=some n):ns.getD k 0=n:=by rw[uR,h];rfl
theorem getD_at{ns:LI'}{k:Nat}(h:k<ns.length):ns[k]?=some (ns.getD k 0):=by simp[h]
theorem getD_mem{ns:LI'}{k:Nat}(h:k<ns.length):ns.getD k 0∈ns:=by
 rw[show ns.getD k 0=ns[k] by simp[h]];exact xL h
noncomputable def colI(k:Nat)(rows:List (LI')):LI':=rows.map λr=>r.getD k 0
noncomputable def dotI(ms ns:LI'):Int:=(List.zipWith (·*·) ms ns).sum
noncomputable def iE(w:Nat)(rows:List (LI')):List (LI'):=(List.range w).map λk=>colI k rows
noncomputable def mulM(w:Nat)(A B:List (LI')):List (LI'):=A.map λr=>(List.range w).map λk=>dotI r (colI k B)
section
variable {K:Frag} {g:TG} {tb:TS} {σ:St} {H:Hp} {nx:St->Hp->Prop} {rt:VK}
abbrev cT(J:It)(g:TG)(tb:TS)(nx:St->Hp->Prop)(rt:VK)(σ:St)(H:Hp):Prop:=∃W:Nat->Nat->St->Hp->Prop,(∃m,W 0 m σ H)/\∀i m σ H,W i m σ H ->
 (J.stop i H/\nx σ H)\/(J.go i H/\∃N:St->Hp->Prop,(∀σ' H',N σ' H'->∃m',m'<m/\W (i+1) m' σ' H')/\∀x H',J.yld i H x H'->g x σ H' λσ2 H2=>tb {nx:=N,rt:=rt,bk:=nx,ct:=N} σ2 H2)
theorem Fn{lo:Int}{n:Nat}(Pv:Nat->St->Hp->Prop)(h0:Pv 0 σ H)
  (hs:∀i σ H,i<n->Pv i σ H->g (.int (lo+i)) σ H λσ2 H2=>tb {nx:=Pv (i+1),rt:=rt,bk:=nx,ct:=Pv (i+1)} σ2 H2)(hd:∀σ H,Pv n σ H->nx σ H):cT (Itr lo n) g tb nx rt σ H:=
 Lu (D:={nx:=nx,rt:=rt,bk:=nx,ct:=nx}) Pv h0 hs hd
theorem kI{b:Bool}{a:Addr}{xs:List V}(Pv:Nat->St->Hp->Prop)(h0:Pv 0 σ H)(hl:∀i σ H,i<=xs.length->Pv i σ H->SqB b K H a xs)
  (hs:∀i x σ H,xs[i]?=some x->Pv i σ H->g x σ H λσ2 H2=>tb {nx:=Pv (i+1),rt:=rt,bk:=nx,ct:=Pv (i+1)} σ2 H2)(hd:∀σ H,Pv xs.length σ H->nx σ H):cT (Its K b a) g tb nx rt σ H:=
 Oz (D:={nx:=nx,rt:=rt,bk:=nx,ct:=nx}) Pv h0 hl hs hd
theorem Fm{b:Bool}{a:Addr}{xs:List V}(Pv:Nat->St->Hp->Prop)(h0:Pv 0 σ H)(hl:∀i σ H,i<=xs.length->Pv i σ H->SqB b K H a xs)
  (hs:∀i x p σ H,xs[i]?=some x->Pv i σ H->H p=none->g (.ref p) σ (upd H p (.tup [.int i,x])) λσ2 H2=>tb {nx:=Pv (i+1),rt:=rt,bk:=nx,ct:=Pv (i+1)} σ2 H2)(hd:∀σ H,Pv xs.length σ H->nx σ H):cT (Ite K b a) g tb nx rt σ H:=
 Oy (D:={nx:=nx,rt:=rt,bk:=nx,ct:=nx}) Pv h0 hl hs hd
end
theorem cU{b1 b2:Bool}{K:Frag}{H:Hp}{a:Addr}{rows:List (LI')}{i k:Nat}{r:LI'}{x:Int}{I J:Int}{Q:VK}(h:MatB b1 b2 K H a rows)(e:rows[i]?=some r)(e2:r[k]?=some x)(hi:I=i)(hk:J=k)(q:Q (.int x) H):
  rIxB K (.ref a) (.int I) H λv H1=>rIxB K v (.int J) H1 Q:=by
 obtain⟨ps,p,k1,k2,k3,k4⟩:=h.row e;exact⟨b1,a,_,_,_,rfl,rfl,k1,nY k2 hi,b2,p,_,_,_,rfl,rfl,k4,nY (mU e2) hk,q⟩
theorem Ot{b1 b2:Bool}{K:Frag}{H:Hp}{a:Addr}{rows:List (LI')}{i:Nat}{r:LI'}{I:Int}{Q:VK}(h:MatB b1 b2 K H a rows)(e:rows[i]?=some r)(hi:I=i)(q:∀p,SqB b2 K H p (r.map V.int)->Q (.ref p) H):
  rIxB K (.ref a) (.int I) H Q:=by
 obtain⟨ps,p,k1,k2,k3,k4⟩:=h.row e;exact⟨b1,a,_,_,_,rfl,rfl,k1,nY k2 hi,q p k4⟩
theorem jJ{b1 b2:Bool}{K:Frag}{H:Hp}{a:Addr}{rows:List (LI')}{Q:VK}(h:MatB b1 b2 K H a rows)(q:Q (.int rows.length) H):lN K [.ref a] H Q:=by
 obtain⟨ps,h1,h2,h3⟩:=h;refine⟨b1,a,_,rfl,h1,?_⟩;rw[yP,h2];exact q
theorem nU{b:Bool}{K:Frag}{H:Hp}{a:Addr}{ns:LI'}{Q:VK}(h:SqB b K H a (ns.map V.int))(q:Q (.int ns.length) H):lN K [.ref a] H Q:=by
 refine⟨b,a,_,rfl,h,?_⟩;rw[yP];exact q
noncomputable def Itq(lo st:Int)(n:Nat):It:=⟨λi _=>i<n,λi H x H'=>H'=H/\x=.int (lo+i*st),λi _=>n<=i⟩
section
variable {g:TG} {tb:TS} {σ:St} {H:Hp} {nx:St->Hp->Prop} {rt:VK}
theorem fr_step{lo st:Int}{n:Nat}(Pv:Nat->St->Hp->Prop)(h0:Pv 0 σ H)
  (hs:∀i σ H,i<n->Pv i σ H->g (.int (lo+i*st)) σ H λσ2 H2=>tb {nx:=Pv (i+1),rt:=rt,bk:=nx,ct:=Pv (i+1)} σ2 H2)(hd:∀σ H,Pv n σ H->nx σ H):cT (Itq lo st n) g tb nx rt σ H:=by
 refine⟨λi m σ H=>m=n-i/\i<=n/\Pv i σ H,⟨n,by simp,yU _,h0⟩,?_⟩;rintro i m σ H ⟨rfl,hi,p⟩
 by_cases hlt:i<n
 ·refine .inr ⟨hlt,Pv (i+1),λσ' H' p'=>⟨n-(i+1),⋯,rfl,hlt,p'⟩,λx H' y=>?_⟩;obtain⟨e,y⟩:=y;subst e y;exact hs i σ _ hlt p
 ·have e:i=n:=⋯
  subst e;exact .inl ⟨zG _,hd σ H p⟩
end
def lI(a:Addr)(H:Hp)(zs:List V)(M:List (LI')):Prop:=∃ps:LA,zs=ps.map V.ref/\ps.length=M.length/\∀(j:Nat)(p:Addr)(r:LI'),ps[j]?=some p->M[j]?=some r->p≠a/\H p=some (.lst (r.map V.int))
theorem lI.nil{a:Addr}{H:Hp}:lI a H [] []:=⟨[],rfl,rfl,λj p r e=>by simp at e⟩
theorem lI.len{a:Addr}{H:Hp}{zs:List V}{M:List (LI')}(h:lI a H zs M):zs.length=M.length:=let ⟨ps,e,l,_⟩:=h;by rw[e,yP,l]
theorem lI.mono{a:Addr}{H H':Hp}{zs:List V}{M:List (LI')}(h:lI a H zs M)(s:kA a H H'):lI a H' zs M:=let ⟨ps,e,l,q⟩:=h;⟨ps,e,l,λj p r e1 e2=>⟨(q j p r e1 e2).1,s _ _ (q j p r e1 e2).1 (q j p r e1 e2).2⟩⟩
theorem lI.snoc{a p:Addr}{H:Hp}{zs:List V}{M:List (LI')}{r:LI'}(h:lI a H zs M)(ne:p≠a)(hp:H p=some (.lst (r.map V.int))):lI a H (zs++[.ref p]) (M++[r]):=by
 obtain⟨ps,rfl,h2,h3⟩:=h;refine⟨ps++[p],by simp,by simp[h2],λi q z e1 e2=>?_⟩
 by_cases hi:i<ps.length
 ·rw[yT hi]at e1;rw[yT ⋯]at e2;exact h3 i q z e1 e2
 ·have e0:i=ps.length:=by
   have:=(pG.mp e1).1;simp at this;omega
  subst e0;rw[yD (zG _)]at e1;rw[h2,yD (zG _)]at e2;simp at e1 e2;subst e1 e2;exact⟨ne,hp⟩
theorem lI.mat{a:Addr}{H:Hp}{zs:List V}{M:List (LI')}(h:H a=some (.lst zs))(r:lI a H zs M):MatL H a M:=by
 obtain⟨ps,rfl,h2,h3⟩:=r;exact⟨ps,h,h2,h3⟩
theorem eI(ns:LI')(lo hi:Option Int):cutV (ns.map V.int) lo hi=((ns.drop (HT.sIx ns.length 0 lo)).take (HT.sIx ns.length ns.length hi-HT.sIx ns.length 0 lo)).map V.int:=by
 unfold cutV;rw[yP,List.map_take,List.map_drop]
theorem Os{ns:LI'}{k:Nat}(h:k<=ns.length):cutV (ns.map V.int) none (some (k:Int))=(ns.take k).map V.int:=by
 rw[eI,HT.sIx_none,HT.sIx_nat,Nat.min_eq_left h];simp
theorem Oq{ns:LI'}{k:Nat}(h:k<=ns.length):cutV (ns.map V.int) (some (k:Int)) none=(ns.drop k).map V.int:=by
 rw[eI,HT.sIx_none,HT.sIx_nat,Nat.min_eq_left h,wN (by simp)]
section
variable {K:Frag} {H:Hp} {a a1:Addr} {M:List (LI')} {σ:St} {Q:VK} {b1 b2:Bool}
def MatT(H:Hp)(a:Addr)(rows:List (LI')):Prop:=∃ps:LA,H a=some (.lst (ps.map V.ref))/\ps.length=rows.length/\∀(i:Nat)(p:Addr)(r:LI'),ps[i]?=some p->rows[i]?=some r->H p=some (.tup (r.map V.int))
theorem Op(hM:MatB b1 false K H a M)(hl:M.length<=1000)(ha1:H a1=none)(hQ:∀H1,Same H H1->MatT H1 a1 M->Q (.ref a1) H1):mT (Its K b1 a) (pY 0) (tEl (tCB (iU K) (pW (tVar 0) tNil))) 1 [] σ a1 H Q:=by
 obtain⟨xs,x1,x2,x3⟩:=hM.walk;refine oT (λj y H1=>∃p r,y=.ref p/\M[j]?=some r/\p≠a1/\H1 p=some (.tup (r.map V.int))) ha1 x1 ⋯ (λi y H1 H2⟨p,r,e1,e2,e3,e4⟩s=>⟨p,r,e1,e2,e3,s _ _ e3 e4⟩) ?_ ?_
 ·intro i x H1 zs ex s1 ez Q' hQ';obtain⟨p,r,rfl,er,hp⟩:=x3 i x ex;exact⟨_,rfl,p,_,rfl,.inl ⟨hp.up s1,λl hl1=>hQ' _ _ (Same.new hl1) ⟨l,r,rfl,er,yE (nK ez hl1),pV⟩⟩⟩
 ·intro H1 ys s1 e1 hly hr1;have hps:∃ps:LA,ys=ps.map V.ref:=by
   clear e1 hly;have:∀(zs:List V),(∀(j:Nat) y,zs[j]?=some y->∃p:Addr,y=.ref p)->∃ps:LA,zs=ps.map V.ref:=by
    intro zs
    induction zs with
    |nil=>intro _;exact⟨[],rfl⟩
    |cons z r ih =>
     intro hz;obtain⟨p,e⟩:=hz 0 z rfl;obtain⟨ps,e2⟩:=ih λj y q=>hz (j+1) y (by simpa using q);exact⟨p:: ps,by rw[e,e2];rfl⟩
   exact this ys λj y e=>let ⟨p,r,e1,_⟩:=hr1 j y e;⟨p,e1⟩
  obtain⟨ps,rfl⟩:=hps;refine hQ H1 s1 ⟨ps,e1,by simp at hly;omega,λi p r e2 e3=>?_⟩;obtain⟨p',r',e4,e5,_,e6⟩:=hr1 i (.ref p) (by simp[e2]);cases e4;rw[e3]at e5;cases e5;exact e6
theorem MatT.tuple{l:Addr}(h:MatT H a M)(hl:H l=none):∃zs,H a=some (.lst zs)/\MatB true true K (upd H l (.tup zs)) l M:=by
 obtain⟨ps,h1,h2,h3⟩:=h;exact⟨_,h1,ps,SqB.tup pV,h2,λi p r e1 e2=>SqB.tup (Same.new hl _ _ (h3 i p r e1 e2))⟩
end
theorem Oo{X:Cx}{x:Str}{v:V}{pos:Pos}(hg:Gl X x)(h:∃u,X.mg x=some u/\RelV v u)(hd:(x == ("__debug__" :Str))=false:=by decide):PE X (.Name x pos) (tC v):=by
 obtain⟨u,e,r⟩:=h;exact Kk hg e r hd
def MkI(te:TE)(n:Int):Prop:=∀σ H Q,Q (.int n) H->te σ H Q
def MkIs(ta:TA)(ns:LI'):Prop:=∀σ H Q,Q (ns.map V.int) H->ta σ H Q
def MkR(te:TE)(ns:LI'):Prop:=∀σ H Q,(∀p H',Same H H'->H p=none->H' p=some (.lst (ns.map V.int))->Q (.ref p) H')->te σ H Q
theorem MkR.of{ta:TA}{ns:LI'}(h:MkIs ta ns)(hz:ns.length<=1000):MkR (tLst ta) ns:=λσ H Q q=>h σ H _ ⟨by rw[yP];exact xR (fZ hz),λl hl=>q l _ (Same.new hl) hl pV⟩
def MkRs(ta:TA)(M:List (LI')):Prop:=∀σ H Q,(∀ps H',Same H H'->RefRowsN H H' ps M->Q (ps.map V.ref) H')->ta σ H Q
where RefRowsN (H H':Hp) (ps:LA) (M:List (LI')):Prop:=ps.length=M.length/\∀(j:Nat)(p:Addr)(r:LI'),ps[j]?=some p->M[j]?=some r->H' p=some (.lst (r.map V.int))
theorem MkRs.nil:MkRs tNil []:=λ_ H Q q=>q [] H (Same.refl _) ⟨rfl,λj p r e=>by simp at e⟩
theorem MkRs.cons{te:TE}{ta:TA}{ns:LI'}{M:List (LI')}(h:MkR te ns)(h2:MkRs ta M):MkRs (pW te ta) (ns:: M):=λσ H Q q=>h σ H _ λp H1 s1 hp e1=>h2 σ H1 _ λps H2 s2 r=>q (p:: ps) H2 (s1.trans s2) ⟨by simp[r.1],λj p' r' e e'=>by
 cases j with
 |zero=>simp at e e';subst e e';exact s2 _ _ e1
 |succ j=>exact r.2 j p' r' (by simpa using e) (by simpa using e')⟩
def MkM(te:TE)(M:List (LI')):Prop:=∀σ H Q,(∀p H',Same H H'->H p=none->MatL H' p M->Q (.ref p) H')->te σ H Q
theorem MkM.of{ta:TA}{M:List (LI')}(h:MkRs ta M)(hz:M.length<=1000):MkM (tLst ta) M:=λσ H Q q=>h σ H _ λps H1 s1 r=>⟨by rw[yP,r.1];exact xR (fZ hz),λl hl=>by
 have hn:H l=none:=by cases e:H l with|none=>rfl|some o=>rw[s1 _ _ e]at hl;cases hl
 exact q l _ (s1.trans (Same.new hl)) hn ⟨ps,pV,r.1,λi p z e1 e2=>⟨nK (r.2 i p z e1 e2) hl,Same.new hl _ _ (r.2 i p z e1 e2)⟩⟩⟩
def Mats(H:Hp)(p:Addr)(Ms:List (List (LI'))):Prop:=∃ps:LA,H p=some (.lst (ps.map V.ref))/\ps.length=Ms.length/\∀(i:Nat)(q:Addr)(M:List (LI')),ps[i]?=some q->Ms[i]?=some M->MatL H q M
theorem Mats.up{H H':Hp}{p:Addr}{Ms:List (List (LI'))}(h:Mats H p Ms)(s:Same H H'):Mats H' p Ms:=let ⟨ps,h1,h2,h3⟩:=h;⟨ps,s _ _ h1,h2,λi q M e1 e2=>(h3 i q M e1 e2).up s⟩
def MkMs(ta:TA)(Ms:List (List (LI'))):Prop:=∀σ H Q,(∀(ps:LA) H',Same H H'->ps.length=Ms.length->(∀(i:Nat)(q:Addr)(M:List (LI')),ps[i]?=some q->Ms[i]?=some M->MatL H' q M)->Q (ps.map V.ref) H')->ta σ H Q
theorem MkMs.nil:MkMs tNil []:=λ_ H Q q=>q [] H (Same.refl _) rfl λj p r e=>by simp at e
theorem MkMs.cons{te:TE}{ta:TA}{M:List (LI')}{Ms:List (List (LI'))}(h:MkM te M)(h2:MkMs ta Ms):MkMs (pW te ta) (M:: Ms):=λσ H Q q=>h σ H _ λp H1 s1 _ e1=>h2 σ H1 _ λps H2 s2 l r=>q (p:: ps) H2 (s1.trans s2) (by simp[l]) λj p' r' e e'=>by
 cases j with
 |zero=>simp at e e';subst e e';exact e1.up s2
 |succ j=>exact r j p' r' (by simpa using e) (by simpa using e')
theorem MkMs.lst{ta:TA}{Ms:List (List (LI'))}(h:MkMs ta Ms)(hz:Ms.length<=1000){σ:St}{H:Hp}{Q:VK}(q:∀p H',Same H H'->Mats H' p Ms->Q (.ref p) H'):tLst ta σ H Q:=h σ H _ λps H1 s1 l r=>⟨by rw[yP,l];exact xR (fZ hz),λa ha =>
 q a _ (s1.trans (Same.new ha)) ⟨ps,pV,l,λi q M e1 e2=>(r i q M e1 e2).up (Same.new ha)⟩⟩
theorem Mats.at{K:Frag}{H:Hp}{p:Addr}{Ms:List (List (LI'))}{i:Nat}{M:List (LI')}{I:Int}{Q:VK}(h:Mats H p Ms)(e:Ms[i]?=some M)(hi:I=i)(k:∀q,MatL H q M->Q (.ref q) H):rIxB K (.ref p) (.int I) H Q:=by
 obtain⟨ps,h1,h2,h3⟩:=h;have hlt:i<ps.length:=by have:=(pG.mp e).1;omega
 exact⟨false,p,_,_,_,rfl,rfl,SqB.lst h1,nY (show(ps.map V.ref)[i]?=some (.ref ps[i]) by simp[hlt]) hi,k _ (h3 i _ M (by simp[hlt]) e)⟩
def MatD(H0 H:Hp)(a:Addr)(rows:List (LI')):Prop:=∃ps:LA,H a=some (.lst (ps.map V.ref))/\ps.length=rows.length/\ps.Nodup/\∀(i:Nat)(p:Addr)(r:LI'),ps[i]?=some p->rows[i]?=some r->p≠a/\H0 p=none/\H p=some (.lst (r.map V.int))
theorem MatD.l{H0 H:Hp}{a:Addr}{rows:List (LI')}(h:MatD H0 H a rows):MatL H a rows:=let ⟨ps,h1,h2,_,h3⟩:=h;⟨ps,h1,h2,λi p r e1 e2=>⟨(h3 i p r e1 e2).1,(h3 i p r e1 e2).2.2⟩⟩
section
variable {K:Frag} {H:Hp} {a a1:Addr} {M:List (LI')} {σ:St} {Q:VK} {b1 b2:Bool}
theorem On(hM:MatB b1 b2 K H a M)(hl:M.length<=1000)(ha1:H a1=none)(hQ:∀H1,Same H H1->MatD H H1 a1 M->Q (.ref a1) H1):mT (Its K b1 a) (pY 0) (tEl (tCB (eH K) (pW (tVar 0) tNil))) 1 [] σ a1 H Q:=by
 obtain⟨xs,x1,x2,x3⟩:=hM.walk;refine cO xs.length (λt zs H1=>∃ps:LA,zs=ps.map V.ref/\ps.length=t/\ps.Nodup/\∀(j:Nat)(p:Addr)(r:LI'),ps[j]?=some p->M[j]?=some r->p≠a1/\H p=none/\H1 p=some (.lst (r.map V.int))) ha1 ⋯ ⟨[],rfl,rfl,List.nodup_nil,λj p r e=>by simp at e⟩
  (λi zs H1⟨ps,e,l,_⟩=>by rw[e,yP,l];exact zG _) (λi zs H1 H2⟨ps,e,l,n,q⟩s=>⟨ps,e,l,n,λj p r e1 e2=>⟨(q j p r e1 e2).1,(q j p r e1 e2).2.1,s _ _ (q j p r e1 e2).1 (q j p r e1 e2).2.2⟩⟩)
  (λi H1 hi s=>Its.go (x1.up s) (x:=xs[i]) (by simp[hi])) (λH1 s=>Its.stop (x1.up s) (zG _)) ?_ ?_
 ·rintro i H1 zs hi s1 ez ⟨ps,rfl,hpl,hnd,hq⟩ ys x H3 hys hy C hC _;obtain⟨e1,e2⟩:=Its.yld (x1.up s1) hy;subst e1;obtain⟨p,r,rfl,er,hp⟩:=x3 i x e2
  match ys,hys with
  | [o],_ =>
   refine⟨⟨[some (.ref p)],rfl,rfl⟩,_,rfl,b2,p,_,rfl,hp.up s1,λl hl1=>hC _ _ (Same.new hl1) ⟨ps++[l],by simp,by simp[hpl],?_,λj p' r' e3 e4=>?_⟩⟩
   ·rw[List.nodup_append];refine⟨hnd,by simp,λz hz w hw=>?_⟩;rw[qV.mp hw];obtain⟨j,hj,ej⟩:=xT hz;have hjM:j<M.length:=⋯
    exact nK (hq j z M[j] (by simp[hj,ej]) (by simp[hjM])).2.2 hl1
   ·by_cases hj:j<ps.length
    ·rw[yT hj]at e3;obtain⟨n1,n3,n2⟩:=hq j p' r' e3 e4;exact⟨n1,n3,Same.new hl1 _ _ n2⟩
    ·have ej:j=ps.length:=by have:=(pG.mp e3).1;simp at this;omega
     subst ej;rw[yD (zG _)]at e3;simp at e3;subst e3;rw[hpl,er]at e4;cases e4;have hn:H l=none:=by cases w:H l with|none=>rfl|some o=>rw[s1 _ _ w]at hl1;cases hl1
     exact⟨yE (nK ez hl1),hn,pV⟩
 ·rintro H1 ys s1 e1 ⟨ps,rfl,hpl,hnd,hq⟩;exact hQ H1 s1 ⟨ps,e1,⋯,hnd,hq⟩
end
noncomputable def litI:Expr->Option Int
 |.Constant (.int i) _ _=>some i
 |.UnaryOp .USub (.Constant (.int i) _ _) _=>some (-i)
 |_=>none
noncomputable def cV:List Expr->Option (LI')
 |[]=>some []
 |e:: es=>match litI e,cV es with|some n,some ns=>some (n:: ns)|_,_=>none
noncomputable def litR:Expr->Option (LI')
 |.List es _=>cV es
 |_=>none
noncomputable def cW:List Expr->Option (List (LI'))
 |[]=>some []
 |e:: es=>match litR e,cW es with|some n,some ns=>some (n:: ns)|_,_=>none
noncomputable def litM:Expr->Option (List (LI'))
 |.List es _=>cW es
 |_=>none
noncomputable def cX:List Expr->Option (List (List (LI')))
 |[]=>some []
 |e:: es=>match litM e,cX es with|some n,some ns=>some (n:: ns)|_,_=>none
noncomputable def Ai:Expr->Option (List (List (LI')))
 |.List es _=>cX es
 |_=>none
section
variable {X:Cx}
theorem PE.weak{e:Expr}{t u:TE}(h:PE X e t)(w:∀σ H Q,u σ H Q->t σ H Q):PE X e u:=λpins s σ H Q I q=>h pins s σ H Q I (w σ H Q q)
theorem PA.weak{es:List Expr}{t u:TA}(h:PA X es t)(w:∀σ H Q,u σ H Q->t σ H Q):PA X es u:=λpos pins s σ H Q I q=>h pos pins s σ H Q I (w σ H Q q)
theorem Fl{e:Expr}{n:Int}(h:litI e=some n):PE X e (tC (.int n))/\∀es,starEach (e:: es) X.env=(false,eval e X.env):: starEach es X.env:=by
 unfold litI at h;split at h
 ·cases h;exact⟨pR,λ_=>rfl⟩
 ·cases h;exact⟨(gM gN pR).weak λσ H Q q=>⟨_,rfl,q⟩,λ_=>rfl⟩
 ·cases h
theorem Fk:∀{es:List Expr}{ns:LI'},cV es=some ns->PA X es λ_ H Q=>Q (ns.map V.int) H
 |[],ns,h=>by cases h;exact pL
 |e:: es,ns,h=>by
  unfold cV at h;split at h
  ·rename_i n ms e1 e2;cases h;exact(pK (Fl e1).1 (Fk e2) ((Fl e1).2 es)).weak λσ H Q q=>q
  ·cases h
def Fj(ns:LI'):TE:=λ_ H Q=>∀p H',Same H H'->H p=none->H' p=some (.lst (ns.map V.int))->Q (.ref p) H'
def Fi(M:List (LI')):TE:=λ_ H Q=>∀p H',Same H H'->H p=none->MatL H' p M->Q (.ref p) H'
def Fh(Ms:List (List (LI'))):TE:=λ_ H Q=>∀p H',Same H H'->Mats H' p Ms->Q (.ref p) H'
theorem Om{e:Expr}{ns:LI'}(h:litR e=some ns)(hz:ns.length<=1000):PE X e (Fj ns)/\∀es,starEach (e:: es) X.env=(false,eval e X.env):: starEach es X.env:=by
 unfold litR at h;split at h
 ·refine⟨(lG (Fk h)).weak λσ H Q q=>MkR.of (ta:=λ_ H Q=>Q (ns.map V.int) H) (λ_ _ _ q=>q) hz σ H Q q,λ_=>rfl⟩
 ·cases h
theorem Fg:∀{es:List Expr}{M:List (LI')},cW es=some M->(∀r∈M,r.length<=1000)->∃ta,PA X es ta/\MkRs ta M
 |[],ns,h,_=>by cases h;exact⟨_,pL,MkRs.nil⟩
 |e:: es,ns,h,hz=>by
  unfold cW at h;split at h
  ·rename_i n ms e1 e2;cases h;have h1:=Om (X:=X) e1 (hz n zU);obtain⟨ta,h2,h3⟩:=Fg e2 λr hr=>hz r (zM _ hr);exact⟨_,pK h1.1 h2 (h1.2 es),MkRs.cons (te:=Fj n) (λσ H Q q=>q) h3⟩
  ·cases h
theorem Ol{e:Expr}{M:List (LI')}(h:litM e=some M)(hz:M.length<=1000/\∀r∈M,r.length<=1000):PE X e (Fi M)/\∀es,starEach (e:: es) X.env=(false,eval e X.env):: starEach es X.env:=by
 unfold litM at h;split at h
 ·obtain⟨ta,h1,h2⟩:=Fg (X:=X) h hz.2;exact⟨(lG h1).weak λσ H Q q=>MkM.of h2 hz.1 σ H Q q,λ_=>rfl⟩
 ·cases h
theorem Ff:∀{es:List Expr}{Ms:List (List (LI'))},cX es=some Ms->(∀M∈Ms,M.length<=1000/\∀r∈M,r.length<=1000)->∃ta,PA X es ta/\MkMs ta Ms
 |[],ns,h,_=>by cases h;exact⟨_,pL,MkMs.nil⟩
 |e:: es,ns,h,hz=>by
  unfold cX at h;split at h
  ·rename_i n ms e1 e2;cases h;have h1:=Ol (X:=X) e1 (hz n zU);obtain⟨ta,h2,h3⟩:=Ff e2 λr hr=>hz r (zM _ hr);exact⟨_,pK h1.1 h2 (h1.2 es),MkMs.cons (te:=Fi n) (λσ H Q q=>q) h3⟩
  ·cases h
theorem Oj{e:Expr}{Ms:List (List (LI'))}(h:(decide (Ai e=some Ms) && decide (Ms.length<=1000/\∀M∈Ms,M.length<=1000/\∀r∈M,r.length<=1000))=true):PE X e (Fh Ms):=by
 simp only[Bool.and_eq_true,decide_eq_true_eq]at h;obtain⟨h,hz,hz2⟩:=h;unfold Ai at h;split at h
 ·obtain⟨ta,h1,h2⟩:=Ff (X:=X) h hz2;exact(lG h1).weak λσ H Q q=>MkMs.lst h2 hz q
 ·cases h
end
noncomputable def Oi(Ms:List (List (LI'))):Bool:=decide (Ms.length<=1000/\∀M∈Ms,M.length<=1000/\∀r∈M,r.length<=1000)
noncomputable def isList:Expr->Bool
 |.List _ _=>true
 |_=>false
section
variable {X:Cx}
theorem Fe:∀{bs:List Bool}{its:LW},Vals (bs.map V.bl) its->∀(i:Nat)(v:Value),its[i]?=some v->∃b,bs[i]?=some b/\v=.bool b
 |[],_,.nil,i,v,e=>by simp at e
 |b:: r,_,.cons h q,i,v,e=>by
  cases i with
  |zero=>simp at e;subst e;exact⟨b,rfl,h⟩
  |succ i=>simpa using Fe (bs:=r) q i v (by simpa using e)
theorem Fd:∀bs:List Bool,((List.range bs.length).any λi=>(bs[i]?).getD false)=bs.any id
 |[]=>rfl
 |b:: bs=>by
  have ih:=Fd bs;rw[zY,List.range_succ_eq_map,uS,uS,List.any_map];show(b || _)=(b || _);congr 1
theorem cY(hc:X.calm=true):lF X (.builtin "any") (λxs H Q=>∃(p:Addr)(bs:List Bool),xs=[.ref p]/\SqL X.K H p (bs.map V.bl)/\Q (.bl (bs.any id)) H):=by
 intro pins s σ H xs us Q I r h;obtain⟨p,bs,rfl,hq,q⟩:=h;obtain⟨u,rfl,rx⟩:=jF r;cases rx;obtain⟨its,rv,pl,hz⟩:=I.list hq;have hl:s.heap.IsList p its.toArray:=pl.isList;have hlt:p<s.heap.objs.size:=by obtain⟨_,e,_⟩:=hl;exact zP e
 have hlen:its.toArray.size=bs.length:=by
  have:=rv.length;simpa using this.symm
 refine call_any_walk (tQ hl ?_);refine⟨s.heap.objs.size,[s.heap.objs.size,p],[s.heap.objs.size],its.toArray.size,_,_,λi=>(bs[i]?).getD false,rfl,Walks.list (A:=X.A.in1) (I.ok.hd hc) _ p (yB hlt) its.toArray,
  ⟨⟨_,zT _ rfl,rfl,rfl⟩,hl.push _⟩,λi v s' Q' E' hP hQ=>?_,λh' tk hk=>?_⟩
 ·obtain⟨b,e,rfl⟩:=Fe rv i v (by simpa using hP);simp only[e,Option.getD_some]at hQ;exact uG hQ
 ·rw[hlen,Fd bs];refine⟨.bl (bs.any id),H,I.kept (t':=tk) λb x e=>hk b x (λhm=>by rw[qV.mp hm]at e;exact xB _ (zP e)) (zD _ e),rfl,q⟩
end
section
variable {prog:Program} {w:World} {A:Around} {E:VP} {s:Shared}
set_option maxRecDepth 100000 in
end
open Builtin Builtin.Str
def qVar(i:Nat):TE:=λσ H Q=>match σ[i]? with
 |some (some v)=>Q v H
 |_=>False
theorem Oh{i:Nat}{σ:St}{H:Hp}{Q:VK}(h:qVar i σ H Q):tVar i σ H Q:=by
 unfold qVar at h;split at h
 ·next v e=>exact⟨v,e,h⟩
 ·exact h.elim
theorem pq{X:Cx}(i:Nat){x:Str}{pos:Pos}(hN:X.N[i]?=some x:=by rfl)(hv:Vis X.env.scope x:=by first|exact Or.inl rfl|exact Or.inr (Or.inl rfl)|exact Or.inr (Or.inr rfl))(hd:(x == ("__debug__" :Str))=false:=by decide)
  (hcd:(x == ("__classdict__" :Str))=false:=by decide):PE X (.Name x pos) (qVar i):=λpins s σ H Q I q=>pv i hN hv hd hcd pins s σ H Q I (Oh q)
section
variable {X:Cx} {e:Expr} {ta:TE} {pos p p':Pos} {i:Int} {j:Nat}
theorem pS(a:PE X e ta):PE X (e.Subscript (.Constant (.int i) j p') pos) (tOp (rIxB X.K) ta (tC (.int i))):=nD ix_B a pR (λ_ _=>rfl)
theorem oS(m:X.mg "len"=none)(a:PE X e ta)(g:Gl X "len" := by rfl)(he:starEach [e] X.env=(false,eval e X.env):: starEach [] X.env:=by rfl):PE X (.Call (.Name "len" p) [e] [] pos) (tCB (lN X.K) (pW ta tNil)):=mJ Na g m (nofun) (pK a pL he) ∅ ∅ he rfl
end
section
variable {X:Cx} {sc scope:Scope} {fr:List (Str×Nat)} {x:Str} {px:Pos} {iter elt:Expr} {wi:TI} {te:TE} {N:List Str}
theorem oX{pos:Pos}(h1:X.env.scope=sc)(h2:X.N=N)(hk:cK sc N scope fr=true)(hc:X.calm=true)(hb:cL (kG sc scope) ([x]++fr.map (·.1)) 0 x=true)(hi:PI X (.Name x px) iter wi)
  (he:∀(s₃:Shared)(H₃:Hp)(fp:LA),(nT X scope ([x]++fr.map (·.1)) s₃ H₃ fp).env.scope=kG sc scope->PE (nT X scope ([x]++fr.map (·.1)) s₃ H₃ fp) elt te)(hs:∀x,foldedSetIterable iter X.env x=pure x:=by intro _;rfl):PE X (.ListComp elt [⟨.Name x px,iter,[],0⟩] scope pos) (nE wi (pY 0) (tEl te) 1 fr):=
 lY (xs:=[x]) (mF h1 h2 hk) hc hi (λ_ _ _ h=>lZ (i:=0) h rfl hb) (λa b d h=>mK (he a b d h)) (yU _) hs
theorem kZ{pos spos py:Pos}{y:Str}{i:Nat}(h1:X.env.scope=sc)(h2:X.N=N)(hk:cK sc N scope fr=true)(hc:X.calm=true)(hN:X.N.Nodup)(hy:X.N[i]?=some y)(hl:X.env.scope.names.lookup y=some .local)(hb:cL (kG sc scope) ([x]++fr.map (·.1)) 0 x=true)(hi:PI X (.Name x px) iter wi)
  (he:∀(s₃:Shared)(H₃:Hp)(fp:LA),(nT X scope ([x]++fr.map (·.1)) s₃ H₃ fp).env.scope=kG sc scope->PE (nT X scope ([x]++fr.map (·.1)) s₃ H₃ fp) elt te)
  (hsw:swapsWith (.ListComp elt [⟨.Name x px,iter,[],0⟩] scope pos) (some (.Name y py)) spos.line X.env=pure true:=by rfl)(hs:∀x,foldedSetIterable iter X.env x=pure x:=by intro _;rfl):PS X (.Assign [.Name y py] (.ListComp elt [⟨.Name x px,iter,[],0⟩] scope pos) spos) (Eg i (nE wi (pY 0) (tEl te) 1 fr)):=
 iR (xs:=[x]) (mF h1 h2 hk) hc hN hy hl hi (λ_ _ _ h=>lZ (i:=0) h rfl hb) (λa b d h=>mK (he a b d h)) hsw (yU _) hs
end
structure FunT(K:Frag)(mg:MT)(x:Str)(st:Stmt)(f:Addr)(fd:FuncData)(ps:List Str):Prop extends Fun K x x st f fd where
 m:mg x=some (.ref f)
 b:mD K fd ps []
section
variable {X:Cx} {k:Nat} {f:Addr} {fd:FuncData} {ps:List Str} {sp:Sp} {x:Str} {st:Stmt} {p pos:Pos} {e:Expr} {es:List Expr} {t:TA}
theorem pU(F:FnOk X.prog X.w X.K X.mg X.base CX0 k f fd ps sp)(hr:Room k X.A)(c:FunT X.K X.mg x st f fd ps)(ha:PA X (e:: es) t)(hg:Gl X x:=by rfl)(hdb:(x == ("__debug__" :Str))=false:=by decide)
  (he:starEach (e:: es) X.env=(false,eval e X.env):: starEach es X.env:=by rfl)(hpl:(backTo pos (starEach es X.env)).any (·.1)=false:=by rfl):PE X (.Call (.Name x p) (e:: es) [] pos) (nL sp [] E0 t):=jG F hr hg c.m c.kp c.b .nil lL ha hdb he hpl
end
instance decPD:DecidableEq PyData:=λ_ _=>Classical.propDecidable _
noncomputable def tT:Nat->PyData->Bool
 |_,.int _=>true
 |n+1,.tuple xs=>xs.all (tT n)
 |_,_=>false
theorem iV:∀(n:Nat)(d:PyData),tT n d=true->iT n d=true:=by
 intro n
 induction n with
 |zero=>intro d h;cases d <;> simp[tT]at h <;> simp[iT]
 |succ n ih =>
  intro d h;cases d <;> simp[tT]at h
  ·simp[iT]
  ·simp only[iT,List.all_eq_true];exactλx hx=>ih x (h x hx)
mutual
noncomputable def jK:PyData->Int
 |.int i=>hashInt i
 |.tuple xs=>reduceHash (Builtin.Tuple.tupleHashOf (eJ xs))
 |_=>0
noncomputable def eJ:List PyData->LI'
 |[]=>[]
 |d:: ds=>jK d:: eJ ds
end
mutual
noncomputable def jL:PyData->Nat
 |.tuple xs=>iW xs+1
 |_=>1
noncomputable def iW:List PyData->Nat
 |[]=>0
 |d:: ds=>jL d+iW ds
end
section
variable {prog:Program} {w:World} {E:VP}
theorem Og(n:Nat)(ih:∀{A:Around}{s:Shared}{v:Value}{d:PyData}{as:LA}{Q:Int->Shared->Prop},tT n d=true->Reads s.heap v d as->A.units+n<cLine->Q (jK d) {s with toks:=s.toks+jL d}->wpAny (model prog w) A (pyHash v) Q E s):
  ∀(xs:List PyData)(vs:LW)(as:LA)(A:Around)(s:Shared)(b:Array Int)(Q:Array Int->Shared->Prop),xs.all (tT n)=true->ReadsAll s.heap vs xs as->A.units+n<cLine ->
  (∀b':Array Int,b'.toList=b.toList++eJ xs->Q b' {s with toks:=s.toks+iW xs}) ->
  wpAny (model prog w) A (forIn vs b λx r=>do let h ←pyHash x;pure PUnit.unit;pure (ForInStep.yield (r.push h))) Q E s:=by
 intro xs
 induction xs with
 |nil =>
  intro vs as A s b Q _ r _ h;cases r;exact zB (h b (by simp[eJ]))
 | cons d ds ihr =>
  intro vs as A s b Q ht r hu h;cases r with
  |cons r1 r2 =>
   rw[xC,zQ]at ht;rw[vY];refine zA (zA (ih ht.1 r1 hu ?_));refine zA (zB (zB ?_));refine ihr _ _ A {s with toks:=s.toks+jL d} (b.push (jK d)) Q ht.2 r2 hu λb' hb=>?_;have:=h b' (by rw[hb];simp[eJ]);rw[show s.toks+iW (d:: ds)=s.toks+jL d+iW ds by simp[iW,Nat.add_assoc]]at this;exact this
theorem Of:∀(n:Nat){A:Around}{s:Shared}{v:Value}{d:PyData}{as:LA}{Q:Int->Shared->Prop},tT n d=true->Reads s.heap v d as->A.units+n<cLine->Q (jK d) {s with toks:=s.toks+jL d}->wpAny (model prog w) A (pyHash v) Q E s:=by
 intro n
 induction n with
 |zero =>
  intro A s v d as Q ht r hu h;cases r <;> simp[tT]at ht;exact rY (by simpa [jK,jL]using h)
 | succ n ih =>
  intro A s v d as Q ht r hu h;cases r <;> simp only[tT,Bool.false_eq_true]at ht
  case int=>exact rY (by simpa [jK,jL]using h)
  case tuple a o vs m xs hg hc hd hr =>
   unfold pyHash;refine PySem.W.pyHash_slot (T:= "tuple") ⟨_,hg,hc⟩ PySem.F.slot_tuple_hash PySem.F.entry_tuple_hash (PySem.F.args_tuple_hash_1 _) (beq_builtin_none _) (.inr ⋯) ?_;show wpAny _ _ (Builtin.Tuple.tupleItemsOf (.ref a) >>= _) _ _ s;refine zA (rH hg hd ?_);refine zA ?_;rw[←Array.forIn_toList];refine Og n ih xs vs.toList _ A.in1 s #[] _ ht hr (by show A.units+1+n<cLine;omega) λb hb=>?_;show wpAny _ _ (retInt (Builtin.Tuple.tupleHashOf b.toList)) _ _ _;rw[hb];refine zA (wpAny_mkInt (zB ⟨_,_,rfl,?_⟩));have e:s.toks+iW xs+1=s.toks+jL (.tuple xs):=by simp[jL,Nat.add_assoc]
   simp only[jK]at h;rw[←e]at h;exact h
theorem Oe:∀(n m:Nat),n<m->∀{A:Around}{s:Shared}{v:Value}{d:PyData}{as:LA}{Q:Bool->Shared->Prop},tT n d=true->Reads s.heap v d as->Q true s->wpAny (model prog w) A (eqIsQuiet m v) Q E s:=by
 intro n
 induction n with
 |zero =>
  intro m _ A s v d as Q ht r h;cases r <;> simp[tT]at ht;rw[eqIsQuiet_byValue _ rfl];exact zB h
 | succ n ih =>
  intro m hm A s v d as Q ht r h;cases r <;> simp only[tT,Bool.false_eq_true]at ht
  case int=>rw[eqIsQuiet_byValue _ rfl];exact zB h
  case tuple a o vs k xs hg hc hd hr =>
   obtain⟨m,rfl⟩:∃j,m=j+1:=⟨m-1,⋯⟩;have hT:s.TypeIs (.ref a) "tuple" := ⟨o,hg,hc⟩;unfold eqIsQuiet;refine zA (wpAny_specialOf hT PySem.F.slot_tuple_eq.lookup ?_);show wpAny _ _ (isInstance (.ref a) (.type "tuple") >>= _) _ _ s;refine zA (vU hT isSubtype_tuple_tuple ?_);simp only[Bool.not_true,Bool.false_eq_true,if_false];refine zA (wD hg hd ?_);refine zA ?_;show wpAny _ _ (forIn vs _ _) _ _ s;rw[←Array.forIn_toList];refine wpAny_forIn_list _ (λrest q s'=>q.1=none/\s'=s/\∃ys bs,ys.all (tT n)=true/\ReadsAll s.heap rest ys bs) _ ?_ ?_ _ _ ⟨rfl,rfl,xs,_,ht,hr⟩
   ·rintro u rest q s' ⟨hq,rfl,ys,bs,hy,hrs⟩;cases hrs with
    |cons r1 r2 =>
     rw[xC,zQ]at hy;refine zA (ih m ⋯ hy.1 r1 ?_);simp only[Bool.not_true,Bool.false_eq_true,if_false];exact zB ⟨rfl,rfl,_,_,hy.2,r2⟩
   ·rintro⟨r1,r2⟩ s' ⟨hq,rfl,_⟩;simp only at hq;subst hq;exact zB h
end
theorem Od{h h':Heap}{x:Addr}{ox:Obj}{es:Array DictEntry}{ep:Nat}(hx:h.get? x=some ox)(hd:ox.data=.dict es ep)(hs:Heap.SameBut x h h'):∀(n:Nat){v:Value}{d:PyData}{as:LA},tT n d=true->Reads h v d as->Reads h' v d as:=by
 intro n
 induction n with
 |zero =>
  intro v d as ht r;cases r <;> simp[tT]at ht;exact .int _ _
 | succ n ih =>
  have all:∀(xs:List PyData)(vs:LW)(as:LA),xs.all (tT n)=true->ReadsAll h vs xs as->ReadsAll h' vs xs as:=by
   intro xs
   induction xs with
   |nil=>intro vs as _ r;cases r;exact .nil
   | cons d ds ihr =>
    intro vs as ht r;cases r with
    |cons r1 r2 =>
     rw[xC,zQ]at ht;exact .cons (ih ht.1 r1) (ihr _ _ ht.2 r2)
  intro v d as ht r;cases r <;> simp only[tT,Bool.false_eq_true]at ht
  case int=>exact .int _ _
  case tuple a o vs k xs hg hc hdd hr =>
   have hne:a≠x:=by
    rintro rfl;rw[hx]at hg;cases hg;rw[hd]at hdd;cases hdd
   exact .tuple ((hs.2 a hne).trans hg) hc hdd (all _ _ _ ht hr)
def isT(h:Heap)(d:PyData)(a:Addr):Prop:=tT 4 d=true/\∃as,Reads h (.ref a) d as
noncomputable def lP(prog:Program)(w:World):HeapKind prog w PyData where
 is:=isT
 hash:=jK
 draws:=jL
 room:=λA=>A.units+8<cLine
 inj:=λ{h a x y}hx hy=>by
  obtain⟨t1,as,r1⟩:=hx;obtain⟨t2,bs,r2⟩:=hy;exact tG _ _ _ _ _ (jI 4 _ (iV 4 _ t1)).1 r1 r2
 keeps:=λ{h h' k a x o es ep}hk hx hd hs=>⟨hk.1,let ⟨as,r⟩:=hk.2;⟨as,Od hx hd hs 4 hk.1 r⟩⟩
 pyHash:=λ{A E s k a Q}hu hk h=>let ⟨as,r⟩:=hk.2;Of 4 hk.1 r ⋯ h
 eqBool:=λ{A E s x y a b Q}hu hx hy h=>by
  obtain⟨t1,as,r1⟩:=hx;obtain⟨t2,bs,r2⟩:=hy;have i1:=iV 4 _ t1;have i2:=iV 4 _ t2;have l1:=jI 4 _ i1;have l2:=jI 4 _ i2;refine PySem.SeqAt.eqBoolOverData _ _ _ _ _ _ _ _ _ _ _ _ r1 r2 l1.1 l2.1 ⋯ ?_;rw[←SeqAt.same_eq_eqv _ _ (cQ 4 _ _ i1 i2)];have e:=cR 4 _ _ i1 i2
  by_cases z:x=y
  ·rw[zK z]at h;rw[e.mpr z];exact h
  ·rw[zN z]at h;have:same x y=false:=by
    cases q:same x y with
    |false=>rfl
    |true=>exact absurd (e.mp q) z
   rw[this];exact h
 quiet:=λ{A E s k a Q}hk h=>let ⟨as,r⟩:=hk.2;Oe 4 8 ∅ hk.1 r h
noncomputable def mV(a:Addr)(xs:List (PyData×Addr×Value)):HO:=.ext λh=>∃o es ep,h.get? a=some o/\o.ExactDict/\o.data=.dict es ep/\es.toList=xs.map λx=>⟨jK x.1,.ref x.2.1,x.2.2⟩
theorem Fc{o:Option V}{u:Option Value}(h:RelO o u):o.isSome=u.isSome:=by
 cases o <;> cases u <;> first|rfl|exact h.elim
def vT(kvs:List (PyData×V))(k:PyData):Option V:=(kvs.find? λkv=>decide (kv.1=k)).map (·.2)
def pT(kvs:List (PyData×V))(k:PyData)(v:V):List (PyData×V):=if(vT kvs k).isSome=true then kvs.map (λkv=>if kv.1=k then(kv.1,v) else kv) else kvs++[(k,v)]
theorem eK{p:PyData×V}{r:List (PyData×V)}{k:PyData}(e:p.1=k):vT (p:: r) k=some p.2:=by simp[vT,List.find?_cons,e]
theorem gT{p:PyData×V}{r:List (PyData×V)}{k:PyData}(e:¬ p.1=k):vT (p:: r) k=vT r k:=by simp[vT,List.find?_cons,e]
abbrev KP(K:Frag)(H:Hp):List (PyData×V)->List (PyData×Addr×Value)->Prop:=Paired λp q=>p.1=q.1/\(tT 4 p.1=true/\Dt K H (.ref q.2.1) p.1)/\RelV p.2 q.2.2
structure DTr(K:Frag)(H:Hp)(a:Addr)(kvs:List (PyData×V)):Prop where
 len:kvs.length<=sizeLine
 sys:(a == sysModules)=false
 ex:∃xs,H a=some (mV a xs)/\(xs.map (·.1)).Nodup/\KP K H kvs xs
theorem KP.val{K:Frag}{H:Hp}{kvs:List (PyData×V)}{xs:List (PyData×Addr×Value)}(r:KP K H kvs xs)(k:PyData):RelO (vT kvs k) ((atKey xs k).map (·.2)):=by
 induction r with
 |nil=>exact True.intro
 | @cons p q ps qs h t ih =>
  obtain⟨h1,_,h2⟩:=h
  by_cases e:p.1=k
  ·have b:atKey (q:: qs) k=some q.2:=by simp[atKey,List.find?_cons,h1.symm.trans e]
   rw[eK e,b];exact h2
  ·have e':¬ q.1=k:=λz=>e (h1.trans z);have b:atKey (q:: qs) k=atKey qs k:=by simp[atKey,List.find?_cons,e']
   rw[gT e,b];exact ih
theorem KP.put{K:Frag}{H:Hp}{kvs:List (PyData×V)}{xs:List (PyData×Addr×Value)}(r:KP K H kvs xs)(k:PyData){b:Addr}{y:V}{u:Value}(tk:tT 4 k=true)(hb:Dt K H (.ref b) k)(ry:RelV y u):KP K H (pT kvs k y) (storedH xs k b u):=by
 have e:(vT kvs k).isSome=(atKey xs k).isSome:=by rw[Fc (r.val k),Option.isSome_map]
 unfold pT storedH;rw[e]
 by_cases q:(atKey xs k).isSome=true
 ·rw[zJ q,zJ q];clear e q
  induction r with
  |nil=>exact .nil
  |@cons p q ps qs h t ih =>
   rw[zL,zL];refine .cons ?_ ih;obtain⟨h1,h2,h3⟩:=h;unfold putAt
   by_cases e:p.1=k
   ·rw[zJ e,zJ (h1.symm.trans e)];exact⟨h1,h2,ry⟩
   ·rw[zI e,zI (λz=>e (h1.trans z))];exact⟨h1,h2,h3⟩
 ·rw[zI q,zI q];exact tY r ⟨rfl,⟨tk,hb⟩,ry⟩
theorem mC{K:Frag}{H H':Hp}(ht:∀b xs,SqT K H b xs->SqT K H' b xs):∀(n:Nat){x:V}{d:PyData},tT n d=true->Dt K H x d->Dt K H' x d:=by
 intro n
 induction n with
 |zero =>
  intro x d h r;cases r <;> simp[tT]at h;exact .int _
 | succ n ih =>
  have all:∀(ds:List PyData)(xs:List V),ds.all (tT n)=true->Dts K H xs ds->Dts K H' xs ds:=by
   intro ds
   induction ds with
   |nil=>intro xs _ r;cases r;exact .nil
   | cons d ds ihr =>
    intro xs h r;cases r with
    |cons r1 r2 =>
     rw[xC,zQ]at h;exact .cons (ih h.1 r1) (ihr _ h.2 r2)
  intro x d h r;cases r <;> simp only[tT,Bool.false_eq_true]at h
  case int=>exact .int _
  case tup a xs ds hq hr=>exact .tup (ht _ _ hq) (all _ _ h hr)
theorem Fb{K:Frag}{H:Hp}{a:Addr}{o:HO}(hn:∀xs,¬ Rd H a (.tup xs)):∀b xs,SqT K H b xs->SqT K (upd H a o) b xs:=λb xs h=>by
 rcases h with h|h
 ·have ne:b≠a:=λe=>hn xs (e ▸ h);rcases h with h|⟨ob,h⟩
  ·exact .inl (.inl (by rw[oE ne];exact h))
  ·exact .inl (.inr ⟨ob,by rw[oE ne];exact h⟩)
 ·exact .inr h
theorem KP.keeps{K:Frag}{H H':Hp}{kvs:List (PyData×V)}{xs:List (PyData×Addr×Value)}(r:KP K H kvs xs)(ht:∀b ys,SqT K H b ys->SqT K H' b ys):KP K H' kvs xs:=
 Paired.mapP r λ_ _ z=>⟨z.1,⟨z.2.1.1,mC ht 4 z.2.1.1 z.2.1.2⟩,z.2.2⟩
theorem nM{K:Frag}{H H':Hp}(s:Same H H'):∀b xs,SqT K H b xs->SqT K H' b xs:=λb xs h=>by
 rcases h with(h|⟨o,h⟩)|h
 ·exact .inl (.inl (s _ _ h))
 ·exact .inl (.inr ⟨o,s _ _ h⟩)
 ·exact .inr h
theorem DTr.up{K:Frag}{H H':Hp}{a:Addr}{kvs:List (PyData×V)}(h:DTr K H a kvs)(s:Same H H'):DTr K H' a kvs:=by
 obtain⟨l,y,xs,e,n,r⟩:=h;exact⟨l,y,xs,s _ _ e,n,r.keeps (nM s)⟩
section
variable {X:Cx} {pins:PN} {σ:St} {H:Hp} {s:Shared} {a:Addr}
theorem iX{k:PyData}{b:Addr}(I:Inv X pins σ H s)(tk:tT 4 k=true)(hb:Dt X.K H (.ref b) k):(lP X.prog X.w).is s.heap k b:=⟨tk,hb.reads I rfl⟩
theorem iY{kvs:List (PyData×V)}(I:Inv X pins σ H s)(g:DTr X.K H a kvs):∃xs,H a=some (mV a xs)/\KP X.K H kvs xs/\s.heap.DictOfH (lP X.prog X.w) a xs:=by
 obtain⟨_,_,xs,e,n,r⟩:=g;obtain⟨⟨o,es,ep,h1,h2,h3,h4⟩,_⟩:=(show nO X.prog X.w H s.heap a (mV a xs) from I.hok a _ e);refine⟨xs,e,r,o,es,ep,h1,h2,h3,h4,λx hx=>?_,n⟩;have all:∀{l:List (PyData×V)}{m:List (PyData×Addr×Value)},KP X.K H l m->∀x∈m,(lP X.prog X.w).is s.heap x.1 x.2.1:=by
  intro l m q
  induction q with
  |nil=>intro x hx;exact nomatch hx
  |@cons p q ps qs hq t ih =>
   intro x hx;rcases xE.mp hx with e|hx
   ·subst e;rw[←hq.1];exact iX I hq.2.1.1 hq.2.1.2
   ·exact ih x hx
 exact all r x hx
end
def Ah(K:Frag):R2:=λx y H Q=>∃a kvs b k v,x=.ref a/\y=.ref b/\DTr K H a kvs/\tT 4 k=true/\Dt K H (.ref b) k/\vT kvs k=some v/\Q v H
def rInT(K:Frag)(neg:Bool):R2:=λy x H Q=>∃a kvs b k,x=.ref a/\y=.ref b/\DTr K H a kvs/\tT 4 k=true/\Dt K H (.ref b) k/\Q (.bl (if neg=true then !(vT kvs k).isSome else(vT kvs k).isSome)) H
def Oc(K:Frag):TSet:=λx y v H Q=>∃a kvs b k,x=.ref a/\y=.ref b/\DTr K H a kvs/\tT 4 k=true/\Dt K H (.ref b) k/\kvs.length<sizeLine/\∀H',(∀c o,c≠a->H c=some o->H' c=some o)->(∀c,c≠a->H' c=H c)->DTr K H' a (pT kvs k v)->Q H'
section
variable {X:Cx}
theorem ix_T(hu:X.A.units+64<cLine):IxR X (Ah X.K):=by
 intro value slice pins s σ H x y v u Q I rx ry h hs;obtain⟨a,kvs,b,k,z,rfl,rfl,g,tk,hb,hv,q⟩:=h;cases rx;cases ry;obtain⟨xs,e,r,dd⟩:=iY I g;obtain⟨w',hw,rw'⟩:=RelO.some_of (v:=z) (o:=(atKey xs k).map (·.2)) (by rw[←hv];exact r.val k);obtain⟨p,hp,hp2⟩:=Option.map_eq_some_iff.mp hw;refine tW (x:=w') dd.typeIs PySem.F.slot_dict_getitem.lookup ?_ hs;refine wpAny_getItem_heap (knd:=lP X.prog X.w) (show X.A.units+1+8<cLine by omega) (iX I tk hb) dd hp ⟨hp2,z,H,I.tok _,?_,q⟩;rw[hp2];exact rw'
theorem Ob(hu:X.A.units+64<cLine):OpR X (compareOp .NotIn) (rInT X.K true):=by
 intro pins s σ H x y v u Q I rx ry h;obtain⟨a,kvs,b,k,rfl,rfl,g,tk,hb,q⟩:=h;cases rx;cases ry;obtain⟨xs,e,r,dd⟩:=iY I g;refine wpAny_notIn_heap (knd:=lP X.prog X.w) (show X.A.units+1+8<cLine by omega) (iX I tk hb) g.sys dd ?_;have e:=Fc (r.val k);rw[Option.isSome_map]at e;rw[←e];exact⟨.bl _,H,I.tok _,rfl,q⟩
theorem Oa(kvs:List (PyData×V))(k:PyData)(v:V):(pT kvs k v).length<=kvs.length+1:=by
 unfold pT;split
 ·rw[yP];omega
 ·rw[zX];exact zG _
theorem cZ{P:Program}{w:World}{H:Hp}{h:Heap}{a:Addr}{xs:List (PyData×Addr×Value)}{o:Obj}{es:Array DictEntry}{ep:Nat}(h1:h.get? a=some o)(h2:o.ExactDict)(h3:o.data=.dict es ep)(h4:es.toList=xs.map λx=>⟨jK x.1,.ref x.2.1,x.2.2⟩):nO P w H h a (mV a xs):=
 ⟨⟨o,es,ep,h1,h2,h3,h4⟩,⟨o,h1⟩,λg1 g2⟨o',es',ep',q1,q2⟩k=>⟨o',es',ep',k o' q1,q2⟩⟩
theorem Pz(hu:X.A.units+64<cLine):PSet X (Oc X.K):=by
 intro pins s σ H o i v ov iv u Q I ro ri rv h;obtain⟨a,kvs,b,k,rfl,rfl,g,tk,hb,hl,q⟩:=h;cases ro;cases ri;obtain⟨xs,e,r,dd⟩:=iY I g;have hz:xs.length<=sizeLine:=by rw[←Paired.length r];exact g.len
 have nt:∀ys,¬ Rd H a (.tup ys):=λys z=>by
  rcases z with z|⟨ob,z⟩
  ·rw[e]at z;cases z
  ·rw[e]at z;cases z
 refine wpAny_setItem_heap (knd:=lP X.prog X.w) (hsz:=hz) (show X.A.units+1+8<cLine by omega) (iX I tk hb) dd λh' dd' hs=>?_;obtain⟨ob,es,ep,h1,h2,h3,h4,_,h5⟩:=dd';refine⟨upd H a (mV a (storedH xs k b u)),I.write (x:=a) (e:=a) (by rw[e];exact True.intro) (.inl rfl) (λc o hc z=>(hs.2 c hc).trans z) ⟨ob,h1⟩ (cZ h1 h2 h3 h4),?_⟩;refine q _ (λc o hc z=>by rw[oE hc];exact z) (λc hc=>oE hc) ⟨by have:=Oa kvs k v;omega,g.sys,_,pV,h5,(r.put k tk hb rv).keeps (Fb nt)⟩
end
section
variable {X:Cx} {pos:Pos}
theorem Fa{pins:PN}{σ:St}{H:Hp}{s:Shared}(I:Inv X pins σ H s):sysModules<s.heap.objs.size:=
 Nat.lt_trans ∅ (show mainGlobals<s.heap.objs.size from(I.mod.glob.keeps I.bk).lt)
theorem Py{P:Program}{w:World}{H:Hp}(h:Heap):nO P w H (h.push {cls:=.type "dict",data:=.dict #[]}) h.objs.size (mV h.objs.size []):=
 cZ (es:=#[]) (ep:=0) (zT _ rfl) ⟨rfl,rfl,rfl⟩ rfl rfl
theorem Px{K:Frag}{H:Hp}{p:Addr}(hp:(p == sysModules)=false)(e:H p=some (mV p [])):DTr K H p []:=⟨yU _,hp,[],e,List.nodup_nil,.nil⟩
def Gz(K:Frag)(tk tv:TE):TE:=λσ H Q=>∀p,H p=none->tk σ (upd H p (mV p [])) λx H1=>tv σ H1 λy H2=>∃b d,x=.ref b/\tT 4 d=true/\Dt K H2 (.ref b) d/\H2 p=some (mV p [])/\∀H3,(∀c,c≠p->H3 c=H2 c)->DTr K H3 p [(d,y)]->Q (.ref p) H3
theorem Pw{k v:Expr}{tk tv:TE}(hu:X.A.units+64<cLine)(hk:PE X k tk)(hv:PE X v tv):PE X (.Dict [some k] [v] pos) (Gz X.K tk tv):=by
 intro pins s σ H Q I q;have hn:=I.hok.fresh (zG s.heap.objs.size);have hp:(s.heap.objs.size == sysModules)=false:=qU.mpr (yE (yB (Fa I)));have I1:=I.laid (a:=s.heap.objs.size) (o:=mV s.heap.objs.size []) (h':=s.heap.push {cls:=.type "dict",data:=.dict #[]}) (t':=s.toks) (λ_ _ q=>zD _ q) (zG _) (Py s.heap);rw[arm_eval_Dict,zip_pairTrees [some k] [v] X.env pos rfl rfl,dictDisplay_pairs (pairTrees [some k] [v] X.env pos) (by intro e;cases e) (show 1<17 by decide)];refine zA (uT (zA ?_));unfold subDict;refine zA (wpAny_alloc ?_);refine zA (xQ ?_);rw[zJ (show(pairTrees [some k] [v] X.env pos).length<=15 from(show 1<=15 by decide))];refine zA (pairTrees_cons_walk (thn (hk pins _ σ _ _ I1 (q _ hn)) λu s1⟨x,H1,I2,rx,q1⟩=>thn (hv pins s1 σ H1 _ I2 q1) λw2 s2⟨y,H2,I3,ry,b,d,ex,td,hb,e,q2⟩=>pairTrees_nil_walk ?_));subst ex;cases rx;refine xQ ?_;obtain⟨xs,e',r,dd⟩:=iY I3 (Px hp e);cases r;refine zA ?_;rw[vY];refine zA (zA (wpAny_dictSet_heap (knd:=lP X.prog X.w) (hsz:=yU _) (show X.A.units+8<cLine by omega) (iX I3 td hb) dd λh' dd' hs=>zB ?_));refine zB (zB (zB (zB ?_)));obtain⟨ob,es,ep,h1,h2,h3,h4,_,h5⟩:=dd';have nt:∀ys,¬ Rd H2 s.heap.objs.size (.tup ys):=λys z=>by
  rcases z with z|⟨ob,z⟩
  ·rw[e]at z;cases z
  ·rw[e]at z;cases z
 refine⟨.ref s.heap.objs.size,upd H2 s.heap.objs.size (mV s.heap.objs.size (storedH [] d b w2)),I3.write (x:=s.heap.objs.size) (e:=s.heap.objs.size) (by rw[e];exact True.intro) (.inl rfl) (λc o hc z=>(hs.2 c hc).trans z) ⟨ob,h1⟩ (cZ h1 h2 h3 h4),rfl,?_⟩;exact q2 _ (λc hc=>oE hc) ⟨by show 1<=sizeLine;decide,hp,_,pV,h5,.cons ⟨rfl,⟨td,mC (Fb nt) 4 td hb⟩,ry⟩ .nil⟩
def Pu(K:Frag):V->List V->Hp->VK->Prop:=λx vs H Q=>∃a kvs b k,x=.ref a/\vs=[.ref b]/\DTr K H a kvs/\tT 4 k=true/\Dt K H (.ref b) k/\Q ((vT kvs k).getD .non) H
def tBMR(K:Frag)(r:V->List V->Hp->VK->Prop)(to:TE)(ta:TA):TE:=λσ H Q=>to σ H λx H1=>(∃a kvs,x=.ref a/\DTr K H1 a kvs)/\ta σ H1 λvs H2=>r x vs H2 Q
theorem Pt{T:String}{o e:Expr}{es:List Expr}{name:Str}{id:String}{apos cpos:Pos}{to:TE}{t:TA}{r:V->List V->Hp->VK->Prop}(pa:PlainAttrs "dict")(slot:Slot "dict" name id)(hty:typeOf (.builtin id)=pure (.type "method_descriptor"))(hm:MtM X id r)(ho:PE X o to)(ha:PA X (e:: es) t)
  (hbase:attributeBase o name X.env (eval o X.env)=eval o X.env:=by rfl)
  (hfew:((backTo cpos (starEach (e:: es) X.env)).all (λx=>!x.1) && (backToKw cpos (keywordEach [] X.env)).all (λx=>x.1.isSome)
   && decide ((e:: es).length+([]:List Keyword).length+(if([]:List Keyword).isEmpty then 0 else 1)<30))=true:=by rfl)
  (hline:(apos.endLine == cpos.line)=true:=by rfl)(hs:starEach (e:: es) X.env=(false,eval e X.env):: starEach es X.env:=by rfl)(hplain:(backTo cpos (starEach es X.env)).any (·.1)=false:=by rfl):
  PE X (.Call (.Attribute o name apos) (e:: es) [] cpos) (tBMR X.K r to t):=by
 intro pins s σ H Q I h;refine wpAny_Call_method_late hbase hfew hline rfl (thn (ho pins s σ H _ I h) λv s1⟨x,H1,I1,r1,ty,q1⟩=>?_);obtain⟨a,kvs,rfl,g⟩:=ty;cases r1;obtain⟨xs,e',r,dd⟩:=iY I1 g;refine⟨"dict",id,pa,slot,hty,dd.typeIs,dictOfH_noDict dd,?_⟩;have hA:=ha cpos pins s1 σ H1 _ I1 q1;rw[hs]at hA ⊢;refine Calls.callWith_builtin (by show(false || (backTo cpos (starEach es X.env)).any (·.1))=false;rw[hplain] <;> rfl) (sU ?_);exact thn hA λus s2⟨vs,H2,I2,r2,q2⟩=>hm pins s2 σ H2 (.ref a) vs _ us Q I2 rfl r2 q2
theorem Ps{o:Option V}{u:Option Value}{d:V}{r:Value}(h:RelO o u)(hd:RelV d r):RelV (o.getD d) (u.getD r):=by
 cases o <;> cases u <;> first|exact hd|exact h.elim|exact h
theorem Pr(hu:X.A.units+64<cLine):MtM X "dict.get" (Pu X.K):=by
 intro pins s σ H x vs v us Q I rx rv h;obtain⟨a,kvs,b,k,rfl,rfl,g,tk,hb,q⟩:=h;cases rx;obtain⟨u,rfl,ru⟩:=rv.one;cases ru;obtain⟨xs,e,r,dd⟩:=iY I g;refine call_meetsIn PySem.F.slot_dict_get dd.typeIs PySem.F.entry_dict_get (PySem.F.args_dict_get_2 _ _) (meetsH_dict_get (lP X.prog X.w) a b g.sys) ⟨show X.A.units+1+8<cLine by omega,k,xs,iX I tk hb,dd,⟨_,H,I.tok _,?_,q⟩⟩;exact Ps (r.val k) rfl
end
noncomputable def kB:Bool->Keyed->Array Keyed->Nat->Nat->Nat->StateT SortSt Sem (Option Nat):=sortPriv%PySem.Builtin.gallop
noncomputable def iZ(left:Bool)(key:Keyed)(arr:Array Keyed)(base i:Nat):StateT SortSt Sem (Option Bool):=do
 let x ←elem' arr (base+i)
 if left then lt' x key else return (←lt' key x).map (!·)
theorem Pq(left:Bool)(key:Keyed)(arr:Array Keyed)(base n hint:Nat):kB left key arr base n hint=(do
 let mut lastofs:=0
 let mut ofs:=1
 let mut lo:=0
 let mut hi:=0
 let some right ←iZ left key arr base hint|return none
 if right then
  let maxofs:=n-hint
  for _ in[0:n] do
   if ofs≥maxofs then break
   let some more ←iZ left key arr base (hint+ofs)|return none
   if !more then break
   lastofs:=ofs
   ofs:=2*ofs+1
  lo:=hint+lastofs+1
  hi:=hint+min ofs maxofs
 else
  let maxofs:=hint+1
  for _ in[0:n] do
   if ofs≥maxofs then break
   let some found ←iZ left key arr base (hint-ofs)|return none
   if found then break
   lastofs:=ofs
   ofs:=2*ofs+1
  lo:=hint+1-min ofs maxofs
  hi:=hint-lastofs
 for _ in[0:n] do
  if lo≥hi then break
  let m:=lo+(hi-lo)/2
  let some more ←iZ left key arr base m|return none
  if more then lo:=m+1 else hi:=m
 return some hi):=rfl
section
variable {prog:Program} {w:World} {A:Around} {E:VP} {s:Shared} {κ:PyProof.Rows.KeyKind} {kd:SortKind}
def Cmp(prog:Program)(w:World)(A:Around)(s:Shared)(κ:PyProof.Rows.KeyKind)(kd:SortKind):Prop:=
 ∀(E:VP)(x y:Value)(a b:κ.α)(Q:Bool->Shared->Prop),κ.keyOf x=some a->κ.keyOf y=some b->Q (κ.blt a b) s->wpAny (model prog w) A (keyLt' kd x y) Q E s
noncomputable def ky(κ:PyProof.Rows.KeyKind)(p:Keyed):κ.α:=(κ.keyOf p.1).getD κ.dflt
def Gd(κ:PyProof.Rows.KeyKind)(p:Keyed):Prop:=∃a,κ.keyOf p.1=some a
noncomputable def lq(κ:PyProof.Rows.KeyKind)(p q:Keyed):Bool:=κ.blt (ky κ p) (ky κ q)
theorem Gy{p:Keyed}(h:Gd κ p):κ.keyOf p.1=some (ky κ p):=by
 obtain⟨a,e⟩:=h;unfold ky;rw[e];rfl
theorem eN(hC:Cmp prog w A s κ kd){st:SortSt}{x y:Keyed}{Q:Option Bool->SortSt->Prop}(hk:kindOf st=kd)(hx:Gd κ x)(hy:Gd κ y)(h:Q (some (lq κ x y)) st):wpS (model prog w) A E s (lt' x y) Q st:=by
 rw[lt'_eq];refine zF (uM ?_);rw[hk];refine zF (rD (vK (hC _ x.1 y.1 _ _ _ (Gy hx) (Gy hy) ⟨rfl,?_⟩)));exact zH h
theorem mL{st:SortSt}{arr:Array Keyed}{i:Nat}{p:Keyed}{Q:Keyed->SortSt->Prop}(hi:arr[i]?=some p)(h:Q p st):wpS (model prog w) A E s (elem' arr i) Q st:=by
 rw[elem'_eq,hi];exact zH h
noncomputable def bey(κ:PyProof.Rows.KeyKind)(left:Bool)(key p:Keyed):Bool:=if left=true then lq κ p key else !lq κ key p
theorem Pp(hC:Cmp prog w A s κ kd){st:SortSt}{left:Bool}{key p:Keyed}{arr:Array Keyed}{base i:Nat}{Q:Option Bool->SortSt->Prop}(hk:kindOf st=kd)(hg:Gd κ key)(hp:arr[base+i]?=some p)(gp:Gd κ p)(h:Q (some (bey κ left key p)) st):
  wpS (model prog w) A E s (iZ left key arr base i) Q st:=by
 unfold iZ;refine zF (mL hp ?_);unfold bey at h;cases left with
 |true =>
  rw[zJ rfl]at h ⊢;exact eN hC hk gp hg h
 |false =>
  rw[zI (by simp)]at h ⊢;exact zF (eN hC hk hg gp (zH h))
theorem Gx{st:SortSt}{n lo hi:Nat}{B:Nat->Bool}{f:Nat->StateT SortSt Sem (Option Bool)}{Q:Option Nat->SortSt->Prop}
  (ask:∀(i:Nat)(R:Option Bool->SortSt->Prop),i<n->R (some (B i)) st->wpS (model prog w) A E s (f i) R st)(hlh:lo<=hi)(hn:hi<=n)(mono:∀i j,i<=j->j<n->B j=true->B i=true)(h1:∀i,i<lo->B i=true)(h2:∀i,hi<=i->i<n->B i=false)
  (h:∀k,k<=n->(∀i,i<k->B i=true)->(∀i,k<=i->i<n->B i=false)->Q (some k) st):
  wpS (model prog w) A E s (do
   let mut lo:=lo
   let mut hi:=hi
   for _ in[0:n] do
    if lo≥hi then break
    let m:=lo+(hi-lo)/2
    let some more ←f m|return none
    if more then lo:=m+1 else hi:=m
   return some hi) Q st:=by
 refine zF (wH (xH (I:=λx c st'=>st'=st/\∃lo hi,c=(none,lo,hi)/\lo<=hi/\hi<=n/\hi-lo+x<=n/\(∀i,i<lo->B i=true)/\∀i,hi<=i->i<n->B i=false)
  (Q:=λc st'=>st'=st/\∃k,c=(none,k,k)/\k<=n/\(∀i,i<k->B i=true)/\∀i,k<=i->i<n->B i=false) ?_ ?_ ⟨rfl,lo,hi,rfl,hlh,hn,⋯,h1,h2⟩) ?_)
 ·rintro x c st' _ hx ⟨rfl,lo,hi,rfl,a1,a2,a3,a4,a5⟩;dsimp only
  by_cases hl:lo≥hi
  ·rw[zJ hl];exact zH ⟨rfl,hi,by rw[show lo=hi by omega],a2,λi hi'=>a4 i ⋯,a5⟩
  ·rw[zI hl];refine zF (ask _ _ ⋯ ?_);dsimp only;cases hb:B (lo+(hi-lo)/2) with
   |true =>
    rw[zJ rfl];refine zH ⟨rfl,_,_,rfl,⋯,a2,⋯,λi hi'=>?_,a5⟩;exact mono i _ ⋯ ⋯ hb
   |false =>
    rw[zI (by simp)];refine zH ⟨rfl,_,_,rfl,⋯,⋯,⋯,a4,λi hi' hin=>?_⟩;cases hbi:B i with
    |false=>rfl
    |true=>rw[mono _ i hi' hin hbi]at hb;cases hb
 ·rintro c st' ⟨rfl,lo,hi,rfl,a1,a2,a3,a4,a5⟩;have:lo=hi:=⋯
  subst this;exact⟨rfl,lo,rfl,a2,a4,a5⟩
 ·rintro c st' ⟨rfl,k,rfl,a2,a4,a5⟩;exact zH (h k a2 a4 a5)
theorem eO(hC:Cmp prog w A s κ kd){st:SortSt}{left:Bool}{key:Keyed}{arr:Array Keyed}{base n hint:Nat}{B:Nat->Bool}{Q:Option Nat->SortSt->Prop}(hk:kindOf st=kd)(hg:Gd κ key)(hn:hint<n)
  (hB:∀i,i<n->∃p,arr[base+i]?=some p/\Gd κ p/\bey κ left key p=B i)(mono:∀i j,i<=j->j<n->B j=true->B i=true)
  (h:∀k,k<=n->(∀i,i<k->B i=true)->(∀i,k<=i->i<n->B i=false)->Q (some k) st):wpS (model prog w) A E s (kB left key arr base n hint) Q st:=by
 have ask:∀(i:Nat)(R:Option Bool->SortSt->Prop),i<n->R (some (B i)) st->wpS (model prog w) A E s (iZ left key arr base i) R st:=λi R hi r=>by
  obtain⟨p,e1,e2,e3⟩:=hB i hi;exact Pp hC hk hg e1 e2 (by rw[e3];exact r)
 rw[Pq];refine zF (ask hint _ hn ?_);dsimp only;cases hh:B hint with
 | true =>
  rw[zJ rfl];refine zF (wH (xH (I:=λx c st'=>st'=st/\∃lo ofs,c=(none,lo,ofs)/\x+1<=ofs/\lo<ofs/\hint+lo<n/\B (hint+lo)=true)
   (Q:=λc st'=>st'=st/\∃lo ofs,c=(none,lo,ofs)/\lo<ofs/\hint+lo<n/\B (hint+lo)=true/\(n-hint<=ofs\/(hint+ofs<n/\B (hint+ofs)=false))) ?_ ?_ ⟨rfl,0,1,rfl,zG _,⋯,hn,hh⟩) ?_)
  ·rintro x c st' _ hx ⟨rfl,lo,ofs,rfl,a1,a2,a3,a4⟩;dsimp only
   by_cases hl:ofs≥n-hint
   ·rw[zJ hl];exact zH ⟨rfl,lo,ofs,rfl,a2,a3,a4,.inl hl⟩
   ·rw[zI hl];refine zF (ask _ _ ⋯ ?_);dsimp only;cases hb:B (hint+ofs) with
    |true =>
     rw[zI (by simp)];exact zH ⟨rfl,_,_,rfl,⋯,⋯,⋯,hb⟩
    |false =>
     rw[zJ ∅];exact zH ⟨rfl,lo,ofs,rfl,a2,a3,a4,.inr ⟨⋯,hb⟩⟩
  ·rintro c st' ⟨rfl,lo,ofs,rfl,a1,a2,a3,a4⟩;exact⟨rfl,lo,ofs,rfl,a2,a3,a4,.inl ⋯⟩
  ·rintro c st' ⟨rfl,lo,ofs,rfl,a2,a3,a4,a5⟩;dsimp only;refine Gx (lo:=hint+lo+1) (hi:=hint+min ofs (n-hint)) ask ⋯ ⋯ mono (λi hi=>mono i _ ⋯ a3 a4) (λi hi hin=>?_) h;rcases a5 with a5|⟨a5,a6⟩
   ·omega
   ·cases hbi:B i with
    |false=>rfl
    |true=>rw[mono _ i ⋯ hin hbi]at a6;cases a6
 | false =>
  rw[zI (by simp)];refine zF (wH (xH (I:=λx c st'=>st'=st/\∃lo ofs,c=(none,lo,ofs)/\x+1<=ofs/\lo<ofs/\lo<=hint/\B (hint-lo)=false)
   (Q:=λc st'=>st'=st/\∃lo ofs,c=(none,lo,ofs)/\lo<ofs/\lo<=hint/\B (hint-lo)=false/\(hint+1<=ofs\/(ofs<=hint/\B (hint-ofs)=true))) ?_ ?_ ⟨rfl,0,1,rfl,zG _,⋯,yU _,hh⟩) ?_)
  ·rintro x c st' _ hx ⟨rfl,lo,ofs,rfl,a1,a2,a3,a4⟩;dsimp only
   by_cases hl:ofs≥hint+1
   ·rw[zJ hl];exact zH ⟨rfl,lo,ofs,rfl,a2,a3,a4,.inl hl⟩
   ·rw[zI hl];refine zF (ask _ _ ⋯ ?_);dsimp only;cases hb:B (hint-ofs) with
    |true =>
     rw[zJ rfl];exact zH ⟨rfl,lo,ofs,rfl,a2,a3,a4,.inr ⟨⋯,hb⟩⟩
    |false =>
     rw[zI (by simp)];exact zH ⟨rfl,_,_,rfl,⋯,⋯,⋯,hb⟩
  ·rintro c st' ⟨rfl,lo,ofs,rfl,a1,a2,a3,a4⟩;exact⟨rfl,lo,ofs,rfl,a2,a3,a4,.inl ⋯⟩
  ·rintro c st' ⟨rfl,lo,ofs,rfl,a2,a3,a4,a5⟩;dsimp only;refine Gx (lo:=hint+1-min ofs (hint+1)) (hi:=hint-lo) ask ⋯ ⋯ mono (λi hi=>?_) (λi hi hin=>?_) h
   ·rcases a5 with a5|⟨a5,a6⟩
    ·omega
    ·exact mono i _ ⋯ ⋯ a6
   ·cases hbi:B i with
    |false=>rfl
    |true=>rw[mono _ i ⋯ hin hbi]at a4;cases a4
end
section
variable {κ:PyProof.Rows.KeyKind}
def le'(κ:PyProof.Rows.KeyKind)(x y:Keyed):Prop:=lq κ y x=false
theorem mH{x y z:Keyed}(h1:le' κ x y)(h2:le' κ y z):le' κ x z:=KeyOrd.kle_trans (O:=κ.toKeyOrd) h1 h2
theorem mO{x y:Keyed}(h:lq κ x y=true):le' κ x y:=KeyOrd.klt_asymm (O:=κ.toKeyOrd) h
theorem jT(x:Keyed):le' κ x x:=κ.irrefl _
abbrev Srt(κ:PyProof.Rows.KeyKind)(l:List Keyed):Prop:=l.Pairwise (le' κ)
structure MI(κ:PyProof.Rows.KeyKind)(A B out:List Keyed)(ia ib:Nat):Prop where
 pm:out.Perm (A.take ia++B.take ib)
 so:Srt κ out
 oa:∀x∈out,∀y∈A.drop ia,le' κ x y
 ob:∀x∈out,∀y∈B.drop ib,le' κ x y
theorem MI.symm{A B out:List Keyed}{ia ib:Nat}(h:MI κ A B out ia ib):MI κ B A out ib ia:=⟨h.pm.trans vE,h.so,h.ob,h.oa⟩
theorem Po{A:List Keyed}{i k:Nat}:A.take (i+k)=A.take i++(A.drop i).take k:=by rw[rN]
theorem MI.ext{A B out:List Keyed}{ia ib k:Nat}(h:MI κ A B out ia ib)(sA:Srt κ A)(hx:∀x∈(A.drop ia).take k,∀y∈B.drop ib,le' κ x y):MI κ A B (out++(A.drop ia).take k) (ia+k) ib:=by
 have sd:Srt κ (A.drop ia):=uN (tS _ _) sA;have cut:(A.drop ia).take k++A.drop (ia+k)=A.drop ia:=by rw[←qE];exact xU _ _
 have sp:=pJ.mp (show Srt κ ((A.drop ia).take k++A.drop (ia+k)) by rw[cut];exact sd);refine⟨?_,pJ.mpr ⟨h.so,sp.1,λx hx' y hy=>h.oa x hx' y (sV hy)⟩,λx hx' y hy=>?_,λx hx' y hy=>?_⟩
 ·rw[Po,yR];refine(h.pm.append_right _).trans ?_;rw[yR];exact sG _ vE
 ·rcases pH.mp hx' with q|q
  ·exact h.oa x q y (by rw[←cut];exact yJ _ hy)
  ·exact sp.2.2 x q y hy
 ·rcases pH.mp hx' with q|q
  ·exact h.ob x q y hy
  ·exact hx x q y hy
theorem bD{A:List Keyed}{i:Nat}{p:Keyed}(e:A[i]?=some p):A.drop i=p:: A.drop (i+1):=by
 obtain⟨h,rfl⟩:=pG.mp e;exact uW h
theorem MI.push{A B out:List Keyed}{ia ib:Nat}{p:Keyed}(h:MI κ A B out ia ib)(sA:Srt κ A)(e:A[ia]?=some p)(hx:∀y∈B.drop ib,le' κ p y):MI κ A B (out++[p]) (ia+1) ib:=by
 have:=MI.ext (k:=1) h sA (λx hx' y hy=>by
  rw[bD e]at hx';have hxp:x=p:=by simpa using hx'
  rw[hxp];exact hx y hy)
 rw[bD e]at this;simpa using this
theorem gU{A:List Keyed}{i:Nat}{p q:Keyed}(sA:Srt κ A)(e:A[i]?=some q)(h:le' κ p q):∀y∈A.drop i,le' κ p y:=λy hy=>by
 have sd:Srt κ (A.drop i):=uN (tS _ _) sA;rw[bD e]at hy sd;rcases xE.mp hy with e'|hy
 ·rw[e'];exact h
 ·exact mH h ((List.pairwise_cons.mp sd).1 y hy)
def Res(κ:PyProof.Rows.KeyKind)(A B r:List Keyed):Prop:=r.Perm (A++B)/\Srt κ r
theorem MI.all{A B out:List Keyed}{ia ib:Nat}(h:MI κ A B out ia ib)(sA:Srt κ A)(hb:B.length<=ib):Res κ A B (out++A.drop ia):=by
 refine⟨?_,pJ.mpr ⟨h.so,uN (tS _ _) sA,h.oa⟩⟩;have:=h.pm;rw[wN hb]at this;refine(this.append_right _).trans ?_;rw[yR];refine(sG _ vE).trans ?_;rw[←yR,xU]
theorem Res.symm{A B r:List Keyed}(h:Res κ A B r):Res κ B A r:=⟨h.1.trans vE,h.2⟩
theorem MI.last{A B out:List Keyed}{ia ib:Nat}{p:Keyed}(h:MI κ A B out ia ib)(sB:Srt κ B)(e:A[ia]?=some p)(hl:ia+1=A.length)(hx:∀y∈B,le' κ y p):Res κ A B (out++B.drop ib++A.drop ia):=by
 have da:A.drop ia=[p]:=by rw[bD e,tV ⋯]
 rw[da];refine⟨?_,pJ.mpr ⟨pJ.mpr ⟨h.so,uN (tS _ _) sB,h.ob⟩,List.pairwise_singleton _ _,λx hx' y hy=>?_⟩⟩
 ·have t:A=A.take ia++[p]:=by rw[←da,xU]
  have:=(h.pm.append_right (B.drop ib)).append_right [p];refine this.trans ?_;rw[yR (A.take ia),xU,yR]
  conv=>rhs;rw[t]
  rw[yR];exact sG _ vE
 ·rw[qV.mp hy];rcases pH.mp hx' with q|q
  ·exact h.oa x q p (by rw[da];exact List.mem_singleton_self _)
  ·exact hx x (List.mem_of_mem_drop q)
theorem Ag(a:Array Keyed)(i j:Nat):(a.extract i (i+j)).toList=(a.toList.drop i).take j:=by simp[Array.toList_extract,List.extract_eq_take_drop]
theorem gW(a:Array Keyed)(i:Nat):(a.extract i a.size).toList=a.toList.drop i:=by
 simp only[Array.toList_extract,List.extract_eq_take_drop];exact wN (by rw[vO,zO];exact zG _)
end
section
variable {prog:Program} {w:World} {A:Around} {E:VP} {s:Shared} {κ:PyProof.Rows.KeyKind} {kd:SortKind}
structure MG(κ:PyProof.Rows.KeyKind)(a b:Array Keyed):Prop where
 sa:Srt κ a.toList
 sb:Srt κ b.toList
 ga:∀p∈a.toList,Gd κ p
 gb:∀p∈b.toList,Gd κ p
 na:1<=a.size
 nb:1<=b.size
 top:∀p,a[a.size-1]?=some p->∀y∈b.toList,le' κ y p
 fst:∀p q,b[0]?=some p->a[0]?=some q->le' κ p q
structure Sm(st st':SortSt):Prop where
 k:kindOf st'=kindOf st
 a:arrOf st'=arrOf st
 p:pendingOf st'=pendingOf st
 f:failedOf st'=failedOf st
theorem Sm.refl(st:SortSt):Sm st st:=⟨rfl,rfl,rfl,rfl⟩
theorem Sm.set{st st':SortSt}(h:Sm st st')(g:Nat):Sm st (SortSt.mk' (kindOf st') (arrOf st') (pendingOf st') g (failedOf st')):=⟨h.k,h.a,h.p,h.f⟩
theorem oF{a:Array Keyed}{i:Nat}{p:Keyed}:a[i]?=some p↔a.toList[i]?=some p:=by rw[yZ]
theorem nV{a:Array Keyed}{i:Nat}(h:i<a.size):∃p,a[i]?=some p:=⟨a[i],Array.getElem?_eq_getElem h⟩
theorem lA{st:SortSt}{arr:Array Keyed}{i:Nat}{Q:Keyed->SortSt->Prop}(hi:i<arr.size)(h:∀p,arr[i]?=some p->Q p st):wpS (model prog w) A E s (elem' arr i) Q st:=by
 obtain⟨p,e⟩:=nV hi;exact mL e (h p e)
theorem iF{l:List Keyed}(hs:Srt κ l){i j:Nat}{p q:Keyed}(h:i<=j)(e1:l[i]?=some p)(e2:l[j]?=some q):le' κ p q:=by
 rcases uL i j with h'|h'
 ·obtain⟨h1,rfl⟩:=pG.mp e1;obtain⟨h2,rfl⟩:=pG.mp e2;exact List.pairwise_iff_getElem.mp hs i j h1 h2 h'
 ·have:i=j:=⋯
  subst this;rw[e1]at e2;cases e2;exact jT _
theorem Af{l:List Keyed}{i:Nat}{x:Keyed}(h:x∈l.drop i):∃j,i<=j/\l[j]?=some x:=by
 obtain⟨j,hj,rfl⟩:=xT h;exact⟨i+j,⋯,by rw[←tE];exact xN hj⟩
theorem gX{l:List Keyed}{i k:Nat}{x:Keyed}(h:x∈(l.drop i).take k):∃j,j<k/\l[i+j]?=some x:=by
 obtain⟨j,hj,rfl⟩:=xT h;rw[yW]at hj;refine⟨j,⋯,?_⟩;rw[←tE,List.getElem_take];exact xN ⋯
theorem Pn(hC:Cmp prog w A s κ kd){st:SortSt}{a:Array Keyed}{ia:Nat}{p:Keyed}{Q:Option Nat->SortSt->Prop}(hk:kindOf st=kd)(sa:Srt κ a.toList)(ga:∀x∈a.toList,Gd κ x)(gp:Gd κ p)(hia:ia<a.size)
  (h:∀k,ia+k<=a.size->(∀x∈(a.toList.drop ia).take k,le' κ x p)->(∀y∈a.toList.drop (ia+k),lq κ p y=true)->Q (some k) st):wpS (model prog w) A E s (kB false p a ia (a.size-ia) 0) Q st:=by
 refine eO hC (B:=λi=>!lq κ p (a.getD (ia+i) p)) hk gp ⋯ (λi hi=>?_) (λi j hij hj hb=>?_) λk hkn h1 h2=>h k ⋯ (λx hx=>?_) λy hy=>?_
 ·obtain⟨q,e⟩:=nV (a:=a) (i:=ia+i) ⋯;refine⟨q,e,ga q (yC (oF.mp e)),?_⟩;rw[show a.getD (ia+i) p=q by simp[Array.getD_eq_getD_getElem?,e]];rfl
 ·obtain⟨q,e⟩:=nV (a:=a) (i:=ia+i) ⋯;obtain⟨r,e'⟩:=nV (a:=a) (i:=ia+j) ⋯;rw[show a.getD (ia+j) p=r by simp[Array.getD_eq_getD_getElem?,e']]at hb;rw[show a.getD (ia+i) p=q by simp[Array.getD_eq_getD_getElem?,e]];have l1:le' κ r p:=by unfold le';simpa using hb
  have:=mH (iF sa (show ia+i<=ia+j by omega) (oF.mp e) (oF.mp e')) l1;unfold le' at this;rw[this];rfl
 ·obtain⟨j,hj,e⟩:=gX hx;have:=h1 j hj;rw[show a.getD (ia+j) p=x by simp[Array.getD_eq_getD_getElem?,oF.mpr e]]at this;unfold le';simpa using this
 ·obtain⟨j,hj,e⟩:=Af hy;have hjl:=(pG.mp e).1;rw[zO]at hjl;have:=h2 (j-ia) ⋯ ⋯;rw[show ia+(j-ia)=j by omega,show a.getD j p=y by simp[Array.getD_eq_getD_getElem?,oF.mpr e]]at this;simpa using this
theorem bE(hC:Cmp prog w A s κ kd){st:SortSt}{b:Array Keyed}{ib hint:Nat}{q:Keyed}{n:Nat}{Q:Option Nat->SortSt->Prop}(hk:kindOf st=kd)(sb:Srt κ b.toList)(gb:∀x∈b.toList,Gd κ x)(gq:Gd κ q)(hn:ib+n<=b.size)(hh:hint<n)
  (h:∀k,k<=n->(∀i x,i<k->b[ib+i]?=some x->lq κ x q=true)->(∀i x,k<=i->i<n->b[ib+i]?=some x->le' κ q x)->Q (some k) st):wpS (model prog w) A E s (kB true q b ib n hint) Q st:=by
 refine eO hC (B:=λi=>lq κ (b.getD (ib+i) q) q) hk gq hh (λi hi=>?_) (λi j hij hj hb=>?_) λk hkn h1 h2=>h k hkn (λi x hi e=>?_) λi x hi hin e=>?_
 ·obtain⟨p,e⟩:=nV (a:=b) (i:=ib+i) ⋯;refine⟨p,e,gb p (yC (oF.mp e)),?_⟩;rw[show b.getD (ib+i) q=p by simp[Array.getD_eq_getD_getElem?,e]];rfl
 ·obtain⟨p,e⟩:=nV (a:=b) (i:=ib+i) ⋯;obtain⟨r,e'⟩:=nV (a:=b) (i:=ib+j) ⋯;rw[show b.getD (ib+j) q=r by simp[Array.getD_eq_getD_getElem?,e']]at hb;rw[show b.getD (ib+i) q=p by simp[Array.getD_eq_getD_getElem?,e]];exact KeyOrd.klt_of_kle_of_klt (O:=κ.toKeyOrd) (iF sb (show ib+i<=ib+j by omega) (oF.mp e) (oF.mp e')) hb
 ·have:=h1 i hi;rw[show b.getD (ib+i) q=x by simp[Array.getD_eq_getD_getElem?,e]]at this;exact this
 ·have:=h2 i hi hin;rw[show b.getD (ib+i) q=x by simp[Array.getD_eq_getD_getElem?,e]]at this;exact this
end
noncomputable def Ae:Array Keyed->Array Keyed->StateT SortSt Sem (Array Keyed):=sortPriv%PySem.Builtin.mergeLo
noncomputable def eP:Nat->StateT SortSt Sem Unit:=sortPriv%PySem.Builtin.setMinGallop
theorem Pm(a b:Array Keyed):Ae a b=(do
 rule "list.sort.merge-lo"
 let total:=a.size+b.size
 let done (out:Array Keyed) (ia ib:Nat):=out++a.extract ia a.size++b.extract ib b.size
 let lastOfA (out:Array Keyed) (ia ib:Nat):=out++b.extract ib b.size++a.extract ia a.size
 let mut out:Array Keyed:=#[←elem' b 0]
 let mut ia:=0
 let mut ib:=1
 if ib == b.size then return done out ia ib
 if ia+1 == a.size then return lastOfA out ia ib
 let mut minGallop:=gallopOf (←get)
 for _ in[0:total] do
  let mut acount:=0
  let mut bcount:=0
  for _ in[0:total] do
   let some bWins ←lt' (←elem' b ib) (←elem' a ia)|return done out ia ib
   if bWins then
    out:=out.push (←elem' b ib);ib:=ib+1;bcount:=bcount+1;acount:=0
    if ib == b.size then return done out ia ib
    if bcount≥minGallop then break
   else
    out:=out.push (←elem' a ia);ia:=ia+1;acount:=acount+1;bcount:=0
    if ia+1 == a.size then return lastOfA out ia ib
    if acount≥minGallop then break
  rule "list.sort.gallop"
  minGallop:=minGallop+1
  for _ in[0:total] do
   if minGallop > 1 then minGallop:=minGallop-1
   eP minGallop
   let some k ←kB false (←elem' b ib) a ia (a.size-ia) 0|return done out ia ib
   acount:=k
   if k > 0 then
    out:=out++a.extract ia (ia+k);ia:=ia+k
    if ia+1 == a.size then return lastOfA out ia ib
    if ia == a.size then return done out ia ib
   out:=out.push (←elem' b ib);ib:=ib+1
   if ib == b.size then return done out ia ib
   let some k ←kB true (←elem' a ia) b ib (b.size-ib) 0|return done out ia ib
   bcount:=k
   if k > 0 then
    out:=out++b.extract ib (ib+k);ib:=ib+k
    if ib == b.size then return done out ia ib
   out:=out.push (←elem' a ia);ia:=ia+1
   if ia+1 == a.size then return lastOfA out ia ib
   if acount<7 && bcount<7 then break
  minGallop:=minGallop+1
  eP minGallop
 unsupported "internal:list.sort.merge-bound"):=rfl
theorem bF(g:Nat):eP g=modify λs=>SortSt.mk' (kindOf s) (arrOf s) (pendingOf s) g (failedOf s):=rfl
section
variable {prog:Program} {w:World} {A:Around} {E:VP} {s:Shared} {κ:PyProof.Rows.KeyKind} {kd:SortKind}
theorem gY{a b out:Array Keyed}{ia ib:Nat}(G:MG κ a b)(h:MI κ a.toList b.toList out.toList ia ib)(hb:b.size<=ib):Res κ a.toList b.toList (out++a.extract ia a.size++b.extract ib b.size).toList:=by
 rw[yN,yN,gW,gW,tV (as:=b.toList) (by rw[zO];exact hb),vG];exact h.all G.sa (by rw[zO];exact hb)
theorem Pl{a b out:Array Keyed}{ia ib:Nat}(G:MG κ a b)(h:MI κ a.toList b.toList out.toList ia ib)(ha:a.size<=ia):Res κ a.toList b.toList (out++a.extract ia a.size++b.extract ib b.size).toList:=by
 rw[yN,yN,gW,gW,tV (as:=a.toList) (by rw[zO];exact ha),vG];exact(h.symm.all G.sb (by rw[zO];exact ha)).symm
theorem hJ{a b out:Array Keyed}{ia ib:Nat}(G:MG κ a b)(h:MI κ a.toList b.toList out.toList ia ib)(ha:ia+1=a.size):Res κ a.toList b.toList (out++b.extract ib b.size++a.extract ia a.size).toList:=by
 rw[yN,yN,gW,gW];obtain⟨p,e⟩:=nV (a:=a) (i:=ia) ⋯;exact h.last G.sb (oF.mp e) (by rw[zO];exact ha) (G.top p (by rw[show a.size-1=ia by omega];exact e))
theorem bG{a b out:Array Keyed}{ia ib:Nat}{p:Keyed}(G:MG κ a b)(h:MI κ a.toList b.toList out.toList ia ib)(e:b[ib]?=some p)(hx:∀y∈a.toList.drop ia,le' κ p y):MI κ a.toList b.toList (out.push p).toList ia (ib+1):=by
 rw[uF];exact(h.symm.push G.sb (oF.mp e) hx).symm
theorem eQ{a b out:Array Keyed}{ia ib:Nat}{p:Keyed}(G:MG κ a b)(h:MI κ a.toList b.toList out.toList ia ib)(e:a[ia]?=some p)(hx:∀y∈b.toList.drop ib,le' κ p y):MI κ a.toList b.toList (out.push p).toList (ia+1) ib:=by
 rw[uF];exact h.push G.sa (oF.mp e) hx
theorem Pk{a b out:Array Keyed}{ia ib k:Nat}{p:Keyed}(G:MG κ a b)(h:MI κ a.toList b.toList out.toList ia ib)(e:b[ib]?=some p)(hx:∀x∈(a.toList.drop ia).take k,le' κ x p):MI κ a.toList b.toList (out++a.extract ia (ia+k)).toList (ia+k) ib:=by
 rw[yN,Ag];exact h.ext G.sa λx hx' y hy=>mH (hx x hx') (gU G.sb (oF.mp e) (jT p) y hy)
theorem Gw{a b out:Array Keyed}{ia ib k:Nat}{p:Keyed}(G:MG κ a b)(h:MI κ a.toList b.toList out.toList ia ib)(e:a[ia]?=some p)(hx:∀x∈(b.toList.drop ib).take k,le' κ x p):MI κ a.toList b.toList (out++b.extract ib (ib+k)).toList ia (ib+k):=by
 rw[yN,Ag];exact(h.symm.ext G.sb λx hx' y hy=>mH (hx x hx') (gU G.sa (oF.mp e) (jT p) y hy)).symm
theorem Ad{a out:Array Keyed}{i:Nat}:out++a.extract i (i+0)=out:=by simp;omega
theorem oJ{α:Type}{c:Prop}[Decidable c]{t e:StateT SortSt Sem α}{Q:α->SortSt->Prop}{st:SortSt}(h1:c->wpS (model prog w) A E s t Q st)(h2:¬ c->wpS (model prog w) A E s e Q st):wpS (model prog w) A E s (if c then t else e) Q st:=by
 by_cases h:c
 ·rw[zJ h];exact h1 h
 ·rw[zI h];exact h2 h
theorem Gv{α:Type}{c:Nat->Prop}[∀m,Decidable (c m)]{t F:Nat->StateT SortSt Sem α}{Q:α->SortSt->Prop}{st:SortSt}(h:∀m,wpS (model prog w) A E s (F m) Q st)(e:∀m,F (m-1)=t m)(m:Nat):wpS (model prog w) A E s (if c m then t m else F m) Q st:=oJ (λ_=>by rw[←e];exact h _) λ_=>h m
theorem Pj(hC:Cmp prog w A s κ kd){st:SortSt}{a b:Array Keyed}{Q:Array Keyed->SortSt->Prop}(hk:kindOf st=kd)(G:MG κ a b)
  (h:∀r st',Sm st st'->Res κ a.toList b.toList r.toList->Q r st'):wpS (model prog w) A E s (Ae a b) Q st:=by
 have na:=G.na;have nb:=G.nb;have gA:∀i p,a[i]?=some p->Gd κ p:=λi p e=>G.ga p (yC (oF.mp e));have gB:∀i p,b[i]?=some p->Gd κ p:=λi p e=>G.gb p (yC (oF.mp e));rw[Pm];refine zF (rD (wP ⟨rfl,?_⟩));refine zF (lA ⋯ λp0 e0=>?_);dsimp only;obtain⟨q0,f0⟩:=nV (a:=a) (i:=0) ⋯;have m0:MI κ a.toList b.toList (#[p0]:Array Keyed).toList 0 1:=by
  have:=bG (out:=#[]) (ia:=0) (ib:=0) G ⟨by simp,List.Pairwise.nil,λx hx=>by simp at hx,λx hx=>by simp at hx⟩ e0 (gU G.sa (oF.mp f0) (G.fst p0 q0 e0 f0));simpa using this
 by_cases hb1:(1 == b.size)=true
 ·rw[zJ hb1];exact zH (h _ _ (Sm.refl _) (gY G m0 (by have:=yQ hb1;omega)))
 rw[zI hb1];have hb1':1≠b.size:=λe=>hb1 (qT.mpr e)
 by_cases ha1:(0+1 == a.size)=true
 ·rw[zJ ha1];exact zH (h _ _ (Sm.refl _) (hJ G m0 (by have:=yQ ha1;omega)))
 rw[zI ha1];have ha1':0+1≠a.size:=λe=>ha1 (qT.mpr e);refine zF (uM ?_);refine zF (wH (xH (I:=λx c st'=>Sm st st'/\E4 λ(out:Array Keyed)(ia ib mg:Nat)=>A5 (c=(none,out,ia,ib,mg)) (MI κ a.toList b.toList out.toList ia ib) (ia+1<a.size) (ib<b.size) (x+1<=ia+ib))
  (Q:=λc st'=>Sm st st'/\∃r t,c=(some r,t)/\Res κ a.toList b.toList r.toList) ?_ ?_ ⟨Sm.refl _,_,_,_,_,rfl,m0,⋯,⋯,⋯⟩) ?_)
 ·rintro x c st1 _ hx ⟨sm,out,ia,ib,mg,rfl,mi,lia,lib,pr⟩;dsimp only;refine zF (wH (xH (I:=λy c st'=>Sm st st'/\E5 λ(out:Array Keyed)(ia ib ac bc:Nat)=>A6 (c=(none,out,ia,ib,ac,bc)) (MI κ a.toList b.toList out.toList ia ib) (ia+1<a.size) (ib<b.size) (x+1<=ia+ib) (1<=y->x+2<=ia+ib))
   (Q:=λc st'=>Sm st st'/\((∃r t,c=(some r,t)/\Res κ a.toList b.toList r.toList)\/E5 λ(out:Array Keyed)(ia ib ac bc:Nat)=>A5 (c=(none,out,ia,ib,ac,bc)) (MI κ a.toList b.toList out.toList ia ib) (ia+1<a.size) (ib<b.size) (x+2<=ia+ib))) ?_ ?_ ⟨sm,out,ia,ib,0,0,rfl,mi,lia,lib,pr,⋯⟩) ?_)
  ·rintro y c st2 _ hy ⟨sm,out,ia,ib,ac,bc,rfl,mi,lia,lib,pr,_⟩;dsimp only;refine zF (lA lib λp e=>?_);refine zF (lA (show ia<a.size by omega) λq f=>?_);refine zF (eN hC (by rw[sm.k];exact hk) (gB _ _ e) (gA _ _ f) ?_);dsimp only;cases hl:lq κ p q with
   |true =>
    rw[zJ rfl];have mi':=bG G mi e (gU G.sa (oF.mp f) (mO hl));refine zF (mL e ?_)
    by_cases hz:(ib+1 == b.size)=true
    ·rw[zJ hz];exact zH ⟨sm,.inl ⟨_,_,rfl,gY G mi' (by have:=yQ hz;omega)⟩⟩
    rw[zI hz];have hz':ib+1≠b.size:=λe=>hz (qT.mpr e);split
    ·exact zH ⟨sm,.inr ⟨_,_,_,_,_,rfl,mi',lia,⋯,⋯⟩⟩
    ·exact zH ⟨sm,_,_,_,_,_,rfl,mi',lia,⋯,⋯,⋯⟩
   |false =>
    rw[zI (by simp)];have mi':=eQ G mi f (gU G.sb (oF.mp e) hl);refine zF (mL f ?_)
    by_cases hz:(ia+1+1 == a.size)=true
    ·rw[zJ hz];exact zH ⟨sm,.inl ⟨_,_,rfl,hJ G mi' (by have:=yQ hz;omega)⟩⟩
    rw[zI hz];have hz':ia+1+1≠a.size:=λe=>hz (qT.mpr e);split
    ·exact zH ⟨sm,.inr ⟨_,_,_,_,_,rfl,mi',⋯,lib,⋯⟩⟩
    ·exact zH ⟨sm,_,_,_,_,_,rfl,mi',⋯,lib,⋯,⋯⟩
  ·rintro c st2 ⟨sm,out,ia,ib,ac,bc,rfl,mi,lia,lib,pr,pr2⟩;exact⟨sm,.inr ⟨_,_,_,_,_,rfl,mi,lia,lib,pr2 ⋯⟩⟩
  ·rintro c st2 ⟨sm,⟨r,t,rfl,res⟩|⟨out,ia,ib,ac,bc,rfl,mi,lia,lib,pr⟩⟩
   ·exact zH ⟨sm,_,_,rfl,res⟩
   dsimp only;refine zF (rD (wP ⟨rfl,?_⟩));refine zF (wH (xH (I:=λy c st'=>Sm st st'/\E6 λ(out:Array Keyed)(ia ib mg ac bc:Nat)=>A5 (c=(none,out,ia,ib,mg,ac,bc)) (MI κ a.toList b.toList out.toList ia ib) (ia+1<a.size) (ib<b.size) (x+2<=ia+ib))
    (Q:=λc st'=>Sm st st'/\((∃r t,c=(some r,t)/\Res κ a.toList b.toList r.toList)\/E6 λ(out:Array Keyed)(ia ib mg ac bc:Nat)=>A5 (c=(none,out,ia,ib,mg,ac,bc)) (MI κ a.toList b.toList out.toList ia ib) (ia+1<a.size) (ib<b.size) (x+2<=ia+ib))) ?_ ?_ ⟨sm,_,_,_,_,_,_,rfl,mi,lia,lib,pr⟩) ?_)
   ·rintro y c st3 _ hy ⟨sm,out,ia,ib,mg,ac,bc,rfl,mi,lia,lib,pr⟩;dsimp only
    revert mg
    refine Gv (λmg=>?_) λ_=>rfl;rw[bF];refine zF (wQ ?_);refine zF (lA (arr:=b) lib λp e=>?_);refine zF (Pn hC (show kindOf _=kd from sm.k.trans hk) G.sa G.ga (gB _ _ e) (show ia<a.size by omega) λk hk1 hk2 hk3=>?_);have mk:=Pk G mi e hk2;dsimp only;refine oJ (λhkp=>?_) λhkp=>?_
    ·refine oJ (λz=>?_) λz=>?_
     ·exact zH ⟨sm.set _,.inl ⟨_,_,rfl,hJ G mk (yQ z)⟩⟩
     have z':ia+k+1≠a.size:=λe=>z (qT.mpr e);refine oJ (λy=>?_) λy=>?_
     ·exact zH ⟨sm.set _,.inl ⟨_,_,rfl,Pl G mk (by have:=yQ y;omega)⟩⟩
     have y':ia+k≠a.size:=λe=>y (qT.mpr e);have mp:=bG G mk e λy hy=>mO (hk3 y hy);refine zF (mL e ?_);refine oJ (λz=>?_) λz=>?_
     ·exact zH ⟨sm.set _,.inl ⟨_,_,rfl,gY G mp (by have:=yQ z;omega)⟩⟩
     have zb:ib+1≠b.size:=λe=>z (qT.mpr e);refine zF (lA (arr:=a) (i:=(ia+k)) ⋯ λq f=>?_);refine zF (bE hC (show kindOf _=kd from sm.k.trans hk) G.sb G.gb (gA _ _ f) (show ib+1+(b.size-(ib+1))<=b.size by omega) ⋯ λk2 j1 j2 j3=>?_);have mq:=Gw (k:=k2) G mp f λx hx=>by
      obtain⟨j,hj,ej⟩:=gX hx;exact mO (j2 j x hj (oF.mpr ej))
     have nx:∀y∈b.toList.drop (ib+1+k2),le' κ q y:=λy hy=>by
      obtain⟨j,hj,ej⟩:=Af hy;have hjl:=(pG.mp ej).1;rw[zO]at hjl;exact j3 (j-(ib+1)) y ⋯ ⋯ (by rw[show ib+1+(j-(ib+1))=j by omega];exact oF.mpr ej)
     dsimp only;refine oJ (λhkq=>?_) λhkq=>?_
     ·refine oJ (λz=>?_) λz=>?_
      ·exact zH ⟨sm.set _,.inl ⟨_,_,rfl,gY G mq (by have:=yQ z;omega)⟩⟩
      have zc:ib+1+k2≠b.size:=λe=>z (qT.mpr e);have mr:=eQ G mq f nx;refine zF (mL f ?_);refine oJ (λz=>?_) λz=>?_
      ·exact zH ⟨sm.set _,.inl ⟨_,_,rfl,hJ G mr (yQ z)⟩⟩
      have zd:(ia+k)+1+1≠a.size:=λe=>z (qT.mpr e);refine oJ (λ_=>?_) λ_=>?_
      ·exact zH ⟨sm.set _,.inr ⟨_,_,_,_,_,_,rfl,mr,⋯,⋯,⋯⟩⟩
      ·exact zH ⟨sm.set _,_,_,_,_,_,_,rfl,mr,⋯,⋯,⋯⟩
     ·have k20:k2=0:=⋯
      subst k20;rw[Ad]at mq;simp only[Nat.add_zero]at mq nx;have mr:=eQ G mq f nx;refine zF (mL f ?_);refine oJ (λz=>?_) λz=>?_
      ·exact zH ⟨sm.set _,.inl ⟨_,_,rfl,hJ G mr (yQ z)⟩⟩
      have zd:(ia+k)+1+1≠a.size:=λe=>z (qT.mpr e);refine oJ (λ_=>?_) λ_=>?_
      ·exact zH ⟨sm.set _,.inr ⟨_,_,_,_,_,_,rfl,mr,⋯,⋯,⋯⟩⟩
      ·exact zH ⟨sm.set _,_,_,_,_,_,_,rfl,mr,⋯,⋯,⋯⟩
    ·have k0:k=0:=⋯
     subst k0;rw[Ad]at mk;simp only[Nat.add_zero]at mk hk3;have mp:=bG G mk e λy hy=>mO (hk3 y hy);refine zF (mL e ?_);refine oJ (λz=>?_) λz=>?_
     ·exact zH ⟨sm.set _,.inl ⟨_,_,rfl,gY G mp (by have:=yQ z;omega)⟩⟩
     have zb:ib+1≠b.size:=λe=>z (qT.mpr e);refine zF (lA (arr:=a) (i:=ia) ⋯ λq f=>?_);refine zF (bE hC (show kindOf _=kd from sm.k.trans hk) G.sb G.gb (gA _ _ f) (show ib+1+(b.size-(ib+1))<=b.size by omega) ⋯ λk2 j1 j2 j3=>?_);have mq:=Gw (k:=k2) G mp f λx hx=>by
      obtain⟨j,hj,ej⟩:=gX hx;exact mO (j2 j x hj (oF.mpr ej))
     have nx:∀y∈b.toList.drop (ib+1+k2),le' κ q y:=λy hy=>by
      obtain⟨j,hj,ej⟩:=Af hy;have hjl:=(pG.mp ej).1;rw[zO]at hjl;exact j3 (j-(ib+1)) y ⋯ ⋯ (by rw[show ib+1+(j-(ib+1))=j by omega];exact oF.mpr ej)
     dsimp only;refine oJ (λhkq=>?_) λhkq=>?_
     ·refine oJ (λz=>?_) λz=>?_
      ·exact zH ⟨sm.set _,.inl ⟨_,_,rfl,gY G mq (by have:=yQ z;omega)⟩⟩
      have zc:ib+1+k2≠b.size:=λe=>z (qT.mpr e);have mr:=eQ G mq f nx;refine zF (mL f ?_);refine oJ (λz=>?_) λz=>?_
      ·exact zH ⟨sm.set _,.inl ⟨_,_,rfl,hJ G mr (yQ z)⟩⟩
      have zd:ia+1+1≠a.size:=λe=>z (qT.mpr e);refine oJ (λ_=>?_) λ_=>?_
      ·exact zH ⟨sm.set _,.inr ⟨_,_,_,_,_,_,rfl,mr,⋯,⋯,⋯⟩⟩
      ·exact zH ⟨sm.set _,_,_,_,_,_,_,rfl,mr,⋯,⋯,⋯⟩
     ·have k20:k2=0:=⋯
      subst k20;rw[Ad]at mq;simp only[Nat.add_zero]at mq nx;have mr:=eQ G mq f nx;refine zF (mL f ?_);refine oJ (λz=>?_) λz=>?_
      ·exact zH ⟨sm.set _,.inl ⟨_,_,rfl,hJ G mr (yQ z)⟩⟩
      have zd:ia+1+1≠a.size:=λe=>z (qT.mpr e);refine oJ (λ_=>?_) λ_=>?_
      ·exact zH ⟨sm.set _,.inr ⟨_,_,_,_,_,_,rfl,mr,⋯,⋯,⋯⟩⟩
      ·exact zH ⟨sm.set _,_,_,_,_,_,_,rfl,mr,⋯,⋯,⋯⟩
   ·rintro c st3 ⟨sm,out,ia,ib,mg,ac,bc,rfl,mi,lia,lib,pr⟩;exact⟨sm,.inr ⟨_,_,_,_,_,_,rfl,mi,lia,lib,pr⟩⟩
   ·rintro c st3 ⟨sm,⟨r,t,rfl,res⟩|⟨out,ia,ib,mg,ac,bc,rfl,mi,lia,lib,pr⟩⟩
    ·exact zH ⟨sm,_,_,rfl,res⟩
    dsimp only;rw[bF];refine zF (wQ (zH ⟨sm.set _,_,_,_,_,rfl,mi,lia,lib,⋯⟩))
 ·rintro c st1 ⟨sm,out,ia,ib,mg,rfl,mi,lia,lib,pr⟩;omega
 ·rintro c st1 ⟨sm,r,t,rfl,res⟩;exact zH (h r st1 sm res)
end
noncomputable def Ac:Array Keyed->Array Keyed->StateT SortSt Sem (Array Keyed):=sortPriv%PySem.Builtin.mergeHi
theorem Pi(a b:Array Keyed):Ac a b=(do
 rule "list.sort.merge-hi"
 let total:=a.size+b.size
 let done (out:Array Keyed) (na nb:Nat):=a.extract 0 na++b.extract 0 nb++out.reverse
 let firstOfB (out:Array Keyed) (na nb:Nat):=b.extract 0 nb++a.extract 0 na++out.reverse
 let mut na:=a.size-1
 let mut nb:=b.size
 let mut out:Array Keyed:=#[←elem' a na]
 if na == 0 then return done out na nb
 if nb == 1 then return firstOfB out na nb
 let mut minGallop:=gallopOf (←get)
 for _ in[0:total] do
  let mut acount:=0
  let mut bcount:=0
  for _ in[0:total] do
   let some aWins ←lt' (←elem' b (nb-1)) (←elem' a (na-1))|return done out na nb
   if aWins then
    na:=na-1;out:=out.push (←elem' a na);acount:=acount+1;bcount:=0
    if na == 0 then return done out na nb
    if acount≥minGallop then break
   else
    nb:=nb-1;out:=out.push (←elem' b nb);bcount:=bcount+1;acount:=0
    if nb == 1 then return firstOfB out na nb
    if bcount≥minGallop then break
  rule "list.sort.gallop"
  minGallop:=minGallop+1
  for _ in[0:total] do
   if minGallop > 1 then minGallop:=minGallop-1
   eP minGallop
   let some at_ ←kB false (←elem' b (nb-1)) a 0 na (na-1)|return done out na nb
   let k:=na-at_
   acount:=k
   if k > 0 then
    out:=out++(a.extract at_ na).reverse;na:=at_
    if na == 0 then return done out na nb
   nb:=nb-1;out:=out.push (←elem' b nb)
   if nb == 1 then return firstOfB out na nb
   let some at_ ←kB true (←elem' a (na-1)) b 0 nb (nb-1)|return done out na nb
   let k:=nb-at_
   bcount:=k
   if k > 0 then
    out:=out++(b.extract at_ nb).reverse;nb:=at_
    if nb == 1 then return firstOfB out na nb
    if nb == 0 then return done out na nb
   na:=na-1;out:=out.push (←elem' a na)
   if na == 0 then return done out na nb
   if acount<7 && bcount<7 then break
  minGallop:=minGallop+1
  eP minGallop
 unsupported "internal:list.sort.merge-bound"):=rfl
noncomputable def revK(κ:PyProof.Rows.KeyKind):PyProof.Rows.KeyKind where
 α:=κ.α
 blt:=λa b=>κ.blt b a
 irrefl:=κ.irrefl
 trans:=λa b c h1 h2=>κ.trans c b a h2 h1
 negTrans:=λa b c h=>(κ.negTrans c b a h).symm
 total:=λa b h1 h2=>κ.total a b h2 h1
 keyOf:=κ.keyOf
 dflt:=κ.dflt
section
variable {prog:Program} {w:World} {A:Around} {E:VP} {s:Shared} {κ:PyProof.Rows.KeyKind} {kd:SortKind}
theorem Gu{x y:Keyed}:le' (revK κ) x y↔le' κ y x:=Iff.rfl
theorem hZ{l:List Keyed}(h:Srt κ l):Srt (revK κ) l.reverse:=List.pairwise_reverse.mpr h
theorem Ph{l:List Keyed}(h:Srt (revK κ) l):Srt κ l.reverse:=List.pairwise_reverse.mpr h
def MH(κ:PyProof.Rows.KeyKind)(a b out:Array Keyed)(na nb:Nat):Prop:=MI (revK κ) a.toList.reverse b.toList.reverse out.toList (a.size-na) (b.size-nb)
theorem Ab{a:Array Keyed}{n:Nat}{p:Keyed}(h:n<a.size)(e:a[n]?=some p):a.toList.reverse[a.size-(n+1)]?=some p:=by
 rw[sH (by rw[zO];omega),zO,show a.size-1-(a.size-(n+1))=n by omega];exact oF.mp e
theorem gZ{a:Array Keyed}{n:Nat}(h:n<=a.size):a.toList.reverse.drop (a.size-n)=(a.toList.take n).reverse:=by
 rw[List.drop_reverse,zO,show a.size-(a.size-n)=n by omega]
theorem bH{a:Array Keyed}{n:Nat}{y:Keyed}(h:n<=a.size)(hy:y∈a.toList.reverse.drop (a.size-n)):∃i,i<n/\a[i]?=some y:=by
 rw[gZ h]at hy;obtain⟨i,hi,e⟩:=xT (pE.mp hy);rw[yW]at hi;refine⟨i,⋯,?_⟩;rw[oF,←e,List.getElem_take];exact xN _
theorem Aa{a b r:Array Keyed}{l:List Keyed}(e:r.toList.reverse=l)(h:Res (revK κ) a.toList.reverse b.toList.reverse l):Res κ a.toList b.toList r.toList:=by
 subst e;refine⟨?_,?_⟩
 ·refine(rQ r.toList).symm.trans (h.1.trans ?_);exact((rQ _).append (rQ _))
 ·have:=Ph h.2
  rwa[List.reverse_reverse]at this
theorem fA{a:Array Keyed}{n:Nat}:(a.extract 0 n).toList=a.toList.take n:=by
 have:=Ag a 0 n;rw[wM,List.drop_zero]at this;exact this
theorem gC{a b out:Array Keyed}{nb:Nat}(G:MG κ a b)(h:MH κ a b out 0 nb)(hb:nb<=b.size):Res κ a.toList b.toList (a.extract 0 0++b.extract 0 nb++out.reverse).toList:=by
 refine Aa (l:=out.toList++b.toList.reverse.drop (b.size-nb)) ?_ ((MI.symm h).all (hZ G.sb) (by simp)).symm;rw[yN,yN,fA,fA,gZ hb,uP];simp
theorem Gs{a b out:Array Keyed}{na:Nat}(G:MG κ a b)(h:MH κ a b out na 0)(ha:na<=a.size):Res κ a.toList b.toList (a.extract 0 na++b.extract 0 0++out.reverse).toList:=by
 refine Aa (l:=out.toList++a.toList.reverse.drop (a.size-na)) ?_ (MI.all h (hZ G.sa) (by simp));rw[yN,yN,fA,fA,gZ ha,uP];simp
theorem fB{a b out:Array Keyed}{na:Nat}(G:MG κ a b)(h:MH κ a b out na 1)(ha:na<=a.size):Res κ a.toList b.toList (b.extract 0 1++a.extract 0 na++out.reverse).toList:=by
 have hb:=G.nb;obtain⟨p,e⟩:=nV (a:=b) (i:=0) ⋯;obtain⟨q,f⟩:=nV (a:=a) (i:=0) (by have:=G.na;omega);refine Aa (l:=out.toList++a.toList.reverse.drop (a.size-na)++b.toList.reverse.drop (b.size-1)) ?_ (Res.symm ((MI.symm h).last (hZ G.sa) (Ab ⋯ e) (by rw[List.length_reverse,zO];omega) λy hy=>?_))
 ·rw[yN,yN,fA,fA,gZ ha,gZ hb,uP];simp
 ·exact gU G.sa (oF.mp f) (G.fst p q e f) y (by simpa using pE.mp hy)
theorem fC{a b out:Array Keyed}{na nb:Nat}{p:Keyed}(G:MG κ a b)(h:MH κ a b out (na+1) nb)(hn:na<a.size)(hb:nb<=b.size)(e:a[na]?=some p)(hx:∀i y,i<nb->b[i]?=some y->le' κ y p):MH κ a b (out.push p) na nb:=by
 unfold MH at h ⊢;rw[uF,show a.size-na=a.size-(na+1)+1 by omega];exact MI.push h (hZ G.sa) (Ab hn e) λy hy=>by
  obtain⟨i,hi,ei⟩:=bH hb hy;exact hx i y hi ei
theorem Bz{a b out:Array Keyed}{na nb:Nat}{p:Keyed}(G:MG κ a b)(h:MH κ a b out na (nb+1))(hn:nb<b.size)(ha:na<=a.size)(e:b[nb]?=some p)(hx:∀i y,i<na->a[i]?=some y->le' κ y p):MH κ a b (out.push p) na nb:=by
 unfold MH at h ⊢;rw[uF,show b.size-nb=b.size-(nb+1)+1 by omega];exact(MI.push (MI.symm h) (hZ G.sb) (Ab hn e) λy hy=>by
  obtain⟨i,hi,ei⟩:=bH ha hy;exact hx i y hi ei).symm
theorem Gr{a:Array Keyed}{n m:Nat}(h:n<=a.size)(hm:m<=n):(a.extract m n).reverse.toList=(a.toList.reverse.drop (a.size-n)).take (n-m):=by
 rw[gZ h,uP,List.take_reverse,yW,zO,show min n a.size-(n-m)=m by omega];simp only[Array.toList_extract,List.extract_eq_take_drop];rw[List.drop_take]
theorem Pg{a b out:Array Keyed}{na nb m:Nat}{p:Keyed}(G:MG κ a b)(h:MH κ a b out na nb)(ha:na<=a.size)(hm:m<=na)(hb:nb<=b.size)(hb0:0<nb)(e:b[nb-1]?=some p)(hx:∀i x,m<=i->i<na->a[i]?=some x->le' κ p x):MH κ a b (out++(a.extract m na).reverse) m nb:=by
 unfold MH at h ⊢;rw[yN,Gr ha hm,show a.size-m=a.size-na+(na-m) by omega];refine MI.ext h (hZ G.sa) λx hx' y hy=>?_;obtain⟨i,hi,ei⟩:=bH hb hy;obtain⟨j,hj,ej⟩:=gX hx';rw[sH (by rw[zO];omega),zO]at ej;have l1:le' κ y p:=iF G.sb (show i<=nb-1 by omega) (oF.mp ei) (oF.mp e);exact Gu.mpr (mH l1 (hx _ x ⋯ ⋯ (oF.mpr ej)))
theorem Gq{a b out:Array Keyed}{na nb m:Nat}{p:Keyed}(G:MG κ a b)(h:MH κ a b out na nb)(ha:nb<=b.size)(hm:m<=nb)(hb:na<=a.size)(hb0:0<na)(e:a[na-1]?=some p)(hx:∀i x,m<=i->i<nb->b[i]?=some x->le' κ p x):MH κ a b (out++(b.extract m nb).reverse) na m:=by
 unfold MH at h ⊢;rw[yN,Gr ha hm,show b.size-m=b.size-nb+(nb-m) by omega];refine(MI.ext (MI.symm h) (hZ G.sb) λx hx' y hy=>?_).symm;obtain⟨i,hi,ei⟩:=bH hb hy;obtain⟨j,hj,ej⟩:=gX hx';rw[sH (by rw[zO];omega),zO]at ej;have l1:le' κ y p:=iF G.sa (show i<=na-1 by omega) (oF.mp ei) (oF.mp e);exact Gu.mpr (mH l1 (hx _ x ⋯ ⋯ (oF.mpr ej)))
theorem Pf(hC:Cmp prog w A s κ kd){st:SortSt}{b:Array Keyed}{ib hint:Nat}{q:Keyed}{n:Nat}{Q:Option Nat->SortSt->Prop}(hk:kindOf st=kd)(sb:Srt κ b.toList)(gb:∀x∈b.toList,Gd κ x)(gq:Gd κ q)(hn:ib+n<=b.size)(hh:hint<n)
  (h:∀k,k<=n->(∀i x,i<k->b[ib+i]?=some x->le' κ x q)->(∀i x,k<=i->i<n->b[ib+i]?=some x->lq κ q x=true)->Q (some k) st):wpS (model prog w) A E s (kB false q b ib n hint) Q st:=by
 refine eO hC (B:=λi=>!lq κ q (b.getD (ib+i) q)) hk gq hh (λi hi=>?_) (λi j hij hj hb=>?_) λk hkn h1 h2=>h k hkn (λi x hi e=>?_) λi x hi hin e=>?_
 ·obtain⟨p,e⟩:=nV (a:=b) (i:=ib+i) ⋯;refine⟨p,e,gb p (yC (oF.mp e)),?_⟩;rw[show b.getD (ib+i) q=p by simp[Array.getD_eq_getD_getElem?,e]];rfl
 ·obtain⟨p,e⟩:=nV (a:=b) (i:=ib+i) ⋯;obtain⟨r,e'⟩:=nV (a:=b) (i:=ib+j) ⋯;rw[show b.getD (ib+j) q=r by simp[Array.getD_eq_getD_getElem?,e']]at hb;rw[show b.getD (ib+i) q=p by simp[Array.getD_eq_getD_getElem?,e]];have l1:le' κ r q:=by unfold le';simpa using hb
  have:=mH (iF sb (show ib+i<=ib+j by omega) (oF.mp e) (oF.mp e')) l1;unfold le' at this;rw[this];rfl
 ·have:=h1 i hi;rw[show b.getD (ib+i) q=x by simp[Array.getD_eq_getD_getElem?,e]]at this;unfold le';simpa using this
 ·have:=h2 i hi hin;rw[show b.getD (ib+i) q=x by simp[Array.getD_eq_getD_getElem?,e]]at this;simpa using this
theorem By{a out:Array Keyed}{n:Nat}:out++(a.extract n n).reverse=out:=by simp;omega
theorem Pe(hC:Cmp prog w A s κ kd){st:SortSt}{a b:Array Keyed}{Q:Array Keyed->SortSt->Prop}(hk:kindOf st=kd)(G:MG κ a b)
  (h:∀r st',Sm st st'->Res κ a.toList b.toList r.toList->Q r st'):wpS (model prog w) A E s (Ac a b) Q st:=by
 have na1:=G.na;have nb1:=G.nb;have gA:∀i p,a[i]?=some p->Gd κ p:=λi p e=>G.ga p (yC (oF.mp e));have gB:∀i p,b[i]?=some p->Gd κ p:=λi p e=>G.gb p (yC (oF.mp e));rw[Pi];refine zF (rD (wP ⟨rfl,?_⟩));refine zF (lA ⋯ λp0 e0=>?_);dsimp only;have m0:MH κ a b #[p0] (a.size-1) b.size:=by
  have i0:MH κ a b #[] (a.size-1+1) b.size:=by
   unfold MH;rw[show a.size-(a.size-1+1)=0 by omega,tJ];exact⟨by simp,List.Pairwise.nil,λx hx=>by simp at hx,λx hx=>by simp at hx⟩
  exact fC G i0 ⋯ (zG _) e0 λi y _ ey=>G.top p0 e0 y (yC (oF.mp ey))
 refine oJ (λz=>?_) λz=>?_
 ·have z0:=yQ z;rw[z0]at m0 ⊢;exact zH (h _ _ (Sm.refl _) (gC G m0 (zG _)))
 have z':a.size-1≠0:=λe=>z (qT.mpr e);refine oJ (λy=>?_) λy=>?_
 ·have y0:=yQ y;refine zH (h _ _ (Sm.refl _) ?_);rw[y0]at m0 ⊢;exact fB G m0 ⋯
 have y':b.size≠1:=λe=>y (qT.mpr e);refine zF (uM ?_);refine zF (wH (xH (I:=λx c st'=>Sm st st'/\E4 λ(na nb:Nat)(out:Array Keyed)(mg:Nat)=>A7 (c=(none,na,nb,out,mg)) (MH κ a b out na nb) (0<na) (na<a.size) (1<nb) (nb<=b.size) (x+na+nb<a.size+b.size))
  (Q:=λc st'=>Sm st st'/\∃r t,c=(some r,t)/\Res κ a.toList b.toList r.toList) ?_ ?_ ⟨Sm.refl _,_,_,_,_,rfl,m0,⋯,⋯,⋯,⋯,⋯⟩) ?_)
 ·rintro x c st1 _ hx ⟨sm,na,nb,out,mg,rfl,mi,l1,l2,l3,l4,pr⟩;dsimp only;refine zF (wH (xH (I:=λy c st'=>Sm st st'/\E5 λ(na nb:Nat)(out:Array Keyed)(ac bc:Nat)=>A8 (c=(none,na,nb,out,ac,bc)) (MH κ a b out na nb) (0<na) (na<a.size) (1<nb) (nb<=b.size) (x+na+nb<a.size+b.size) (1<=y->x+1+na+nb<a.size+b.size))
   (Q:=λc st'=>Sm st st'/\((∃r t,c=(some r,t)/\Res κ a.toList b.toList r.toList)\/E5 λ(na nb:Nat)(out:Array Keyed)(ac bc:Nat)=>A7 (c=(none,na,nb,out,ac,bc)) (MH κ a b out na nb) (0<na) (na<a.size) (1<nb) (nb<=b.size) (x+1+na+nb<a.size+b.size))) ?_ ?_ ⟨sm,na,nb,out,0,0,rfl,mi,l1,l2,l3,l4,pr,⋯⟩) ?_)
  ·rintro y c st2 _ hy ⟨sm,na,nb,out,ac,bc,rfl,mi,l1,l2,l3,l4,pr,_⟩;obtain⟨n,rfl⟩:∃n,na=n+1:=⟨na-1,⋯⟩;obtain⟨m,rfl⟩:∃m,nb=m+1:=⟨nb-1,⋯⟩;dsimp only;refine zF (lA (arr:=b) (i:=m+1-1) ⋯ λp e=>?_);refine zF (lA (arr:=a) (i:=n+1-1) ⋯ λq f=>?_);refine zF (eN hC (by rw[sm.k];exact hk) (gB _ _ e) (gA _ _ f) ?_);dsimp only;cases hl:lq κ p q with
   |true =>
    rw[zJ rfl];have mi':=fC G mi (show n<a.size by omega) ⋯ f λi y hi ey=>mH (iF G.sb (show i<=m by omega) (oF.mp ey) (oF.mp e)) (mO hl);refine zF (mL f ?_);refine oJ (λz=>?_) λz=>?_
    ·have z0:n=0:=yQ z;subst z0;exact zH ⟨sm,.inl ⟨_,_,rfl,gC G mi' ⋯⟩⟩
    have hz':n≠0:=λe=>z (qT.mpr e);refine oJ (λ_=>?_) λ_=>?_
    ·exact zH ⟨sm,.inr ⟨n,m+1,_,_,_,rfl,mi',⋯,⋯,⋯,⋯,⋯⟩⟩
    ·exact zH ⟨sm,n,m+1,_,_,_,rfl,mi',⋯,⋯,⋯,⋯,⋯,⋯⟩
   |false =>
    rw[zI (by simp)];have mi':=Bz G mi (show m<b.size by omega) ⋯ e λi y hi ey=>mH (iF G.sa (show i<=n by omega) (oF.mp ey) (oF.mp f)) hl;refine zF (mL e ?_);refine oJ (λz=>?_) λz=>?_
    ·have z0:m=1:=yQ z;subst z0;exact zH ⟨sm,.inl ⟨_,_,rfl,fB G mi' ⋯⟩⟩
    have hz':m≠1:=λe=>z (qT.mpr e);refine oJ (λ_=>?_) λ_=>?_
    ·exact zH ⟨sm,.inr ⟨n+1,m,_,_,_,rfl,mi',⋯,⋯,⋯,⋯,⋯⟩⟩
    ·exact zH ⟨sm,n+1,m,_,_,_,rfl,mi',⋯,⋯,⋯,⋯,⋯,⋯⟩
  ·rintro c st2 ⟨sm,na,nb,out,ac,bc,rfl,mi,l1,l2,l3,l4,pr,pr2⟩;exact⟨sm,.inr ⟨_,_,_,_,_,rfl,mi,l1,l2,l3,l4,pr2 ⋯⟩⟩
  ·rintro c st2 ⟨sm,⟨r,t,rfl,res⟩|⟨na,nb,out,ac,bc,rfl,mi,l1,l2,l3,l4,pr⟩⟩
   ·exact zH ⟨sm,_,_,rfl,res⟩
   dsimp only;refine zF (rD (wP ⟨rfl,?_⟩));refine zF (wH (xH (I:=λy c st'=>Sm st st'/\E6 λ(na nb:Nat)(out:Array Keyed)(mg ac bc:Nat)=>A7 (c=(none,na,nb,out,mg,ac,bc)) (MH κ a b out na nb) (0<na) (na<a.size) (1<nb) (nb<=b.size) (x+1+na+nb<a.size+b.size))
    (Q:=λc st'=>Sm st st'/\((∃r t,c=(some r,t)/\Res κ a.toList b.toList r.toList)\/E6 λ(na nb:Nat)(out:Array Keyed)(mg ac bc:Nat)=>A7 (c=(none,na,nb,out,mg,ac,bc)) (MH κ a b out na nb) (0<na) (na<a.size) (1<nb) (nb<=b.size) (x+1+na+nb<a.size+b.size))) ?_ ?_ ⟨sm,_,_,_,_,_,_,rfl,mi,l1,l2,l3,l4,pr⟩) ?_)
   ·rintro y c st3 _ hy ⟨sm,na,nb,out,mg,ac,bc,rfl,mi,l1,l2,l3,l4,pr⟩;dsimp only
    revert mg
    refine Gv (λmg=>?_) λ_=>rfl;rw[bF];refine zF (wQ ?_);refine zF (lA (arr:=b) (i:=nb-1) ⋯ λp e=>?_);refine zF (Pf hC (show kindOf _=kd from sm.k.trans hk) G.sa G.ga (gB _ _ e) (show 0+na<=a.size by omega) ⋯ λk hk1 hk2 hk3=>?_);have mk:=Pg (m:=k) G mi ⋯ hk1 l4 ⋯ e λi x hi him ex=>mO (hk3 i x hi him (by rw[wM];exact ex));dsimp only;refine oJ (λhkp=>?_) λhkp=>?_
    ·refine oJ (λz=>?_) λz=>?_
     ·have z0:k=0:=yQ z;subst z0;exact zH ⟨sm.set _,.inl ⟨_,_,rfl,gC G mk l4⟩⟩
     have z':k≠0:=λe=>z (qT.mpr e)
     -- the other's last comes out
     obtain⟨m,rfl⟩:∃m,nb=m+1:=⟨nb-1,⋯⟩;have mp:=Bz G mk (show m<b.size by omega) ⋯ e λi y hi ey=>hk2 i y hi (by rw[wM];exact ey);refine zF (mL (show b[m+1-1]?=some p from e) ?_);refine oJ (λz=>?_) λz=>?_
     ·have z0:m=1:=yQ z;subst z0;exact zH ⟨sm.set _,.inl ⟨_,_,rfl,fB G mp ⋯⟩⟩
     have zb:m≠1:=λe=>z (qT.mpr e);have e'':0<m:=⋯
     refine zF (lA (arr:=a) (i:=k-1) ⋯ λq f=>?_);refine zF (bE hC (show kindOf _=kd from sm.k.trans hk) G.sb G.gb (gA _ _ f) (show 0+(m+1-1)<=b.size by omega) ⋯ λk2 j1 j2 j3=>?_);replace j1:k2<=m:=j1;have mq:=Gq (m:=k2) G mp ⋯ j1 ⋯ ⋯ f λi x hi him ex=>j3 i x hi him (by rw[wM];exact ex);obtain⟨n,hn⟩:∃n,k=n+1:=⟨k-1,⋯⟩;dsimp only;refine oJ (λhkq=>?_) λhkq=>?_
     ·refine oJ (λz=>?_) λz=>?_
      ·have z0:k2=1:=yQ z;subst z0;exact zH ⟨sm.set _,.inl ⟨_,_,rfl,fB G mq ⋯⟩⟩
      have zc:k2≠1:=λe=>z (qT.mpr e);refine oJ (λz=>?_) λz=>?_
      ·have z0:k2=0:=yQ z;subst z0;exact zH ⟨sm.set _,.inl ⟨_,_,rfl,Gs G mq ⋯⟩⟩
      have zd:k2≠0:=λe=>z (qT.mpr e);rw[hn]at mq f ⊢;have mr:=fC G mq (show n<a.size by omega) ⋯ f λi y hi ey=>mO (j2 i y hi (by rw[wM];exact ey));refine zF (mL (show a[n+1-1]?=some q from f) ?_);refine oJ (λz=>?_) λz=>?_
      ·have z0:n=0:=yQ z;subst z0;exact zH ⟨sm.set _,.inl ⟨_,_,rfl,gC G mr ⋯⟩⟩
      have ze:n≠0:=λe=>z (qT.mpr e);refine oJ (λ_=>?_) λ_=>?_
      ·exact zH ⟨sm.set _,.inr ⟨n,_,_,_,_,_,rfl,mr,⋯,⋯,⋯,⋯,⋯⟩⟩
      ·exact zH ⟨sm.set _,n,_,_,_,_,_,rfl,mr,⋯,⋯,⋯,⋯,⋯⟩
     ·have k20:k2=m:=by
       have:¬ m-k2 > 0:=hkq;omega
      subst k20;rw[By]at mq;rw[hn]at mq f ⊢;have mr:=fC G mq (show n<a.size by omega) ⋯ f λi y hi ey=>mO (j2 i y hi (by rw[wM];exact ey));refine zF (mL (show a[n+1-1]?=some q from f) ?_);refine oJ (λz=>?_) λz=>?_
      ·have z0:n=0:=yQ z;subst z0;exact zH ⟨sm.set _,.inl ⟨_,_,rfl,gC G mr ⋯⟩⟩
      have ze:n≠0:=λe=>z (qT.mpr e);refine oJ (λ_=>?_) λ_=>?_
      ·exact zH ⟨sm.set _,.inr ⟨n,_,_,_,_,_,rfl,mr,⋯,⋯,⋯,⋯,⋯⟩⟩
      ·exact zH ⟨sm.set _,n,_,_,_,_,_,rfl,mr,⋯,⋯,⋯,⋯,⋯⟩
    ·have k0:k=na:=by
      have:¬ na-k > 0:=hkp;omega
     subst k0;rw[By]at mk
     -- the other's last comes out
     obtain⟨m,rfl⟩:∃m,nb=m+1:=⟨nb-1,⋯⟩;have mp:=Bz G mk (show m<b.size by omega) ⋯ e λi y hi ey=>hk2 i y hi (by rw[wM];exact ey);refine zF (mL (show b[m+1-1]?=some p from e) ?_);refine oJ (λz=>?_) λz=>?_
     ·have z0:m=1:=yQ z;subst z0;exact zH ⟨sm.set _,.inl ⟨_,_,rfl,fB G mp ⋯⟩⟩
     have zb:m≠1:=λe=>z (qT.mpr e);have e'':0<m:=⋯
     refine zF (lA (arr:=a) (i:=k-1) ⋯ λq f=>?_);refine zF (bE hC (show kindOf _=kd from sm.k.trans hk) G.sb G.gb (gA _ _ f) (show 0+(m+1-1)<=b.size by omega) ⋯ λk2 j1 j2 j3=>?_);replace j1:k2<=m:=j1;have mq:=Gq (m:=k2) G mp ⋯ j1 ⋯ ⋯ f λi x hi him ex=>j3 i x hi him (by rw[wM];exact ex);obtain⟨n,hn⟩:∃n,k=n+1:=⟨k-1,⋯⟩;dsimp only;refine oJ (λhkq=>?_) λhkq=>?_
     ·refine oJ (λz=>?_) λz=>?_
      ·have z0:k2=1:=yQ z;subst z0;exact zH ⟨sm.set _,.inl ⟨_,_,rfl,fB G mq ⋯⟩⟩
      have zc:k2≠1:=λe=>z (qT.mpr e);refine oJ (λz=>?_) λz=>?_
      ·have z0:k2=0:=yQ z;subst z0;exact zH ⟨sm.set _,.inl ⟨_,_,rfl,Gs G mq ⋯⟩⟩
      have zd:k2≠0:=λe=>z (qT.mpr e);rw[hn]at mq f ⊢;have mr:=fC G mq (show n<a.size by omega) ⋯ f λi y hi ey=>mO (j2 i y hi (by rw[wM];exact ey));refine zF (mL (show a[n+1-1]?=some q from f) ?_);refine oJ (λz=>?_) λz=>?_
      ·have z0:n=0:=yQ z;subst z0;exact zH ⟨sm.set _,.inl ⟨_,_,rfl,gC G mr ⋯⟩⟩
      have ze:n≠0:=λe=>z (qT.mpr e);refine oJ (λ_=>?_) λ_=>?_
      ·exact zH ⟨sm.set _,.inr ⟨n,_,_,_,_,_,rfl,mr,⋯,⋯,⋯,⋯,⋯⟩⟩
      ·exact zH ⟨sm.set _,n,_,_,_,_,_,rfl,mr,⋯,⋯,⋯,⋯,⋯⟩
     ·have k20:k2=m:=by
       have:¬ m-k2 > 0:=hkq;omega
      subst k20;rw[By]at mq;rw[hn]at mq f ⊢;have mr:=fC G mq (show n<a.size by omega) ⋯ f λi y hi ey=>mO (j2 i y hi (by rw[wM];exact ey));refine zF (mL (show a[n+1-1]?=some q from f) ?_);refine oJ (λz=>?_) λz=>?_
      ·have z0:n=0:=yQ z;subst z0;exact zH ⟨sm.set _,.inl ⟨_,_,rfl,gC G mr ⋯⟩⟩
      have ze:n≠0:=λe=>z (qT.mpr e);refine oJ (λ_=>?_) λ_=>?_
      ·exact zH ⟨sm.set _,.inr ⟨n,_,_,_,_,_,rfl,mr,⋯,⋯,⋯,⋯,⋯⟩⟩
      ·exact zH ⟨sm.set _,n,_,_,_,_,_,rfl,mr,⋯,⋯,⋯,⋯,⋯⟩
   ·rintro c st3 ⟨sm,na,nb,out,mg,ac,bc,rfl,mi,l1,l2,l3,l4,pr⟩;exact⟨sm,.inr ⟨_,_,_,_,_,_,rfl,mi,l1,l2,l3,l4,pr⟩⟩
   ·rintro c st3 ⟨sm,⟨r,t,rfl,res⟩|⟨na,nb,out,mg,ac,bc,rfl,mi,l1,l2,l3,l4,pr⟩⟩
    ·exact zH ⟨sm,_,_,rfl,res⟩
    dsimp only;rw[bF];refine zF (wQ (zH ⟨sm.set _,_,_,_,_,rfl,mi,l1,l2,l3,l4,pr⟩))
 ·rintro c st1 ⟨sm,na,nb,out,mg,rfl,mi,l1,l2,l3,l4,pr⟩;omega
 ·rintro c st1 ⟨sm,r,t,rfl,res⟩;exact zH (h r st1 sm res)
end
theorem Pd(i:Nat):mergeAt' i=(do
 let s ←get
 let (some (sa,na,power),some (sb,nb,_)):=((pendingOf s)[i]?,(pendingOf s)[i+1]?)|unsupported "internal:list.sort.pending"
 set (SortSt.mk' (kindOf s) (arrOf s) (((pendingOf s).setIfInBounds i (sa,na+nb,power)).eraseIdxIfInBounds (i+1)) (gallopOf s) (failedOf s))
 let some k ←kB false (←elem' (arrOf s) sb) (arrOf s) sa na 0|return false
 let (sa,na):=(sa+k,na-k)
 if na == 0 then return true
 let some nb ←kB true (←elem' (arrOf s) (sa+na-1)) (arrOf s) sb nb (nb-1)|return false
 if nb == 0 then return true
 let x:=(arrOf s).extract sa sb
 let y:=(arrOf s).extract sb (sb+nb)
 let merged ←if na<=nb then Ae x y else Ac x y
 modify λs=>setArr s (merged.toList.zipIdx.foldl (λa(p,j)=>a.setIfInBounds (sa+j) p) (arrOf s))
 return (failedOf (←get)).isNone):=rfl
section
variable {prog:Program} {w:World} {A:Around} {E:VP} {s:Shared} {κ:PyProof.Rows.KeyKind} {kd:SortKind}
noncomputable def seg(l:List Keyed)(i j:Nat):List Keyed:=(l.drop i).take (j-i)
theorem Pc{st st':SortSt}{Q:PUnit->SortSt->Prop}(h:Q ⟨⟩ st'):wpS (model prog w) A E s (set st':StateT SortSt Sem PUnit) Q st:=by
 unfold wpS;rw[StateT.run_set];exact zB ⟨rfl,h⟩
theorem Bx{l:List Keyed}{i j k:Nat}(h1:i<=j)(h2:j<=k):seg l i k=seg l i j++seg l j k:=by
 unfold seg;rw[show k-i=(j-i)+(k-j) by omega,rN,qE,show i+(j-i)=j by omega]
theorem Gp{l:List Keyed}{i j:Nat}(h:i<=j):l.take i++seg l i j++l.drop j=l:=by
 unfold seg;have:l.take j=l.take i++(l.drop i).take (j-i):=by
  conv=>lhs;rw[show j=i+(j-i) by omega]
  exact rN
 rw[←this,xU]
theorem eV{l:List Keyed}{i j t:Nat}:(seg l i j)[t]?=if t<j-i then l[i+t]? else none:=by
 unfold seg;rw[List.getElem?_take];split
 ·rw[tE]
 ·rfl
theorem jM{l:List Keyed}{i j:Nat}{x:Keyed}(h:x∈seg l i j):∃t,t<j-i/\l[i+t]?=some x:=gX h
theorem Bw{l:List Keyed}{i j:Nat}(h:j<=l.length):(seg l i j).length=j-i:=by
 unfold seg;rw[yW,vO];omega
theorem bJ{l:List Keyed}{i j:Nat}(hs:Srt κ (seg l i j)){t u:Nat}{x y:Keyed}(htu:t<=u)(hu:u<j-i)(ex:l[i+t]?=some x)(ey:l[i+u]?=some y):le' κ x y:=
 iF hs htu (by rw[eV,zJ ⋯];exact ex) (by rw[eV,zJ hu];exact ey)
theorem jN(a:Array Keyed)(i j:Nat):(a.extract i j).toList=seg a.toList i j:=by
 unfold seg;simp only[Array.toList_extract,List.extract_eq_take_drop]
theorem Go:∀(m:List Keyed)(j0 sa:Nat)(a:Array Keyed),sa+j0+m.length<=a.size->((m.zipIdx j0).foldl (λa(x:Keyed×Nat)=>a.setIfInBounds (sa+x.2) x.1) a).toList=a.toList.take (sa+j0)++m++a.toList.drop (sa+j0+m.length)
 |[],j0,sa,a,_=>by simp
 | p:: m,j0,sa,a,h=>by
  rw[zY]at h;have hl:sa+j0<a.toList.length:=by rw[zO];omega
  rw[vV,wK,Go m (j0+1) sa _ (by rw[Array.size_setIfInBounds];omega),Array.toList_setIfInBounds,zY];show List.take (sa+(j0+1)) (a.toList.set (sa+j0) p)++m++List.drop (sa+(j0+1)+m.length) (a.toList.set (sa+j0) p)=_;have e1:List.take (sa+(j0+1)) (a.toList.set (sa+j0) p)=a.toList.take (sa+j0)++[p]:=by
   rw[show sa+(j0+1)=sa+j0+1 by omega,tP,List.take_set_of_le (zG _),tX hl];rfl
  have e2:List.drop (sa+(j0+1)+m.length) (a.toList.set (sa+j0) p)=a.toList.drop (sa+j0+(m.length+1)):=by
   rw[List.drop_set_of_lt ⋯,show sa+(j0+1)+m.length=sa+j0+(m.length+1) by omega]
  rw[e1,e2];simp
theorem Pb(hC:Cmp prog w A s κ kd){st:SortSt}{b:Array Keyed}{ib hint:Nat}{q:Keyed}{n:Nat}{Q:Option Nat->SortSt->Prop}(hk:kindOf st=kd)(hs:∀i j x y,i<=j->j<n->b[ib+i]?=some x->b[ib+j]?=some y->le' κ x y)(gb:∀x∈b.toList,Gd κ x)(gq:Gd κ q)(hn:ib+n<=b.size)(hh:hint<n)
  (h:∀k,k<=n->(∀i x,i<k->b[ib+i]?=some x->le' κ x q)->(∀i x,k<=i->i<n->b[ib+i]?=some x->lq κ q x=true)->Q (some k) st):wpS (model prog w) A E s (kB false q b ib n hint) Q st:=by
 refine eO hC (B:=λi=>!lq κ q (b.getD (ib+i) q)) hk gq hh (λi hi=>?_) (λi j hij hj hb=>?_) λk hkn h1 h2=>h k hkn (λi x hi e=>?_) λi x hi hin e=>?_
 ·obtain⟨p,e⟩:=nV (a:=b) (i:=ib+i) ⋯;refine⟨p,e,gb p (yC (oF.mp e)),?_⟩;rw[show b.getD (ib+i) q=p by simp[Array.getD_eq_getD_getElem?,e]];rfl
 ·obtain⟨p,e⟩:=nV (a:=b) (i:=ib+i) ⋯;obtain⟨r,e'⟩:=nV (a:=b) (i:=ib+j) ⋯;rw[show b.getD (ib+j) q=r by simp[Array.getD_eq_getD_getElem?,e']]at hb;rw[show b.getD (ib+i) q=p by simp[Array.getD_eq_getD_getElem?,e]];have l1:le' κ r q:=by unfold le';simpa using hb
  have:=mH (hs i j p r hij hj e e') l1;unfold le' at this;rw[this];rfl
 ·have:=h1 i hi;rw[show b.getD (ib+i) q=x by simp[Array.getD_eq_getD_getElem?,e]]at this;unfold le';simpa using this
 ·have:=h2 i hi hin;rw[show b.getD (ib+i) q=x by simp[Array.getD_eq_getD_getElem?,e]]at this;simpa using this
theorem Pa(hC:Cmp prog w A s κ kd){st:SortSt}{b:Array Keyed}{ib hint:Nat}{q:Keyed}{n:Nat}{Q:Option Nat->SortSt->Prop}(hk:kindOf st=kd)(hs:∀i j x y,i<=j->j<n->b[ib+i]?=some x->b[ib+j]?=some y->le' κ x y)(gb:∀x∈b.toList,Gd κ x)(gq:Gd κ q)(hn:ib+n<=b.size)(hh:hint<n)
  (h:∀k,k<=n->(∀i x,i<k->b[ib+i]?=some x->lq κ x q=true)->(∀i x,k<=i->i<n->b[ib+i]?=some x->le' κ q x)->Q (some k) st):wpS (model prog w) A E s (kB true q b ib n hint) Q st:=by
 refine eO hC (B:=λi=>lq κ (b.getD (ib+i) q) q) hk gq hh (λi hi=>?_) (λi j hij hj hb=>?_) λk hkn h1 h2=>h k hkn (λi x hi e=>?_) λi x hi hin e=>?_
 ·obtain⟨p,e⟩:=nV (a:=b) (i:=ib+i) ⋯;refine⟨p,e,gb p (yC (oF.mp e)),?_⟩;rw[show b.getD (ib+i) q=p by simp[Array.getD_eq_getD_getElem?,e]];rfl
 ·obtain⟨p,e⟩:=nV (a:=b) (i:=ib+i) ⋯;obtain⟨r,e'⟩:=nV (a:=b) (i:=ib+j) ⋯;rw[show b.getD (ib+j) q=r by simp[Array.getD_eq_getD_getElem?,e']]at hb;rw[show b.getD (ib+i) q=p by simp[Array.getD_eq_getD_getElem?,e]];exact KeyOrd.klt_of_kle_of_klt (O:=κ.toKeyOrd) (hs i j p r hij hj e e') hb
 ·have:=h1 i hi;rw[show b.getD (ib+i) q=x by simp[Array.getD_eq_getD_getElem?,e]]at this;exact this
 ·have:=h2 i hi hin;rw[show b.getD (ib+i) q=x by simp[Array.getD_eq_getD_getElem?,e]]at this;exact this
theorem Qz(hC:Cmp prog w A s κ kd){st:SortSt}{i sa na pw nb pw2:Nat}{Q:Bool->SortSt->Prop}(hk:kindOf st=kd)(gd:∀x∈(arrOf st).toList,Gd κ x)(hf:failedOf st=none)(e1:(pendingOf st)[i]?=some (sa,na,pw))(e2:(pendingOf st)[i+1]?=some (sa+na,nb,pw2))
  (hna:1<=na)(hnb:1<=nb)(hz:sa+na+nb<=(arrOf st).size)(s1:Srt κ (seg (arrOf st).toList sa (sa+na)))(s2:Srt κ (seg (arrOf st).toList (sa+na) (sa+na+nb)))
  (h:∀st' X,kindOf st'=kd->failedOf st'=none->pendingOf st'=((pendingOf st).setIfInBounds i (sa,na+nb,pw)).eraseIdxIfInBounds (i+1)->(arrOf st').toList=(arrOf st).toList.take sa++X++(arrOf st).toList.drop (sa+na+nb)->X.Perm (seg (arrOf st).toList sa (sa+na+nb))->Srt κ X->Q true st'):
  wpS (model prog w) A E s (mergeAt' i) Q st:=by
 rw[Pd];refine zF (uM ?_);rw[e1,e2];dsimp only;refine zF (Pc ?_);generalize hst:SortSt.mk' (kindOf st) (arrOf st) (((pendingOf st).setIfInBounds i (sa,na+nb,pw)).eraseIdxIfInBounds (i+1)) (gallopOf st) (failedOf st)=st1;have k1:kindOf st1=kd:=by rw[←hst];exact hk
 have a1:arrOf st1=arrOf st:=by rw[←hst]
 have p1:pendingOf st1=((pendingOf st).setIfInBounds i (sa,na+nb,pw)).eraseIdxIfInBounds (i+1):=by rw[←hst]
 have f1:failedOf st1=none:=by rw[←hst];exact hf
 clear hst e1 e2;generalize harr:arrOf st=arr at*
 generalize pendingOf st=pend at*;have lz:arr.toList.length=arr.size:=zO;have gA:∀t x,arr[t]?=some x->Gd κ x:=λt x e=>gd x (yC (oF.mp e))
 -- already in order
 have stay:Srt κ (seg arr.toList sa (sa+na+nb))->Q true st1:=λso=>h st1 _ k1 f1 p1 (by rw[a1,Gp ⋯]) (List.Perm.refl _) so;have cat:seg arr.toList sa (sa+na+nb)=seg arr.toList sa (sa+na)++seg arr.toList (sa+na) (sa+na+nb):=Bx ⋯ ⋯;refine zF (lA (arr:=arr) (i:=sa+na) ⋯ λp ep=>?_);refine zF (Pb hC k1 (λt u x y htu hu ex ey=>bJ s1 htu ⋯ (oF.mp ex) (oF.mp ey)) gd (gA _ _ ep) ⋯ ⋯ λk hk1 hk2 hk3=>?_);dsimp only;have pB:∀y∈seg arr.toList (sa+na) (sa+na+nb),le' κ p y:=λy hy=>by
  obtain⟨t,ht,et⟩:=jM hy;exact bJ s2 (yU t) ht (oF.mp ep) et
 refine oJ (λz=>?_) λz=>?_
 ·have z0:na-k=0:=yQ z;refine zH (stay ?_);rw[cat];refine pJ.mpr ⟨s1,s2,λx hx y hy=>?_⟩;obtain⟨t,ht,et⟩:=jM hx;exact mH (hk2 t x ⋯ (oF.mpr et)) (pB y hy)
 have z':na-k≠0:=λe=>z (qT.mpr e);refine zF (lA (arr:=arr) (i:=sa+k+(na-k)-1) ⋯ λq eq=>?_);rw[show sa+k+(na-k)-1=sa+(na-1) by omega]at eq;refine zF (Pa hC k1 (λt u x y htu hu ex ey=>bJ s2 htu ⋯ (oF.mp ex) (oF.mp ey)) gd (gA _ _ eq) ⋯ ⋯ λk2 j1 j2 j3=>?_);dsimp only;have qA:∀x∈seg arr.toList sa (sa+na),le' κ x q:=λx hx=>by
  obtain⟨t,ht,et⟩:=jM hx;exact bJ s1 (show t<=na-1 by omega) ⋯ et (oF.mp eq)
 refine oJ (λy=>?_) λy=>?_
 ·have y0:k2=0:=yQ y;refine zH (stay ?_);rw[cat];refine pJ.mpr ⟨s1,s2,λx hx y hy=>?_⟩;obtain⟨t,ht,et⟩:=jM hy;exact mH (qA x hx) (j3 t y ⋯ ⋯ (oF.mpr et))
 have y':k2≠0:=λe=>y (qT.mpr e)
 -- the parts
 have cA:seg arr.toList sa (sa+na)=seg arr.toList sa (sa+k)++seg arr.toList (sa+k) (sa+na):=Bx ⋯ ⋯;have cB:seg arr.toList (sa+na) (sa+na+nb)=seg arr.toList (sa+na) (sa+na+k2)++seg arr.toList (sa+na+k2) (sa+na+nb):=Bx ⋯ ⋯;have s1':=s1;have s2':=s2;rw[cA]at s1';rw[cB]at s2';obtain⟨sP,sX,hPX⟩:=pJ.mp s1';obtain⟨sY,sS,hYS⟩:=pJ.mp s2';have pP:∀x∈seg arr.toList sa (sa+k),le' κ x p:=λx hx=>by
  obtain⟨t,ht,et⟩:=jM hx;exact hk2 t x ⋯ (oF.mpr et)
 have pX:∀x∈seg arr.toList (sa+k) (sa+na),le' κ p x:=λx hx=>by
  obtain⟨t,ht,et⟩:=jM hx;exact mO (hk3 (k+t) x ⋯ ⋯ (by rw[show sa+(k+t)=sa+k+t by omega];exact oF.mpr et))
 have qY:∀y∈seg arr.toList (sa+na) (sa+na+k2),le' κ y q:=λy hy=>by
  obtain⟨t,ht,et⟩:=jM hy;exact mO (j2 t y ⋯ (oF.mpr et))
 have qS:∀y∈seg arr.toList (sa+na+k2) (sa+na+nb),le' κ q y:=λy hy=>by
  obtain⟨t,ht,et⟩:=jM hy;exact j3 (k2+t) y ⋯ ⋯ (by rw[show sa+na+(k2+t)=sa+na+k2+t by omega];exact oF.mpr et)
 have G:MG κ (arr.extract (sa+k) (sa+na)) (arr.extract (sa+na) (sa+na+k2)):=by
  refine⟨by rw[jN];exact sX,by rw[jN];exact sY,λx hx=>?_,λx hx=>?_,by rw[rK];omega,by rw[rK];omega,λx ex y hy=>?_,λx y ex ey=>?_⟩
  ·rw[jN]at hx;obtain⟨t,_,et⟩:=jM hx;exact gA _ x (oF.mpr et)
  ·rw[jN]at hx;obtain⟨t,_,et⟩:=jM hx;exact gA _ x (oF.mpr et)
  ·rw[jN]at hy;rw[oF,jN,eV,rK]at ex;split at ex
   ·rw[show sa+k+(min (sa+na) arr.size-(sa+k)-1)=sa+(na-1) by omega,oF.mp eq]at ex;cases ex;exact qY y hy
   ·cases ex
  ·rw[oF,jN,eV,zJ ⋯,Nat.add_zero,oF.mp ep]at ex;cases ex;rw[oF,jN]at ey;exact pX y (yC ey)
 have fin:∀(r:Array Keyed)(st':SortSt),Sm st1 st'->Res κ (arr.extract (sa+k) (sa+na)).toList (arr.extract (sa+na) (sa+na+k2)).toList r.toList->wpS (model prog w) A E s (do
   modify λs=>setArr s (r.toList.zipIdx.foldl (λa(p,j)=>a.setIfInBounds (sa+k+j) p) (arrOf s))
   return (failedOf (←get)).isNone) Q st':=λr st' sm res=>by
  rw[jN,jN]at res;refine zF (wQ (zF (uM (zH ?_))));have fn:failedOf st'=none:=sm.f.trans f1;show Q (failedOf st').isNone _;rw[fn];have rl:r.toList.length=(na-k)+k2:=by
   rw[res.1.length_eq,zX,Bw ⋯,Bw ⋯];omega
  refine h _ (seg arr.toList sa (sa+k)++r.toList++seg arr.toList (sa+na+k2) (sa+na+nb)) (sm.k.trans k1) fn (sm.p.trans p1) ?_ ?_ ?_
  ·show(List.foldl _ (arrOf st') _).toList=_;rw[sm.a,a1,Go r.toList 0 (sa+k) arr ⋯,rl];have t1:arr.toList.take (sa+k+0)=arr.toList.take sa++seg arr.toList sa (sa+k):=by
    unfold seg;rw[Nat.add_zero,rN,show sa+k-sa=k by omega]
   have t2:arr.toList.drop (sa+k+0+(na-k+k2))=seg arr.toList (sa+na+k2) (sa+na+nb)++arr.toList.drop (sa+na+nb):=by
    unfold seg;rw[show sa+k+0+(na-k+k2)=sa+na+k2 by omega]
    conv=>lhs;rw[←xU (sa+na+nb-(sa+na+k2)) (arr.toList.drop (sa+na+k2))]
    rw[qE,show sa+na+k2+(sa+na+nb-(sa+na+k2))=sa+na+nb by omega]
   rw[t1,t2];simp only[List.append_assoc]
  ·rw[cat,cA,cB];have:=(res.1.append_left (seg arr.toList sa (sa+k))).append_right (seg arr.toList (sa+na+k2) (sa+na+nb));simp only[List.append_assoc]at this ⊢;exact this
  ·have mem:∀x∈r.toList,x∈seg arr.toList (sa+k) (sa+na)\/x∈seg arr.toList (sa+na) (sa+na+k2):=λx hx=>pH.mp (res.1.mem_iff.mp hx);refine pJ.mpr ⟨pJ.mpr ⟨sP,res.2,λx hx y hy=>?_⟩,sS,λx hx y hy=>?_⟩
   ·rcases mem y hy with q1|q1
    ·exact hPX x hx y q1
    ·exact mH (pP x hx) (pB y (by rw[cB];exact wA _ q1))
   ·rcases pH.mp hx with q1|q1
    ·exact mH (pP x q1) (pB y (by rw[cB];exact yJ _ hy))
    ·rcases mem x q1 with q2|q2
     ·exact mH (qA x (by rw[cA];exact yJ _ q2)) (qS y hy)
     ·exact hYS x q2 y hy
 refine oJ (λ_=>?_) λ_=>?_
 ·exact zF (Pj hC k1 G λr st' sm res=>fin r st' sm res)
 ·exact zF (Pe hC k1 G λr st' sm res=>fin r st' sm res)
theorem eW(hC:Cmp prog w A s κ kd){st:SortSt}{i j:Nat}{Q:Option Bool->SortSt->Prop}(hk:kindOf st=kd)(gd:∀x∈(arrOf st).toList,Gd κ x)(hi:i<(arrOf st).size)(hj:j<(arrOf st).size)
  (h:∀x y,(arrOf st)[i]?=some x->(arrOf st)[j]?=some y->Q (some (lq κ x y)) st):wpS (model prog w) A E s (ltAt' i j) Q st:=by
 rw[ltAt'_eq];refine zF (uM ?_);refine zF (lA hi λx ex=>?_);refine zF (lA hj λy ey=>?_);exact eN hC hk (gd x (yC (oF.mp ex))) (gd y (yC (oF.mp ey))) (h x y ex ey)
structure Ch(lo hi:Nat)(st st':SortSt):Prop where
 k:kindOf st'=kindOf st
 p:pendingOf st'=pendingOf st
 f:failedOf st'=failedOf st
 z:(arrOf st').size=(arrOf st).size
 m:(arrOf st').Perm (arrOf st)
 o:∀i,i<lo\/hi<=i->(arrOf st')[i]?=(arrOf st)[i]?
theorem Ch.refl(lo hi:Nat)(st:SortSt):Ch lo hi st st:=⟨rfl,rfl,rfl,rfl,Array.Perm.refl _,λ_ _=>rfl⟩
theorem Ch.trans{lo hi:Nat}{a b c:SortSt}(h1:Ch lo hi a b)(h2:Ch lo hi b c):Ch lo hi a c:=⟨h2.k.trans h1.k,h2.p.trans h1.p,h2.f.trans h1.f,h2.z.trans h1.z,h2.m.trans h1.m,λi hi=>(h2.o i hi).trans (h1.o i hi)⟩
theorem Ch.wide{lo hi hi':Nat}{a b:SortSt}(h:Ch lo hi a b)(hh:hi<=hi'):Ch lo hi' a b:=⟨h.k,h.p,h.f,h.z,h.m,λi hi=>h.o i ⋯⟩
theorem Ch.good{lo hi:Nat}{a b:SortSt}(h:Ch lo hi a b)(gd:∀x∈(arrOf a).toList,Gd κ x):∀x∈(arrOf b).toList,Gd κ x:=λx hx=>gd x ((h.m.toList.mem_iff).mp hx)
def Up(κ:PyProof.Rows.KeyKind)(a:Array Keyed)(lo hi:Nat):Prop:=∀i j x y,lo<=i->i<=j->j<hi->a[i]?=some x->a[j]?=some y->le' κ x y
def Dn(κ:PyProof.Rows.KeyKind)(a:Array Keyed)(lo hi:Nat):Prop:=∀i j x y,lo<=i->i<=j->j<hi->a[i]?=some x->a[j]?=some y->le' κ y x
theorem Up.one{a:Array Keyed}{lo:Nat}:Up κ a lo (lo+1):=λi j x y h1 h2 h3 ex ey=>by
 have:i=j:=⋯
 subst this;rw[ex]at ey;cases ey;exact jT _
theorem Up.more{a:Array Keyed}{lo hi hi':Nat}(h:Up κ a lo hi)(hl:lo<hi)(hz:hi<a.size)(hn:∀x y,a[hi-1]?=some x->a[hi]?=some y->le' κ x y)(he:hi'=hi+1:=by omega):Up κ a lo hi':=λi j x y h1 h2 h3 ex ey=>by
 subst he;rcases uL j hi with q|q
 ·exact h i j x y h1 h2 q ex ey
 ·have ej:j=hi:=⋯
  subst ej;rcases uL i j with q2|q2
  ·obtain⟨u,eu⟩:=nV (a:=a) (i:=j-1) ⋯;exact mH (h i (j-1) x u h1 ⋯ ⋯ ex eu) (hn u y eu ey)
  ·have:i=j:=⋯
   subst this;rw[ex]at ey;cases ey;exact jT _
theorem Up.same{a b:Array Keyed}{lo hi:Nat}(h:Up κ a lo hi)(e:∀i,lo<=i->i<hi->b[i]?=a[i]?):Up κ b lo hi:=λi j x y h1 h2 h3 ex ey=>h i j x y h1 h2 h3 (by rw[←e i h1 ⋯];exact ex) (by rw[←e j ⋯ h3];exact ey)
theorem Dn.more{a:Array Keyed}{lo hi hi':Nat}(h:Dn κ a lo hi)(hl:lo<hi)(hz:hi<a.size)(hn:∀x y,a[hi-1]?=some x->a[hi]?=some y->le' κ y x)(he:hi'=hi+1:=by omega):Dn κ a lo hi':=λi j x y h1 h2 h3 ex ey=>by
 subst he;rcases uL j hi with q|q
 ·exact h i j x y h1 h2 q ex ey
 ·have ej:j=hi:=⋯
  subst ej;rcases uL i j with q2|q2
  ·obtain⟨u,eu⟩:=nV (a:=a) (i:=j-1) ⋯;exact mH (hn u y eu ey) (h i (j-1) x u h1 ⋯ ⋯ ex eu)
  ·have:i=j:=⋯
   subst this;rw[ex]at ey;cases ey;exact jT _
noncomputable abbrev mir(a:Array Keyed)(i j:Nat):Array Keyed:=mirror a i j ((j-i)/2)
theorem iG{a:Array Keyed}{i j k:Nat}(hj:j<=a.size):(mir a i j)[k]?=if i<=k/\k<j then a[i+j-1-k]? else a[k]?:=getElem?_mirror_all hj k
theorem Dn.turned{a:Array Keyed}{lo hi i0 j0:Nat}(h:Dn κ a lo hi)(u:Up κ a i0 j0)(hl:lo<=i0)(hj:j0<=hi)(hz:hi<=a.size):Dn κ (mir a i0 j0) lo hi:=λi j x y h1 h2 h3 ex ey=>by
 rw[iG ⋯]at ex ey
 by_cases c1:i0<=i/\i<j0
 ·rw[zJ c1]at ex
  by_cases c2:i0<=j/\j<j0
  ·rw[zJ c2]at ey;exact u _ _ y x ⋯ (show i0+j0-1-j<=i0+j0-1-i by omega) ⋯ ey ex
  ·rw[zI c2]at ey;exact h _ _ x y ⋯ (show i0+j0-1-i<=j by omega) h3 ex ey
 ·rw[zI c1]at ex
  by_cases c2:i0<=j/\j<j0
  ·rw[zJ c2]at ey;exact h _ _ x y h1 (show i<=i0+j0-1-j by omega) ⋯ ex ey
  ·rw[zI c2]at ey;exact h _ _ x y h1 h2 h3 ex ey
theorem Dn.up{a:Array Keyed}{lo hi:Nat}(h:Dn κ a lo hi)(hz:hi<=a.size):Up κ (mir a lo hi) lo hi:=λi j x y h1 h2 h3 ex ey=>by
 rw[iG hz,zJ ⟨h1,⋯⟩]at ex;rw[iG hz,zJ ⟨⋯,h3⟩]at ey;exact h _ _ y x ⋯ (show lo+hi-1-j<=lo+hi-1-i by omega) ⋯ ey ex
theorem bK{st:SortSt}{i j:Nat}{Q:Unit->SortSt->Prop}(hj:j<=(arrOf st).size)(h:∀st',Ch i j st st'->arrOf st'=mir (arrOf st) i j->Q () st'):wpS (model prog w) A E s (reverseSlice' i j) Q st:=by
 rw[reverseSlice'_eq];refine wQ (h _ ⟨rfl,rfl,rfl,mirror_size _ _ _ _,mirror_perm _ _ _ _,λk hk=>?_⟩ rfl);exact(iG hj).trans (zI ⋯)
theorem Gn(hC:Cmp prog w A s κ kd){st:SortSt}{lo n0 nrem:Nat}{f:Nat->Option (Option Nat)×Nat->StateT SortSt Sem (ForInStep (Option (Option Nat)×Nat))}{Q:Option (Option Nat)×Nat->SortSt->Prop}(hk:kindOf st=kd)(gd:∀x∈(arrOf st).toList,Gd κ x)(hz:lo+nrem<=(arrOf st).size)(h0:1<=n0)(hn:n0<=nrem)(hu:Up κ (arrOf st) lo (lo+n0))
  (hf:∀x c,f x c=(do
   let __x ←ltAt' (lo+c.2) (lo+c.2-1)
   match __x with
    |some smaller=>if smaller=true then pure (ForInStep.done (none,c.2)) else pure (ForInStep.yield (none,c.2+1))
    |_=>pure (ForInStep.done (some none,c.2))))
  (h:∀n,n0<=n->n<=nrem->Up κ (arrOf st) lo (lo+n)->(n=nrem\/∀x y,(arrOf st)[lo+n]?=some x->(arrOf st)[lo+n-1]?=some y->lq κ x y=true)->Q (none,n) st):
  wpS (model prog w) A E s (forIn [n0:nrem] ((none,n0):Option (Option Nat)×Nat) f) Q st:=by
 refine wH (xH (I:=λx c st'=>st'=st/\c=(none,x)/\n0<=x/\x<=nrem/\Up κ (arrOf st) lo (lo+x))
  (Q:=λc st'=>st'=st/\∃n,c=(none,n)/\n0<=n/\n<=nrem/\Up κ (arrOf st) lo (lo+n)/\(n=nrem\/∀x y,(arrOf st)[lo+n]?=some x->(arrOf st)[lo+n-1]?=some y->lq κ x y=true)) ?_ ?_ ⟨rfl,rfl,zG _,hn,hu⟩) ?_
 ·rintro x c st' hx1 hx2 ⟨rfl,rfl,a1,a2,a3⟩;rw[hf];dsimp only;refine zF (eW hC hk gd ⋯ ⋯ λp q ep eq=>?_);dsimp only;cases hl:lq κ p q with
  |true =>
   rw[zJ rfl];refine zH ⟨rfl,x,rfl,a1,a2,a3,.inr λu v eu ev=>?_⟩;rw[ep]at eu;rw[eq]at ev;cases eu;cases ev;exact hl
  |false =>
   rw[zI (by simp)];refine zH ⟨rfl,rfl,⋯,⋯,?_⟩;refine Up.more a3 ⋯ ⋯ λu v eu ev=>?_;rw[eq]at eu;rw[ep]at ev;cases eu;cases ev;exact hl
 ·rintro c st' ⟨rfl,rfl,a1,a2,a3⟩;exact⟨rfl,_,rfl,a1,a2,a3,.inl ⋯⟩
 ·rintro c st' ⟨rfl,n,rfl,a1,a2,a3,a4⟩;exact h n a1 a2 a3 a4
theorem Gm{α:Type}{c:Prop}[Decidable c]{P T:StateT SortSt Sem α}{R:SortSt->Prop}{st:SortSt}{Q:α->SortSt->Prop}(h1:c->(∀st2,R st2->wpS (model prog w) A E s P Q st2)->wpS (model prog w) A E s T Q st)(h2:¬ c->R st)(go:∀st2,R st2->wpS (model prog w) A E s P Q st2):wpS (model prog w) A E s (if c then T else P) Q st:=
 oJ (λx=>h1 x go) λx=>go st (h2 x)
theorem Qy(hC:Cmp prog w A s κ kd){st:SortSt}{lo nrem:Nat}{Q:Option Nat->SortSt->Prop}(hk:kindOf st=kd)(gd:∀x∈(arrOf st).toList,Gd κ x)(hz:lo+nrem<=(arrOf st).size)(h1:1<=nrem)
  (h:∀n st',1<=n->n<=nrem->Ch lo (lo+n) st st'->Up κ (arrOf st') lo (lo+n)->Q (some n) st'):wpS (model prog w) A E s (countRun' lo nrem) Q st:=by
 rw[countRun'_eq];refine zF (Gn hC hk gd hz (zG _) h1 Up.one (λx c=>rfl) λn n1 n2 up nx=>?_);dsimp only;refine oJ (λz=>?_) λz=>?_
 ·exact zH (h n st n1 n2 (Ch.refl _ _ _) up)
 have z':n≠nrem:=λe=>z (qT.mpr e);have nx':=nx.resolve_left z';refine Gm (R:=λst2=>Ch lo (lo+n) st st2/\Dn κ (arrOf st2) lo (lo+n+1)) (λy go=>?_) (λy=>?_) λst2 h2=>?_
 ·refine zF (eW hC hk gd ⋯ ⋯ λp q ep eq=>?_);dsimp only;cases hl:lq κ p q with
  |true =>
   rw[zJ rfl];exact zH (h n st n1 n2 (Ch.refl _ _ _) up)
  | false =>
   rw[zI (by simp)];refine zF (bK ⋯ λst2 c2 e2=>?_);refine go st2 ⟨c2,Dn.more (hi:=lo+n) ?_ ⋯ (by rw[c2.z];omega) λu v eu ev=>?_⟩
   ·-- all alike
    rw[e2];intro i j x y b1 b2 b3 ex ey;rw[iG ⋯,zJ ⟨b1,⋯⟩]at ex;rw[iG ⋯,zJ ⟨⋯,b3⟩]at ey;exact up _ _ y x ⋯ (show lo+(lo+n)-1-j<=lo+(lo+n)-1-i by omega) ⋯ ey ex
   ·rw[c2.o _ (.inr (zG _))]at ev;rw[e2,iG ⋯,zJ ⋯,show lo+(lo+n)-1-(lo+n-1)=lo by omega,ep]at eu;cases eu;exact mH (mO (nx' v q ev eq)) hl
 ·have:n=1:=⋯
  subst this;refine⟨Ch.refl _ _ _,Dn.more (hi:=lo+1) (λi j x y b1 b2 b3 ex ey=>?_) ⋯ ⋯ λu v eu ev=>mO (nx' v u ev eu)⟩;have:i=j:=⋯
  subst this;rw[ex]at ey;cases ey;exact jT _
 ·obtain⟨c2,dn⟩:=h2;refine zF (rD (wP ⟨rfl,?_⟩));refine zF (wH (xH (I:=λx c st'=>∃neq,c=(none,x,neq)/\n+1<=x/\x<=nrem/\neq+1<=x/\Ch lo (lo+x) st st'/\Dn κ (arrOf st') lo (lo+x)/\Up κ (arrOf st') (lo+x-(neq+1)) (lo+x))
   (Q:=λc st'=>∃x neq,c=(none,x,neq)/\n+1<=x/\x<=nrem/\neq+1<=x/\Ch lo (lo+x) st st'/\Dn κ (arrOf st') lo (lo+x)/\Up κ (arrOf st') (lo+x-(neq+1)) (lo+x)) ?_ ?_ ⟨0,rfl,zG _,⋯,⋯,c2.wide ⋯,dn,by rw[show lo+(n+1)=lo+n+1 by omega];exact Up.one⟩) ?_)
  ·rintro x c st' hx1 hx2 ⟨neq,rfl,a1,a2,a3,ch,dn,up⟩;have hk':kindOf st'=kd:=ch.k.trans hk;have gd':=ch.good gd;have z':=ch.z;dsimp only;refine zF (eW hC hk' gd' ⋯ ⋯ λp q ep eq=>?_);dsimp only;cases hl:lq κ p q with
   |true =>
    rw[zJ rfl];refine oJ (λzn=>?_) λzn=>?_
    ·refine zF (bK ⋯ λst3 c3 e3=>zH ?_);have cw:Ch lo (lo+x) st' st3:=⟨c3.k,c3.p,c3.f,c3.z,c3.m,λi hi=>c3.o i ⋯⟩;refine⟨0,rfl,⋯,⋯,⋯,(ch.trans cw).wide ⋯,?_,by rw[show lo+(x+1)-(0+1)=lo+x by omega];exact Up.one⟩;refine Dn.more (hi:=lo+x) (by rw[e3];exact Dn.turned dn up ⋯ (zG _) ⋯) ⋯ (by rw[c3.z];omega) λu v eu ev=>?_;rw[c3.o _ (.inr (zG _)),ep]at ev;cases ev;rw[e3,iG ⋯,zJ ⋯]at eu;have l1:le' κ q u:=dn _ _ u q ⋯ (show lo+x-(neq+1)+(lo+x)-1-(lo+x-1)<=lo+x-1 by omega) ⋯ eu eq;exact mH (mO hl) l1
    ·refine zH ⟨0,rfl,⋯,⋯,⋯,ch.wide ⋯,?_,by rw[show lo+(x+1)-(0+1)=lo+x by omega];exact Up.one⟩;refine Dn.more dn ⋯ ⋯ λu v eu ev=>?_;rw[eq]at eu;rw[ep]at ev;cases eu;cases ev;exact mO hl
   | false =>
    rw[zI (by simp)];refine zF (eW hC hk' gd' ⋯ ⋯ λq' p' eq' ep'=>?_);rw[eq]at eq';rw[ep]at ep';cases eq';cases ep';dsimp only;cases hl2:lq κ q p with
    |true =>
     rw[zJ rfl];exact zH ⟨x,neq,rfl,a1,a2,a3,ch,dn,up⟩
    | false =>
     rw[zI (by simp)];refine zH ⟨neq+1,rfl,⋯,⋯,⋯,ch.wide ⋯,?_,?_⟩
     ·refine Dn.more dn ⋯ ⋯ λu v eu ev=>?_;rw[eq]at eu;rw[ep]at ev;cases eu;cases ev;exact hl2
     ·have:=Up.more (hi':=lo+(x+1)) up ⋯ ⋯ λu v eu ev=>by
       rw[eq]at eu;rw[ep]at ev;cases eu;cases ev;exact hl
      rw[show lo+(x+1)-(neq+1+1)=lo+x-(neq+1) by omega];exact this
  ·rintro c st' ⟨neq,rfl,a1,a2,a3,ch,dn,up⟩;exact⟨_,neq,rfl,a1,a2,a3,ch,dn,up⟩
  ·rintro c st' ⟨x,neq,rfl,a1,a2,a3,ch,dn,up⟩;dsimp only;refine Gm (R:=λst3=>Ch lo (lo+x) st st3/\Dn κ (arrOf st3) lo (lo+x)) (λzn fin=>?_) (λzn=>⟨ch,dn⟩) λst3 h3=>?_
   ·have z':=ch.z;refine zF (bK ⋯ λst3 c3 e3=>?_);have cw:Ch lo (lo+x) st' st3:=⟨c3.k,c3.p,c3.f,c3.z,c3.m,λi hi=>c3.o i ⋯⟩;exact fin st3 ⟨ch.trans cw,by rw[e3];exact Dn.turned dn up ⋯ (zG _) ⋯⟩
   ·obtain⟨c3,dn3⟩:=h3;have z3:=c3.z;refine zF (bK ⋯ λst4 c4 e4=>?_);have c34:=c3.trans c4;have z4:=c4.z;refine zF (Gn hC (c34.k.trans hk) (c34.good gd) ⋯ ⋯ a2 (by rw[e4];exact Dn.up dn3 ⋯) (λ_ _=>rfl) λm m1 m2 up' _=>?_);dsimp only;exact zH (h m st4 ⋯ m2 (c34.wide ⋯) up')
theorem Qx{x y z:Keyed}(h1:lq κ x y=true)(h2:le' κ y z):lq κ x z=true:=KeyOrd.klt_of_klt_of_kle (O:=κ.toKeyOrd) h1 h2
theorem Up.put{a:Array Keyed}{lo k l:Nat}{p:Keyed}(hu:Up κ a lo (lo+k))(hz:lo+k<a.size)(ep:a[lo+k]?=some p)(hl:l<=k)(h1:∀i u,lo<=i->i<lo+l->a[i]?=some u->le' κ u p)(h2:∀i u,lo+l<=i->i<lo+k->a[i]?=some u->lq κ p u=true):
  Up κ (bubble a (lo+k) (lo+k-(lo+l))) lo (lo+(k+1)):=λi j x y g1 g2 g3 ex ey=>by
 rw[getElem?_bubble hz _ ⋯,show lo+k-(lo+k-(lo+l))=lo+l by omega]at ex ey
 by_cases a1:i=lo+l
 ·rw[zJ a1,ep]at ex;cases ex
  by_cases b1:j=lo+l
  ·rw[zJ b1,ep]at ey;cases ey;exact jT _
  ·rw[zI b1,zJ ⋯]at ey;exact mO (h2 _ _ ⋯ ⋯ ey)
 ·rw[zI a1]at ex
  by_cases a2:lo+l<i/\i<=lo+k
  ·rw[zJ a2]at ex;rw[zI ⋯,zJ ⋯]at ey;exact hu _ _ _ _ ⋯ (show i-1<=j-1 by omega) ⋯ ex ey
  ·rw[zI a2]at ex
   by_cases b1:j=lo+l
   ·rw[zJ b1,ep]at ey;cases ey;exact h1 _ _ g1 ⋯ ex
   ·rw[zI b1]at ey
    by_cases b2:lo+l<j/\j<=lo+k
    ·rw[zJ b2]at ey;exact hu _ _ _ _ g1 (show i<=j-1 by omega) ⋯ ex ey
    ·rw[zI b2]at ey;exact hu _ _ _ _ g1 g2 ⋯ ex ey
theorem Qw(hC:Cmp prog w A s κ kd){st:SortSt}{lo n ok:Nat}{Q:Bool->SortSt->Prop}(hk:kindOf st=kd)(gd:∀x∈(arrOf st).toList,Gd κ x)(hz:lo+n<=(arrOf st).size)(h1:1<=ok)(hok:ok<=n)(hu:Up κ (arrOf st) lo (lo+ok))
  (h:∀st',Ch lo (lo+n) st st'->Up κ (arrOf st') lo (lo+n)->Q true st'):wpS (model prog w) A E s (binarySort' lo n ok) Q st:=by
 rw[binarySort'_eq];refine zF (wH (xH (I:=λk c st'=>c=(none,())/\ok<=k/\k<=n/\Ch lo (lo+n) st st'/\Up κ (arrOf st') lo (lo+k))
  (Q:=λc st'=>c=(none,())/\Ch lo (lo+n) st st'/\Up κ (arrOf st') lo (lo+n)) ?step ?fin ?init) ?post)
 case post =>
  rintro c st' ⟨rfl,c1,u1⟩;exact zH (h st' c1 u1)
 case init=>rw[show max ok 1=ok by omega];exact⟨rfl,zG _,hok,Ch.refl _ _ _,hu⟩
 case fin =>
  rintro c st' ⟨hc,a1,a2,c1,u1⟩;rw[show max (max ok 1) n=n by omega]at u1;exact⟨hc,c1,u1⟩
 case step =>
  rintro k c st' hak hkn ⟨rfl,a1,a2,c1,u1⟩;have z1:=c1.z;have hk':kindOf st'=kd:=c1.k.trans hk;have gd':=c1.good gd;obtain⟨p,ep⟩:=nV (a:=arrOf st') (i:=lo+k) ⋯;refine zF (wH (xH (I:=λx c st''=>st''=st'/\∃l r,c=(none,l,r)/\l<=r/\r<=k/\r-l<=k-x /\
    (∀i u,lo<=i->i<lo+l->(arrOf st')[i]?=some u->le' κ u p)/\(∀i u,lo+r<=i->i<lo+k->(arrOf st')[i]?=some u->lq κ p u=true))
   (Q:=λc st''=>st''=st'/\∃l r,c=(none,l,r)/\l<=k /\
    (∀i u,lo<=i->i<lo+l->(arrOf st')[i]?=some u->le' κ u p)/\(∀i u,lo+l<=i->i<lo+k->(arrOf st')[i]?=some u->lq κ p u=true)) ?istep ?ifin ?iinit) ?ipost)
  case iinit=>exact⟨rfl,0,k,rfl,⋯,⋯,⋯,λi u _ hi=>⋯,λi u h1 h2=>⋯⟩
  case ifin =>
   rintro c st'' ⟨rfl,l,r,rfl,hlr,hrk,hm,hlo,hhi⟩;have:l=r:=⋯
   subst this;exact⟨rfl,l,l,rfl,hrk,hlo,hhi⟩
  case istep =>
   rintro x c st'' _ hxk ⟨rfl,l,r,rfl,hlr,hrk,hm,hlo,hhi⟩;dsimp only;refine oJ (λhge=>?_) λhge=>?_
   ·have:l=r:=⋯
    subst this;exact zH ⟨rfl,l,l,rfl,hrk,hlo,hhi⟩
   ·refine zF (eW hC hk' gd' ⋯ ⋯ λp' q ep' eq=>?_);rw[ep]at ep';cases ep';dsimp only;cases hless:lq κ p q with
    |true =>
     rw[zJ rfl];refine zH ⟨rfl,l,(l+r)/2,rfl,⋯,⋯,⋯,hlo,λi u g1 g2 eu=>?_⟩;exact Qx hless (u1 _ _ _ _ ⋯ g1 g2 eq eu)
    |false =>
     rw[zI (by simp)];refine zH ⟨rfl,(l+r)/2+1,r,rfl,⋯,⋯,⋯,λi u g1 g2 eu=>?_,hhi⟩;exact mH (u1 _ _ _ _ g1 (show i<=lo+(l+r)/2 by omega) ⋯ eu eq) hless
  case ipost =>
   rintro c st'' ⟨rfl,l,r,rfl,hlk,hlo,hhi⟩;show wpS _ _ _ _ (do moveDown' (lo+k) (lo+l);pure (ForInStep.yield (none,()))) _ _;rw[moveDown'_eq];refine zF (wQ (zH ⟨rfl,⋯,⋯,c1.trans ⟨rfl,rfl,rfl,bubble_size _ _ _,bubble_perm _ _ _,λi hi=>?_⟩,u1.put ⋯ ep hlk hlo hhi⟩));exact(getElem?_bubble ⋯ _ ⋯ i).trans (by rw[zI ⋯,zI ⋯])
def Run(κ:PyProof.Rows.KeyKind)(a:Array Keyed):Nat->List (Nat×Nat×Nat)->Nat->Prop
 |s,[],e=>s=e
 |s,x:: xs,e=>x.1=s/\1<=x.2.1/\Up κ a s (s+x.2.1)/\Run κ a (s+x.2.1) xs e
theorem Run.le{a:Array Keyed}:∀{xs:List (Nat×Nat×Nat)}{s e:Nat},Run κ a s xs e->s+xs.length<=e
 |[],s,e,h=>by have:s=e:=h;simp[this]
 |x:: xs,s,e,h=>by have:=Run.le h.2.2.2;have:=h.2.1;simp only[List.length_cons];omega
theorem Run.app{a:Array Keyed}:∀{xs ys:List (Nat×Nat×Nat)}{s e:Nat},Run κ a s (xs++ys) e ↔ ∃m,Run κ a s xs m/\Run κ a m ys e
 |[],ys,s,e=>⟨λh=>⟨s,rfl,h⟩,λ⟨m,h1,h2⟩=>by cases(show s=m from h1);exact h2⟩
 |x:: xs,ys,s,e=>⟨λ⟨h1,h2,h3,h4⟩=>let ⟨m,g1,g2⟩:=Run.app.mp h4;⟨m,⟨h1,h2,h3,g1⟩,g2⟩,λ⟨m,⟨h1,h2,h3,h4⟩,g⟩=>⟨h1,h2,h3,Run.app.mpr ⟨m,h4,g⟩⟩⟩
theorem Run.same{a b:Array Keyed}:∀{xs:List (Nat×Nat×Nat)}{s e:Nat},(∀i,s<=i->i<e->b[i]?=a[i]?)->Run κ a s xs e->Run κ b s xs e
 |[],_,_,_,h=>h
 |x:: xs,s,e,q,h=>by
  have:=Run.le h.2.2.2;exact⟨h.1,h.2.1,h.2.2.1.same λi i1 i2=>q i i1 ⋯,Run.same (λi i1 i2=>q i ⋯ i2) h.2.2.2⟩
theorem Bv{a:Array Keyed}{i j:Nat}(h:Up κ a i j):Srt κ (seg a.toList i j):=by
 rw[Srt,List.pairwise_iff_getElem];intro t u ht hu htu;have e1:=xN ht;have e2:=xN hu;rw[eV]at e1 e2;split at e1
 ·split at e2
  ·exact h _ _ _ _ ⋯ (show i+t<=i+u by omega) ⋯ (oF.mpr e1) (oF.mpr e2)
  ·cases e2
 ·cases e1
theorem Qv{a:Array Keyed}{l X r:List Keyed}{i j:Nat}(e:a.toList=l++X++r)(hl:l.length=i)(hx:X.length=j-i)(h:Srt κ X):Up κ a i j:=λp q x y h1 h2 h3 ex ey=>by
 have ex:=oF.mp ex;have ey:=oF.mp ey;rw[e,yR,yD ⋯,yT ⋯]at ex ey;rcases uL p q with c|c
 ·have hp:p-l.length<X.length:=⋯
  have hq:q-l.length<X.length:=⋯
  rw[xN hp]at ex;rw[xN hq]at ey;cases ex;cases ey;exact(List.pairwise_iff_getElem.mp h) _ _ hp hq ⋯
 ·have:p=q:=⋯
  subst this;rw[ex]at ey;cases ey;exact jT _
structure Wt(κ:PyProof.Rows.KeyKind)(kd:SortKind)(a₀:Array Keyed)(hi:Nat)(st:SortSt):Prop where
 k:kindOf st=kd
 f:failedOf st=none
 m:(arrOf st).Perm a₀
 r:Run κ (arrOf st) 0 (pendingOf st).toList hi
theorem Wt.z{a₀:Array Keyed}{hi:Nat}{st:SortSt}(h:Wt κ kd a₀ hi st):(arrOf st).size=a₀.size:=h.m.size_eq
theorem Wt.good{a₀:Array Keyed}{hi:Nat}{st:SortSt}(h:Wt κ kd a₀ hi st)(gd:∀x∈a₀.toList,Gd κ x):∀x∈(arrOf st).toList,Gd κ x:=λx hx=>gd x ((h.m.toList.mem_iff).mp hx)
theorem Qu{p:Array (Nat×Nat×Nat)}{xs ys:List (Nat×Nat×Nat)}{e f g:Nat×Nat×Nat}(h:p.toList=xs++e:: f:: ys):((p.setIfInBounds xs.length g).eraseIdxIfInBounds (xs.length+1)).toList=xs++g:: ys:=by
 have hz:xs.length+1<(p.setIfInBounds xs.length g).size:=by
  rw[Array.size_setIfInBounds,←zO,h];simp
 rw[Array.eraseIdxIfInBounds,qR hz,Array.toList_eraseIdx,Array.toList_setIfInBounds,h,List.set_append_right _ _ (zG _),tJ];rw[vL ⋯];simp
theorem Bu(hC:Cmp prog w A s κ kd){a₀:Array Keyed}(gd:∀x∈a₀.toList,Gd κ x){st:SortSt}{i hi:Nat}{xs ys:List (Nat×Nat×Nat)}{e f:Nat×Nat×Nat}{Q:Bool->SortSt->Prop}(hw:Wt κ kd a₀ hi st)(hh:hi<=a₀.size)(hp:(pendingOf st).toList=xs++e:: f:: ys)(hx:i=xs.length)
  (h:∀st',Wt κ kd a₀ hi st'->(pendingOf st').toList=xs++(e.1,e.2.1+f.2.1,e.2.2):: ys->(∀j,hi<=j->(arrOf st')[j]?=(arrOf st)[j]?)->Q true st'):wpS (model prog w) A E s (mergeAt' i) Q st:=by
 subst hx;have hr:=hw.r;rw[hp]at hr;obtain⟨m,r1,h1,h2,h3,h4,h5,h6,r2⟩:=Run.app.mp hr;have l1:=r1.le;have l2:=r2.le;have hz:=hw.z;have e1:(pendingOf st)[xs.length]?=some (m,e.2.1,e.2.2):=by
  rw[←yZ,hp,yD (zG _),tJ,←h1];rfl
 have e2:(pendingOf st)[xs.length+1]?=some (m+e.2.1,f.2.1,f.2.2):=by
  rw[←yZ,hp,yD ⋯,Nat.add_sub_cancel_left,←h4];rfl
 refine Qz hC hw.k (hw.good gd) hw.f e1 e2 h2 h5 ⋯ (Bv h3) (Bv h6) λst' X k' f' p' a' pm sX=>?_;have lX:X.length=e.2.1+f.2.1:=by rw[pm.length_eq,Bw (by rw[zO];omega)];omega
 have lt:((arrOf st).toList.take m).length=m:=by rw[yW,zO];omega
 have ps:(pendingOf st').toList=xs++(e.1,e.2.1+f.2.1,e.2.2):: ys:=by
  rw[p',←h1];exact Qu hp
 have up:Up κ (arrOf st') m (m+e.2.1+f.2.1):=Qv a' lt ⋯ sX;have lo:∀j,j<m->(arrOf st')[j]?=(arrOf st)[j]?:=λj hj=>by
  rw[←yZ,←yZ,a',yR,yT ⋯,List.getElem?_take_of_lt hj]
 have hig:∀j,m+e.2.1+f.2.1<=j->(arrOf st')[j]?=(arrOf st)[j]?:=λj hj=>by
  rw[←yZ,←yZ,a',yD (by rw[zX];omega),tE];congr 1;rw[zX];omega
 refine h st' ⟨k',f',?_,?_⟩ ps λj hj=>hig j ⋯
 ·refine Array.Perm.trans (Array.perm_iff_toList_perm.mpr ?_) hw.m;have q:=(pm.append_left ((arrOf st).toList.take m)).append_right ((arrOf st).toList.drop (m+e.2.1+f.2.1));rw[Gp ⋯]at q;rw[a'];exact q
 ·rw[ps];refine Run.app.mpr ⟨m,r1.same λj _ hj=>lo j hj,h1,(show 1<=e.2.1+f.2.1 by omega),?_,?_⟩
  ·show Up κ _ m (m+(e.2.1+f.2.1));rw[←tZ];exact up
  ·show Run κ _ (m+(e.2.1+f.2.1)) _ _;rw[←tZ];exact r2.same λj hj _=>hig j hj
theorem Run.modify{a:Array Keyed}{f:Nat×Nat×Nat->Nat×Nat×Nat}(hf:∀e,(f e).1=e.1/\(f e).2.1=e.2.1):∀{xs:List (Nat×Nat×Nat)}{i s e:Nat},Run κ a s xs e->Run κ a s (xs.modify i f) e
 |[],i,s,e,h=>by cases i <;> exact h
 |x:: xs,0,s,e,h=>by
  show(f x).1=s/\1<=(f x).2.1/\Up κ a s (s+(f x).2.1)/\Run κ a (s+(f x).2.1) xs e;rw[(hf x).1,(hf x).2];exact h
 |x:: xs,i+1,s,e,h=>⟨h.1,h.2.1,h.2.2.1,Run.modify hf h.2.2.2⟩
theorem Qt{b:Prop}[Decidable b]{z:Nat}(h:¬ z<=1):(if b then z-2-1 else z-2)+1<z:=by split <;> omega
theorem Bt{p:Array (Nat×Nat×Nat)}{i:Nat}(h:i+1<p.size):∃xs e f ys,p.toList=xs++e:: f:: ys/\xs.length=i:=by
 have h':i+1<p.toList.length:=by rw[zO];exact h
 refine⟨p.toList.take i,p.toList[i],p.toList[i+1],p.toList.drop (i+2),?_,by rw[yW];omega⟩;rw[←uW,←uW,xU]
theorem Wt.push{a₀:Array Keyed}{lo n:Nat}{st:SortSt}(h:Wt κ kd a₀ lo st)(hn:1<=n)(hu:Up κ (arrOf st) lo (lo+n)):Wt κ kd a₀ (lo+n) (setPending st ((pendingOf st).push (lo,n,0))):=
 ⟨h.k,h.f,h.m,by
  show Run κ (arrOf st) 0 ((pendingOf st).push (lo,n,0)).toList (lo+n);rw[uF];exact Run.app.mpr ⟨lo,h.r,rfl,hn,hu,rfl⟩⟩
theorem Qs(hC:Cmp prog w A s κ kd){a₀:Array Keyed}(gd:∀x∈a₀.toList,Gd κ x){st:SortSt}{Q:Unit->SortSt->Prop}(hk:kindOf st=kd)(hf:failedOf st=none)(hp:pendingOf st=#[])(ha:arrOf st=a₀)
  (h:∀st',kindOf st'=kd->failedOf st'=none->(arrOf st').Perm a₀->Up κ (arrOf st') 0 a₀.size->Q () st'):wpS (model prog w) A E s sortRuns' Q st:=by
 rw[sortRuns'_eq];refine zF (uM ?_);rw[ha];dsimp only;have w0:Wt κ kd a₀ 0 st:=⟨hk,hf,by rw[ha],by rw[hp];rfl⟩;refine zF (wH (xH (I:=λx c st'=>∃lo,c=(none,lo)/\x<=lo/\lo<=a₀.size/\Wt κ kd a₀ lo st')
  (Q:=λc st'=>c=(none,a₀.size)/\Wt κ kd a₀ a₀.size st') ?step ?fin ⟨0,rfl,zG _,yU _,w0⟩) ?post)
 case fin =>
  rintro c st' ⟨lo,rfl,h1,h2,hw⟩;have:lo=a₀.size:=⋯
  subst this;exact⟨rfl,hw⟩
 case step =>
  rintro x c st' hx1 hx2 ⟨lo,rfl,h1,h2,hw⟩;dsimp only;refine oJ (λz=>?_) λz=>?_
  ·have:lo=a₀.size:=⋯
   subst this;exact zH ⟨rfl,hw⟩
  have hz:=hw.z;refine zF (Qy hC hw.k (hw.good gd) ⋯ ⋯ λn st1 n1 n2 c1 u1=>?_);dsimp only;have low:∀st2,kindOf st2=kindOf st'->pendingOf st2=pendingOf st'->failedOf st2=failedOf st'->(arrOf st2).Perm (arrOf st')->(∀i,i<lo->(arrOf st2)[i]?=(arrOf st')[i]?)->Wt κ kd a₀ lo st2:=λst2 e1 e2 e3 e4 e5=>⟨e1.trans hw.k,e3.trans hw.f,e4.trans hw.m,by rw[e2];exact hw.r.same λi _ hi=>e5 i hi⟩;refine oJ (λy=>?_) λy=>?_
  ·refine zF (rD (wP ⟨rfl,?_⟩));have z1:=c1.z;refine zF (Qw hC (c1.k.trans hw.k) (c1.good (hw.good gd)) ⋯ n1 ⋯ u1 λst2 c2 u2=>?_);rw[zI (by simp)];obtain⟨w2,m1,m2,u2⟩:Wt κ kd a₀ lo st2/\1<=min (a₀.size-lo) (minRun' a₀.size a₀.size 0)/\lo+min (a₀.size-lo) (minRun' a₀.size a₀.size 0)<=a₀.size/\Up κ (arrOf st2) lo (lo+min (a₀.size-lo) (minRun' a₀.size a₀.size 0)):=⟨low st2 (c2.k.trans c1.k) (c2.p.trans c1.p) (c2.f.trans c1.f) (c2.m.trans c1.m) λi hi=>(c2.o i (.inl hi)).trans (c1.o i (.inl hi)),⋯,⋯,u2⟩
   revert m1 m2 u2
   generalize min (a₀.size-lo) (minRun' a₀.size a₀.size 0)=n;intro m1 m2 u2;refine zF (uM ?_);cases hb:(pendingOf st2).back? with
   |none =>
    dsimp only;exact zF (wQ (zH ⟨lo+n,rfl,⋯,m2,w2.push m1 u2⟩))
   | some t =>
    obtain⟨s1,k1,p1⟩:=t;dsimp only;generalize power' a₀.size (2*s1+k1) (2*s1+k1+k1+n) a₀.size=pw;refine zF (wH (xH (I:=λx c st'=>c=(none,())/\Wt κ kd a₀ lo st'/\Up κ (arrOf st') lo (lo+n))
     (Q:=λc st'=>c=(none,())/\Wt κ kd a₀ lo st'/\Up κ (arrOf st') lo (lo+n)) ?istep1 (λc st' hh=>hh) ⟨rfl,w2,u2⟩) ?ipost1)
    case istep1 =>
     rintro x c st3 _ _ ⟨rfl,w3,u3⟩;refine zF (uM ?_)
     by_cases hs:(pendingOf st3).size > 1
     ·rw[zJ hs];obtain⟨xs,e,f,ys,ep,el⟩:=Bt (p:=pendingOf st3) (i:=(pendingOf st3).size-2) ⋯;have ee:(pendingOf st3)[(pendingOf st3).size-2]?=some e:=by
       rw[←yZ,ep,yD ⋯,el,tJ];rfl
      rw[ee];dsimp only;refine oJ (λ_=>zH ⟨rfl,w3,u3⟩) λ_=>?_;refine zF (Bu hC gd w3 h2 ep el.symm λst4 w4 p4 a4=>?_);rw[zI (by simp)];exact zH ⟨rfl,w4,u3.same λi hi _=>a4 i hi⟩
     ·rw[zI hs];exact zH ⟨rfl,w3,u3⟩
    case ipost1 =>
     rintro c st3 ⟨rfl,w3,u3⟩;dsimp only;refine zF (wQ ?_);have w4:Wt κ kd a₀ lo (setPending st3 ((pendingOf st3).modify ((pendingOf st3).size-1) λx=>(x.1,x.2.1,pw))):=⟨w3.k,w3.f,w3.m,by
      show Run κ (arrOf st3) 0 ((pendingOf st3).modify _ _).toList lo;rw[Array.toList_modify];exact Run.modify (f:=λx=>(x.1,x.2.1,pw)) (λe=>⟨rfl,rfl⟩) w3.r⟩
     exact zF (wQ (zH ⟨lo+n,rfl,⋯,m2,w4.push m1 u3⟩))
  ·have w2:=low st1 c1.k c1.p c1.f c1.m λi hi=>c1.o i (.inl hi);have m2:lo+n<=a₀.size:=⋯
   refine zF (uM ?_);cases hb:(pendingOf st1).back? with
   |none =>
    dsimp only;exact zF (wQ (zH ⟨lo+n,rfl,⋯,m2,w2.push n1 u1⟩))
   | some t =>
    obtain⟨s1,k1,p1⟩:=t;dsimp only;generalize power' a₀.size (2*s1+k1) (2*s1+k1+k1+n) a₀.size=pw;refine zF (wH (xH (I:=λx c st'=>c=(none,())/\Wt κ kd a₀ lo st'/\Up κ (arrOf st') lo (lo+n))
     (Q:=λc st'=>c=(none,())/\Wt κ kd a₀ lo st'/\Up κ (arrOf st') lo (lo+n)) ?istep (λc st' hh=>hh) ⟨rfl,w2,u1⟩) ?ipost)
    case istep =>
     rintro x c st3 _ _ ⟨rfl,w3,u3⟩;refine zF (uM ?_)
     by_cases hs:(pendingOf st3).size > 1
     ·rw[zJ hs];obtain⟨xs,e,f,ys,ep,el⟩:=Bt (p:=pendingOf st3) (i:=(pendingOf st3).size-2) ⋯;have ee:(pendingOf st3)[(pendingOf st3).size-2]?=some e:=by
       rw[←yZ,ep,yD ⋯,el,tJ];rfl
      rw[ee];dsimp only;refine oJ (λ_=>zH ⟨rfl,w3,u3⟩) λ_=>?_;refine zF (Bu hC gd w3 h2 ep el.symm λst4 w4 p4 a4=>?_);rw[zI (by simp)];exact zH ⟨rfl,w4,u3.same λi hi _=>a4 i hi⟩
     ·rw[zI hs];exact zH ⟨rfl,w3,u3⟩
    case ipost =>
     rintro c st3 ⟨rfl,w3,u3⟩;dsimp only;refine zF (wQ ?_);have w4:Wt κ kd a₀ lo (setPending st3 ((pendingOf st3).modify ((pendingOf st3).size-1) λx=>(x.1,x.2.1,pw))):=⟨w3.k,w3.f,w3.m,by
      show Run κ (arrOf st3) 0 ((pendingOf st3).modify _ _).toList lo;rw[Array.toList_modify];exact Run.modify (f:=λx=>(x.1,x.2.1,pw)) (λe=>⟨rfl,rfl⟩) w3.r⟩
     exact zF (wQ (zH ⟨lo+n,rfl,⋯,m2,w4.push n1 u3⟩))
 case post =>
  rintro c st' ⟨rfl,hw⟩;dsimp only;have l0:=hw.r.le;rw[zO]at l0;refine zF (wH (xH (I:=λx c st'=>c=(none,())/\Wt κ kd a₀ a₀.size st'/\((pendingOf st').size<=1\/(pendingOf st').size+x<=a₀.size))
   (Q:=λc st'=>c=(none,())/\Wt κ kd a₀ a₀.size st'/\(pendingOf st').size<=1) ?fstep ?ffin ⟨rfl,hw,.inr ⋯⟩) ?fpost)
  case ffin =>
   rintro c st3 ⟨rfl,w3,z3⟩;exact⟨rfl,w3,⋯⟩
  case fstep =>
   rintro x c st3 _ _ ⟨rfl,w3,z3⟩;refine zF (uM ?_);refine oJ (λq=>zH ⟨rfl,w3,q⟩) λq=>?_;generalize hi:(if Option.any (λx=>decide (x<(pendingOf st3)[(pendingOf st3).size-2+1]?.elim 0 λx=>x.2.1)) (if(pendingOf st3).size-2 > 0 then Option.map (λx=>x.2.1) (pendingOf st3)[(pendingOf st3).size-2-1]? else none)=true then(pendingOf st3).size-2-1 else(pendingOf st3).size-2)=i;have hi':i+1<(pendingOf st3).size:=by
    rw[←hi];exact Qt q
   obtain⟨xs,e,f,ys,ep,el⟩:=Bt hi';refine zF (Bu hC gd w3 (zG _) ep el.symm λst4 w4 p4 _=>?_);rw[zI (by simp)];refine zH ⟨rfl,w4,.inr ?_⟩;have g1:=wC List.length ep;have g2:=wC List.length p4;simp only[Array.length_toList,List.length_append,List.length_cons]at g1 g2;omega
  case fpost =>
   rintro c st3 ⟨rfl,w3,z3⟩;refine zH (h st3 w3.k w3.f w3.m ?_);have hr:=w3.r;rw[←zO]at z3
   match hl:(pendingOf st3).toList,hr,z3 with
   |[],hr,_ =>
    have:0=a₀.size:=hr;rw[←this];exactλi j x y _ _ hj=>absurd hj (rZ _)
   |[t],hr,_ =>
    have:0+t.2.1=a₀.size:=hr.2.2.2;rw[←this];exact hr.2.2.1
end
def eX(prog:Program)(w:World)(n:Nat):Prop:=∀{A:Around}{E:VP}{s:Shared}{κ:PyProof.Rows.KeyKind}{kd:SortKind}{a₀:Array Keyed}{st:SortSt}{Q:Unit->SortSt->Prop},a₀.size=n->2<=n->Cmp prog w A s κ kd->(∀x∈a₀.toList,Gd κ x)->kindOf st=kd->failedOf st=none->pendingOf st=#[]->arrOf st=a₀ ->
 (∀st',kindOf st'=kd->failedOf st'=none->(arrOf st').Perm a₀->Up κ (arrOf st') 0 a₀.size->Q () st')->wpS (model prog w) A E s sortRuns' Q st
section
variable {prog:Program} {w:World}
theorem Qr(n:Nat):eX prog w n:=λ_ _ hC gd hk hf hp ha h=>Qs hC gd hk hf hp ha h
end
mutual
noncomputable def fl:PyData->LI'
 |.int i=>[i]
 |.tuple xs=>flA xs
 |_=>[]
noncomputable def flA:List PyData->LI'
 |[]=>[]
 |d:: ds=>fl d++flA ds
end
mutual
noncomputable def sm:PyData->PyData->Bool
 |.int _,.int _=>true
 |.tuple xs,.tuple ys=>smA xs ys
 |_,_=>false
noncomputable def smA:List PyData->List PyData->Bool
 |[],[]=>true
 |x:: xs,y:: ys=>sm x y && smA xs ys
 |_,_=>false
end
mutual
theorem bL:∀(x y:PyData),sm x y=true->(fl x).length=(fl y).length
 |.int _,y,h=>by cases y <;> simp[sm]at h <;> simp[fl]
 |.tuple xs,y,h=>by cases y <;> simp[sm]at h <;> simp[fl];exact Gk _ _ h
 |.none,y,h=>by simp[sm]at h
 |.bool _,y,h=>by simp[sm]at h
 |.str _,y,h=>by simp[sm]at h
 |.list _,y,h=>by simp[sm]at h
 |.dict _,y,h=>by simp[sm]at h
theorem Gk:∀(xs ys:List PyData),smA xs ys=true->(flA xs).length=(flA ys).length
 |[],ys,h=>by cases ys <;> simp[smA]at h <;> rfl
 |x:: xs,ys,h=>by
  cases ys <;> simp[smA]at h;simp only[flA,List.length_append];rw[bL _ _ h.1,Gk _ _ h.2]
end
mutual
theorem Bs:∀(x y:PyData),sm x y=true->fl x=fl y->x=y
 |.int _,y,h,e=>by cases y <;> simp[sm]at h;simp[fl]at e;rw[e]
 |.tuple xs,y,h,e=>by cases y <;> simp[sm]at h;simp only[fl]at e;rw[Gj _ _ h e]
 |.none,y,h,e=>by simp[sm]at h
 |.bool _,y,h,e=>by simp[sm]at h
 |.str _,y,h,e=>by simp[sm]at h
 |.list _,y,h,e=>by simp[sm]at h
 |.dict _,y,h,e=>by simp[sm]at h
theorem Gj:∀(xs ys:List PyData),smA xs ys=true->flA xs=flA ys->xs=ys
 |[],ys,h,e=>by cases ys <;> simp[smA]at h;rfl
 |x:: xs,ys,h,e=>by
  cases ys <;> simp[smA]at h;simp only[flA]at e;obtain⟨e1,e2⟩:=List.append_inj e (bL _ _ h.1);rw[Bs _ _ h.1 e1,Gj _ _ h.2 e2]
end
noncomputable def lx(a b:LI'):Bool:=decide (a<b)
theorem Br:∀(a l1 l2:LI'),lx (a++l1) (a++l2)=lx l1 l2
 |[],_,_=>rfl
 |x:: a,l1,l2=>by
  rw[←Br a l1 l2]
  refine qZ.mpr ?_
  simp[List.cons_lt_cons_iff]
theorem Bq:∀(a b l1 l2:LI'),a.length=b.length->a≠b->lx (a++l1) (b++l2)=lx a b
 |[],[],_,_,_,h=>absurd rfl h
 |[],_:: _,_,_,h,_=>by simp at h
 |_:: _,[],_,_,h,_=>by simp at h
 |x:: a,y:: b,l1,l2,h,hn=>by
  refine qZ.mpr ?_
  simp only[List.cons_append,List.cons_lt_cons_iff]
  by_cases e:x=y
  ·subst e;have:=qZ.mp (Bq a b l1 l2 (by simpa using h) (by simpa using hn));rw[this]
  ·simp[e]
section
variable {prog:Program} {w:World} {E:VP}
theorem eqT{n:Nat}(hn:n<=4){A:Around}{s:Shared}{v u:Value}{x y:PyData}{as bs:LA}{Q:Bool->Shared->Prop}(t1:tT n x=true)(t2:tT n y=true)(r1:Reads s.heap v x as)(r2:Reads s.heap u y bs)(hu:A.units+8<cLine)(h:Q (decide (x=y)) s):wpAny (model prog w) A (eqBool v u) Q E s:=by
 have i1:=iV n _ t1;have i2:=iV n _ t2;have l1:=jI n _ i1;have l2:=jI n _ i2;refine PySem.SeqAt.eqBoolOverData _ _ _ _ _ _ _ _ _ _ _ _ r1 r2 l1.1 l2.1 ⋯ ?_;rw[←SeqAt.same_eq_eqv _ _ (cQ n _ _ i1 i2)];have e:=cR n _ _ i1 i2
 by_cases z:x=y
 ·rw[zK z]at h;rw[e.mpr z];exact h
 ·rw[zN z]at h;have:same x y=false:=by
   cases q:same x y with
   |false=>rfl
   |true=>exact absurd (e.mp q) z
  rw[this];exact h
theorem ltT:∀(n:Nat),n<=4->∀{A:Around}{s:Shared}{v u:Value}{x y:PyData}{as bs:LA}{Q:VP},tT n x=true->tT n y=true->sm x y=true->Reads s.heap v x as->Reads s.heap u y bs->A.units+8+n<cLine->Q (.bool (lx (fl x) (fl y))) s->wpAny (model prog w) A (richCompare .Lt v u) Q E s:=by
 intro n
 induction n with
 |zero =>
  intro hn A s v u x y as bs Q t1 t2 hs r1 r2 hu h;cases r1 <;> simp[tT]at t1;cases r2 <;> simp[tT]at t2;refine wpAny_lt_int ?_;simpa [fl,lx,uK]using h
 | succ n ih =>
  intro hn A s v u x y as bs Q t1 t2 hs r1 r2 hu h;cases r1 <;> simp only[tT,Bool.false_eq_true]at t1
  case int =>
   cases r2 <;> simp only[sm,Bool.false_eq_true]at hs;refine wpAny_lt_int ?_;simpa [fl,lx,uK]using h
  case tuple a o vs m xs hg hc hd hr =>
   cases r2 <;> simp only[sm,Bool.false_eq_true]at hs;rename_i b o2 us m2 ys hg2 hc2 hd2 hr2;simp only[tT]at t2;have T1:s.TypeIs (.ref a) "tuple" := ⟨o,hg,hc⟩;have T2:s.TypeIs (.ref b) "tuple" := ⟨o2,hg2,hc2⟩;refine wpAny_richCompare_same_room (op:=.Lt) T1 T2 PySem.F.slot_tuple_lt (xS PySem.F.slot_tuple_lt T1 PySem.F.entry_tuple_lt ?_ (PySem.F.args_tuple_lt_2 _ _)) ⋯;show wpAny _ _ (isInstance (.ref b) (.type "tuple") >>= _) _ _ s;refine zA (vU T2 isSubtype_tuple_tuple ?_);simp only[Bool.not_true,Bool.false_eq_true,if_false];refine zA (rH hg hd ?_);refine zA (rH hg2 hd2 ?_);refine zA ?_;refine wpAny_forIn_list _
    (λrest r s'=>r.1=none/\s'=s/\∃x' y' vs' us' as' bs',rest=List.zip vs' us'/\ReadsAll s.heap vs' x' as'/\ReadsAll s.heap us' y' bs'/\x'.all (tT n)=true/\y'.all (tT n)=true/\smA x' y'=true/\lx (flA x') (flA y')=lx (flA xs) (flA ys)/\(vs'.length+us.size=us'.length+vs.size))
    _ ?_ ?_ _ _ ⟨rfl,rfl,xs,ys,vs.toList,us.toList,_,_,rfl,hr,hr2,t1,t2,hs,rfl,by simp;omega⟩
   ·rintro⟨p,q⟩ rest r s' ⟨hq,rfl,x',y',vs',us',as',bs',hz,ra,rb,ta,tb,hsm,hdec,hlen⟩;cases ra with
    |nil=>simp at hz
    | @cons p' vs'' d' x'' a1 as'' r1 ra' =>
     cases rb with
     |nil=>simp[smA]at hsm
     |@cons q' us'' e' y'' b1 bs'' r2 rb' =>
      simp only[List.zip_cons_cons,List.cons.injEq,Prod.mk.injEq]at hz;obtain⟨⟨rfl,rfl⟩,rfl⟩:=hz;rw[xC,zQ]at ta tb;simp only[smA,Bool.and_eq_true]at hsm;refine zA (eqT (n:=n) ⋯ ta.1 tb.1 r1 r2 (by show A.units+1+8<cLine;omega) ?_)
      by_cases e:d'=e'
      ·subst e;rw[zK rfl];simp only[Bool.not_true,Bool.false_eq_true,if_false];refine zB ⟨rfl,rfl,x'',y'',vs'',us'',_,_,rfl,ra',rb',ta.2,tb.2,hsm.2,?_,by simp at hlen;omega⟩;rw[←hdec];simp only[flA];rw[Br]
      ·rw[zN e];simp only[Bool.not_false,if_true];have hne:fl d'≠fl e':=λq=>e (Bs _ _ hsm.1 q);simp only[flA]at hdec;rw[Bq _ _ _ _ (bL _ _ hsm.1) hne]at hdec;refine zA (wP ?_);refine zA (ih ⋯ ta.1 tb.1 hsm.1 r1 r2 (by show A.units+1+8+n<cLine;omega) ?_);rw[hdec];exact zA (zB (zB (zB ⟨_,rfl,(λe=>nomatch e),h⟩)))
   ·rintro⟨r1,r2⟩ s' ⟨hq,rfl,x',y',vs',us',as',bs',hz,ra,rb,ta,tb,hsm,hdec,hlen⟩;simp only at hq;subst hq;cases ra with
    |cons ra1 ra2 =>
     cases rb with
     |nil=>simp[smA]at hsm
     |cons rb1 rb2=>simp at hz
    | nil =>
     cases rb with
     |cons rb1 rb2=>simp[smA]at hsm
     |nil =>
      have ez:vs.size=us.size:=by simp at hlen;omega
      have e0:lx (flA xs) (flA ys)=false:=by rw[←hdec];simp[flA,lx]
      refine zB ⟨_,rfl,(λe=>nomatch e),?_⟩;show Q (.bool (decide (vs.size<us.size))) s';have h':Q (.bool (lx (flA xs) (flA ys))) s':=h;rw[e0]at h';rw[ez,zN (xB _)];exact h'
end
mutual
theorem Gi:∀(d x y:PyData),sm d x=true->sm d y=true->sm x y=true
 |.int _,x,y,h1,h2=>by cases x <;> simp[sm]at h1;cases y <;> simp[sm]at h2;simp[sm]
 |.tuple xs,x,y,h1,h2=>by cases x <;> simp[sm]at h1;cases y <;> simp[sm]at h2;simp only[sm];exact Gh _ _ _ h1 h2
 |.none,x,y,h1,h2=>by simp[sm]at h1
 |.bool _,x,y,h1,h2=>by simp[sm]at h1
 |.str _,x,y,h1,h2=>by simp[sm]at h1
 |.list _,x,y,h1,h2=>by simp[sm]at h1
 |.dict _,x,y,h1,h2=>by simp[sm]at h1
theorem Gh:∀(d x y:List PyData),smA d x=true->smA d y=true->smA x y=true
 |[],x,y,h1,h2=>by cases x <;> simp[smA]at h1;cases y <;> simp[smA]at h2;simp[smA]
 |d:: ds,x,y,h1,h2=>by
  cases x <;> simp[smA]at h1;cases y <;> simp[smA]at h2;simp only[smA,Bool.and_eq_true];exact⟨Gi _ _ _ h1.1 h2.1,Gh _ _ _ h1.2 h2.2⟩
end
theorem Qq(a:LI'):lx a a=false:=zN (List.lt_irrefl a)
theorem Qp(a b c:LI')(h1:lx a b=true)(h2:lx b c=true):lx a c=true:=zK (List.lt_trans (yM h1) (yM h2))
theorem Qo(a b:LI')(h1:lx a b=false)(h2:lx b a=false):a=b:=List.le_antisymm (pF.mp (tK h2)) (pF.mp (tK h1))
theorem Qn(a b c:LI')(h:lx a c=true):lx a b=true\/lx b c=true:=by
 cases h1:lx a b with
 |true=>exact .inl rfl
 | false =>
  refine .inr ?_;cases h2:lx b c with
  |true=>rfl
  |false =>
   have e1:b<=a:=pF.mp (tK h1);have e2:c<=b:=pF.mp (tK h2);exact absurd (yM h) (pF.mpr (List.le_trans e2 e1))
open Classical in
def keyT(h:Heap)(d0:PyData)(v:Value):Option (LI'):=if q:∃d,tT 4 d=true/\sm d0 d=true/\∃as,Reads h v d as then some (fl q.choose) else none
theorem Gg{h:Heap}{d0 d:PyData}{v:Value}{as:LA}(t:tT 4 d=true)(z:sm d0 d=true)(r:Reads h v d as):keyT h d0 v=some (fl d):=by
 have q:∃d,tT 4 d=true/\sm d0 d=true/\∃as,Reads h v d as:=⟨d,t,z,as,r⟩;unfold keyT;rw[qR q];obtain⟨t',z',as',r'⟩:=q.choose_spec;rw[tG _ _ _ _ _ (jI 4 _ (iV 4 _ t')).1 r' r]
theorem Gf{h:Heap}{d0:PyData}{v:Value}{a:LI'}(e:keyT h d0 v=some a):∃d as,tT 4 d=true/\sm d0 d=true/\Reads h v d as/\a=fl d:=by
 unfold keyT at e
 by_cases q:∃d,tT 4 d=true/\sm d0 d=true/\∃as,Reads h v d as
 ·rw[qR q]at e;obtain⟨t',z',as',r'⟩:=q.choose_spec;exact⟨_,as',t',z',r',by cases e;rfl⟩
 ·rw[dif_neg q]at e;cases e
def fD(h:Heap)(d0:PyData):PyProof.Rows.KeyKind where
 α:=LI'
 blt:=lx
 irrefl:=Qq
 trans:=Qp
 negTrans:=Qn
 total:=Qo
 keyOf:=keyT h d0
 dflt:=[]
section
variable {prog:Program} {w:World} {A:Around} {s:Shared}
theorem katT(hu:A.units+16<cLine){Q:Bool->Shared->Prop}:∀(x' y':List PyData)(vs' us':LW)(as' bs':LA)(i:Nat),ReadsAll s.heap vs' x' as'->ReadsAll s.heap us' y' bs'->x'.all (tT 3)=true->y'.all (tT 3)=true->smA x' y'=true->Q (lx (flA x') (flA y')) s->PySem.W.KatLex prog w A false false Q (vs'.zip us') i s
 | [],y',vs',us',as',bs',i,ra,rb,_,_,hs,h=>by
  cases ra;cases y' with
  |cons _ _=>simp[smA]at hs
  |nil =>
   cases rb;refine PySem.W.kat_nil ?_;simpa [flA,lx]using h
 | d :: x',y',vs',us',as',bs',i,ra,rb,ta,tb,hs,h=>by
  cases y' with
  |nil=>simp[smA]at hs
  | cons e y' =>
   cases ra with
   | cons r1 ra' =>
    cases rb with
    |cons r2 rb' =>
     rw[xC,zQ]at ta tb;simp only[smA,Bool.and_eq_true]at hs;rw[rJ];refine PySem.W.kat_cons (eqT (n:=3) ⋯ ta.1 tb.1 r1 r2 ⋯ ?_);simp only[flA]at h
     by_cases z:d=e
     ·subst z;rw[zK rfl];rw[Br]at h;exact PySem.W.kat_yes (katT hu x' y' _ _ _ _ (i+1) ra' rb' ta.2 tb.2 hs.2 h)
     ·rw[zN z];rw[Bq _ _ _ _ (bL _ _ hs.1) λq=>z (Bs _ _ hs.1 q)]at h;refine PySem.W.kat_no ?_;show wpAny (model prog w) A (oneLt' false _ _) Q _ s;exact PySem.W.kat_one _ _ (ltT 3 ⋯ ta.1 tb.1 hs.1 r1 r2 ⋯ h)
theorem cmpT(hu:A.units+16<cLine){d0:PyData}(hd:∃l,d0=.tuple l):Cmp prog w A s (fD s.heap d0) (tuples' false):=by
 intro E x y a b Q hx hy h;obtain⟨l,rfl⟩:=hd;obtain⟨d,as,t1,z1,r1,rfl⟩:=Gf hx;obtain⟨e,bs,t2,z2,r2,rfl⟩:=Gf hy;have z:=Gi _ _ _ z1 z2;cases r1 <;> simp only[sm,Bool.false_eq_true]at z1
 case tuple a o vs m xs hg hc hd hr =>
  cases r2 <;> simp only[sm,Bool.false_eq_true]at z2;rename_i b o2 us m2 ys hg2 hc2 hd2 hr2;simp only[tT]at t1 t2;simp only[sm]at z;have hl:vs.size=us.size:=by
   have e1:∀{h:Heap}{vs:LW}{xs:List PyData}{as:LA},ReadsAll h vs xs as->vs.length=xs.length:=by
    intro h vs xs as r
    induction xs generalizing vs as with
    |nil=>cases r;rfl
    |cons x xs ih=>cases r with|cons r1 r2=>simp[ih r2]
   have e2:∀{xs ys:List PyData},smA xs ys=true->xs.length=ys.length:=by
    intro xs
    induction xs with
    |nil=>intro ys h;cases ys <;> simp[smA]at h;rfl
    |cons x xs ih=>intro ys h;cases ys <;> simp[smA]at h;simp[ih h.2]
   have:=e1 hr;have:=e1 hr2;have:=e2 z;simp only[Array.length_toList]at*
   omega
  refine PySem.W.kat_lt hg hd hg2 hd2 ?_;rw[zN ⋯];exact katT hu xs ys _ _ _ _ 0 hr hr2 t1 t2 z h
end
theorem Bp{h h':Heap}(hk:∀b o,h.get? b=some o->o.cls=.type "tuple" -> h'.get? b=some o):∀(n:Nat){v:Value}{d:PyData}{as:LA},tT n d=true->Reads h v d as->Reads h' v d as:=by
 intro n
 induction n with
 |zero =>
  intro v d as ht r;cases r <;> simp[tT]at ht;exact .int _ _
 | succ n ih =>
  have all:∀(xs:List PyData)(vs:LW)(as:LA),xs.all (tT n)=true->ReadsAll h vs xs as->ReadsAll h' vs xs as:=by
   intro xs
   induction xs with
   |nil=>intro vs as _ r;cases r;exact .nil
   | cons d ds ihr =>
    intro vs as ht r;cases r with
    |cons r1 r2 =>
     rw[xC,zQ]at ht;exact .cons (ih ht.1 r1) (ihr _ _ ht.2 r2)
  intro v d as ht r;cases r <;> simp only[tT,Bool.false_eq_true]at ht
  case int=>exact .int _ _
  case tuple a o vs k xs hg hc hdd hr=>exact .tuple (hk _ _ hg hc) hc hdd (all _ _ _ ht hr)
theorem Paired.perm{α β:Type}{F:α->β->Prop}{ys ys':List β}(p:ys.Perm ys'):∀{xs:List α},Paired F xs ys->∃xs',xs'.Perm xs/\Paired F xs' ys':=by
 induction p with
 |nil=>intro xs h;exact⟨xs,List.Perm.refl _,h⟩
 | cons x p ih =>
  intro xs h;cases h with
  |@cons a b l1 l2 h1 h2 =>
   obtain⟨xs',p',h'⟩:=ih h2;exact⟨a:: xs',p'.cons _,.cons h1 h'⟩
 | swap x y l =>
  intro xs h;cases h with
  |@cons a b l1 l2 h1 h2 =>
   cases h2 with
   |@cons a' b' l1' l2' h1' h2'=>exact⟨a':: a:: l1',List.Perm.swap ..,.cons h1' (.cons h1 h2')⟩
 |trans p1 p2 ih1 ih2 =>
  intro xs h;obtain⟨xs1,q1,h1⟩:=ih1 h;obtain⟨xs2,q2,h2⟩:=ih2 h1;exact⟨xs2,q2.trans q1,h2⟩
theorem Paired.mem{α β:Type}{F:α->β->Prop}{xs:List α}{ys:List β}(h:Paired F xs ys):∀x∈xs,∃y∈ys,F x y:=by
 induction h with
 |nil=>intro x hx;cases hx
 |cons h1 h2 ih =>
  intro x hx;rcases xE.mp hx with e|hx
  ·subst e;exact⟨_,.head _,h1⟩
  ·obtain⟨y,hy,q⟩:=ih x hx;exact⟨y,.tail _ hy,q⟩
theorem ord_of{κ:PyProof.Rows.KeyKind}{α:Type}{F:α->Value->Prop}{k:α->κ.α}(hF:∀p v,F p v->κ.keyOf v=some (k p)):∀(L:List Keyed)(ps:List α),(∀e∈L,e.1=e.2)->L.Pairwise (le' κ)->Paired F ps (L.map (·.2))->ps.Pairwise λp q=>κ.blt (k q) (k p)=false
 |[],ps,_,_,h=>by cases h;exact .nil
 | e:: L,ps,he,hs,h=>by
  cases h with
  |@cons p b l1 l2 h1 h2 =>
   rw[List.pairwise_cons]at hs;refine .cons (λq hq=>?_) (ord_of hF L l1 (λx hx=>he x (.tail _ hx)) hs.2 h2);obtain⟨v,hv,fv⟩:=Paired.mem h2 q hq;obtain⟨y,hy,rfl⟩:=qW.mp hv;have l:=hs.1 y hy;have k1:ky κ e=k p:=by unfold ky;rw[he e (.head _),hF _ _ h1];rfl
   have k2:ky κ y=k q:=by unfold ky;rw[he y (.tail _ hy),hF _ _ fv];rfl
   have l':κ.blt (ky κ y) (ky κ e)=false:=l;rw[k1,k2]at l';exact l'
structure TV(K:Frag)(H:Hp)(d0:PyData)(p:V×PyData)(v:Value):Prop where
 r:RelV p.1 v
 t:tT 4 p.2=true
 z:sm d0 p.2=true
 d:Dt K H p.1 p.2
theorem TV.vals{K:Frag}{H:Hp}{d0:PyData}{ps:List (V×PyData)}{vs:LW}(h:Paired (TV K H d0) ps vs):Vals (ps.map (·.1)) vs:=by
 induction h with
 |nil=>exact .nil
 |cons h1 _ ih=>exact .cons h1.r ih
theorem Bo:∀{vs:LW}{e:Keyed},e∈vs.zip vs->e.1=e.2
 |[],e,h=>by cases h
 |v:: vs,e,h=>by
  rw[rJ]at h;rcases xE.mp h with h|h
  ·rw[h]
  ·exact Bo h
theorem nP{α β:Type}{F:α->β->Prop}{xs:List α}{ys:List β}(h:Paired F xs ys):xs.length=ys.length:=by
 induction h with
 |nil=>rfl
 |cons _ _ ih=>simp[ih]
theorem Bn{α β:Type}{F:α->β->Prop}{xs:List α}{ys:List β}(h:Paired F xs ys):∀y∈ys,∃x∈xs,F x y:=by
 induction h with
 |nil=>intro x hx;cases hx
 |cons h1 h2 ih =>
  intro x hx;rcases xE.mp hx with e|hx
  ·subst e;exact⟨_,.head _,h1⟩
  ·obtain⟨y,hy,q⟩:=ih x hx;exact⟨y,.tail _ hy,q⟩
theorem Qm{l:List Keyed}{n:Nat}(h:l.length=n):seg l 0 n=l:=by
 unfold seg;rw[List.drop_zero,Nat.sub_zero,wN ⋯]
section
variable {X:Cx} {pins:PN} {σ:St} {H:Hp} {s:Shared} {a:Addr} {A:Around} {E:VP} {vs:LW} {ps:List (V×PyData)} {n0:Nat} {R:VP} {d0:PyData} {l0 l1:List PyData}
theorem Ql(hS:eX X.prog X.w vs.length)(hu:A.units+16<cLine)(I:Inv X pins σ H s)(fa:FpOk X pins H a)(ho:s.heap.get? a=some (seqObj "list" vs.toArray n0))(hz:vs.length<=sizeLine)(e0:d0=.tuple (.tuple l1:: l0))(hp:Paired (TV X.K H d0) ps vs)
  (h:∀(ps':List (V×PyData)) H' s',Inv X pins σ H' s'->Same H H'->H' a=some (.lst (ps'.map (·.1)))->ps'.Perm ps->ps'.Pairwise (λp q=>lx (fl q.2) (fl p.2)=false)->R .none s'):
  wpAny (model X.prog X.w) A (Builtin.«list.sort» ⟨[.ref a],[]⟩) (λfin s'=>∃v,fin=.done (.ret v)/\R v s') E s:=by
 obtain⟨f0,f1,f2,f3,f4,f5⟩:=fa;rw[list_sort_plain];have ha:a<s.heap.objs.size:=zP ho;refine zA (listItems_at ho rfl ?_);refine zA (listUpdate_at ho rfl ?_ (by rw[zV];exact hz) (yU _));obtain⟨e1,ho1⟩:∃e1,(s.heap.update a (Obj.mapSeq λ_=>(#[]:Array Value))).get? a=some (seqObj "list" #[] e1):=⟨_,get?_update_seq ho (λ_=>#[])⟩;have s1:=wV s.heap a (Obj.mapSeq λ_=>(#[]:Array Value));have I1:Inv X pins σ H {s with heap:=s.heap.update a (Obj.mapSeq λ_=>(#[]:Array Value)),toks:=s.toks}:=I.turned (λb o hb q=>(s1.2 b hb).trans q) f0 f1 f3 f4 f5;refine zA (seqEpoch_at ho1 rfl ?_);refine zA (wpAny_newTuple ?_ hz);refine zA (wpAny_newList ?_ (yU _));refine xQ ?_;have ho6:(((s.heap.update a (Obj.mapSeq λ_=>(#[]:Array Value))).push (seqObj "tuple" vs.toArray 0)).push (seqObj "list" #[] 0)).get? a=some (seqObj "list" #[] e1):=zD _ (zD _ ho1);have I6:Inv X pins σ H {s with heap:=((s.heap.update a (Obj.mapSeq λ_=>(#[]:Array Value))).push (seqObj "tuple" vs.toArray 0)).push (seqObj "list" #[] 0),toks:=s.toks}:=I1.kept λb o q=>zD _ (zD _ q);show wpAny (model X.prog X.w) A _ _ E {s with heap:=((s.heap.update a (Obj.mapSeq λ_=>(#[]:Array Value))).push (seqObj "tuple" vs.toArray 0)).push (seqObj "list" #[] 0),toks:=s.toks};generalize ((s.heap.update a (Obj.mapSeq λ_=>(#[]:Array Value))).push (seqObj "tuple" vs.toArray 0)).push (seqObj "list" #[] 0)=h6 at*
 dsimp only;have fin:∀st':SortSt,(arrOf st').Perm (pairsOf vs)->Srt (fD h6 d0) (arrOf st').toList->R .none {s with heap:=h6.update a (Obj.mapSeq λ_=>(arrOf st').map (·.2))}:=by
  intro st' pm so;have pl:(arrOf st').toList.Perm (vs.zip vs):=by rw[←pairsOf_toList];exact Array.perm_iff_toList_perm.mp pm
  have he:∀e∈(arrOf st').toList,e.1=e.2:=λe he=>Bo (pl.mem_iff.mp he);have po:vs.Perm ((arrOf st').toList.map (·.2)):=by
   have:=(pl.map (·.2)).symm;rw[List.map_snd_zip (zG _)]at this;exact this
  obtain⟨ps',pp,hp'⟩:=Paired.perm po hp;have hF:∀p v,TV X.K H d0 p v->(fD h6 d0).keyOf v=some (fl p.2):=λp v tv=>by
   obtain⟨as,r⟩:=tv.d.reads I6 tv.r;exact Gg tv.t tv.z r
  have ord:=ord_of (κ:=fD h6 d0) (k:=λp:V×PyData=>fl p.2) hF _ ps' he so hp';have lenO:((arrOf st').map (·.2)).toList=(arrOf st').toList.map (·.2):=Array.toList_map ..;generalize (arrOf st').map (·.2)=out at*
  have sb2:=wV h6 a (Obj.mapSeq λ_=>out);obtain⟨c2,hc2⟩:∃c2,(h6.update a (Obj.mapSeq λ_=>out)).get? a=some (seqObj "list" (out) c2):=⟨_,get?_update_seq ho6 λ_=>out⟩;generalize h6.update a (Obj.mapSeq λ_=>out)=h7 at*
  refine h ps' (upd H a (.lst (ps'.map (·.1)))) _ ?_ ?_ pV pp ord
  ·have nit:∀b u,H b=some u->b≠a:=λb u e z=>by rw[z,f0]at e;cases e
   refine Inv.step (s:={s with heap:=h6,toks:=s.toks}) (h':=h7) (H':=upd H a (.lst (ps'.map (·.1)))) (I:=I6) (g':=s.gens) (d':=s.drawn) (t':=s.toks) (ch:=[a]) (λb hb=>?_) (λb o _ _ hc e _=>(sb2.2 b (λz=>hc (by simp[z]))).trans e) (λb o _ _ hc e _=>⟨o.slots,(sb2.2 b (λz=>hc (by simp[z]))).trans e⟩)
    (λb o hc e q=>by rw[oE (λz=>hc (by simp[z]))];exact q) (λb o hc e=>⟨o,(sb2.2 b (λz=>hc (by simp[z]))).trans e⟩) (λb xs e=>by rw[oE (nit _ _ e)];exact e) (λb o u e=>by rw[oE (nit _ _ e)];exact e)
    (λb ps e=>⟨#[],by rw[oE (nit _ _ e),e];simp⟩) (λm hm=>?_) (λb u e=>?_) I6.bare
   ·have e:b=a:=by simpa using hb
    subst e;exact⟨f3,f1,f4,f5⟩
   ·obtain⟨o,es,ep,ho,r⟩:=hm;exact⟨o,es,ep,(sb2.2 _ (yE f1)).trans ho,r⟩
   ·by_cases hb:b=a
    ·subst hb;rw[pV]at e;cases e;refine⟨?_,(arrOf st').toList.map (·.2),c2,TV.vals hp',by rw[hc2,←lenO]⟩;rw[yP,pp.length_eq,nP hp];exact hz
    ·rw[oE hb]at e;refine(I6.hok b u e).stay (λc v hc q=>(sb2.2 c ?_).trans q) (λc q=>by rw[oE (nit _ _ q)];exact q) λc xs q=>by rw[oE (nit _ _ q)];exact q
     rcases hc with z|z
     ·rw[z];exact hb
     ·exact nit c _ z
  ·intro b u q;rw[oE (λz=>by rw[z,f0]at q;cases q)];exact q
 have hsz:vs.toArray.size=vs.length:=by simp
 by_cases h2:vs.toArray.size<2
 ·rw[zJ h2,zJ h2];refine zA (zB ?_);rw[StateT.run_pure];refine zA (zB ?_);dsimp only;refine zA (seqEpoch_at ho6 rfl ?_);refine zA (listUpdate_at ho6 rfl ?_ (yU _) (by rw[Array.size_map];show(pairsOf vs).size<=_;rw[pairsOf_size];omega));simp only[bne_self_eq_false,Bool.false_eq_true,if_false];refine zB ⟨_,rfl,fin (SortSt.mk' general' (vs.toArray.zip vs.toArray) #[] 7 none) (Array.Perm.refl _) ?_⟩;show Srt _ (pairsOf vs).toList;rw[pairsOf_toList]
  match vs,hsz,h2 with
  |[],_,_=>exact .nil
  |[_],_,_=>exact .cons (λ_ h=>nomatch h) .nil
  |_:: _:: _,_,h2=>simp at h2;omega
 ·rw [zI h2,zI h2];have kp:∀{ps:List (V×PyData)}{vs:LW},Paired (TV X.K H d0) ps vs->∃fs,PySem.W.KatTups h6 vs fs/\fs.length=vs.length/\∀v∈fs,∃b o,v=.ref b/\h6.get? b=some o/\o.cls=.type "tuple" := by
   intro ps vs hp
   induction hp with
   |nil=>exact⟨[],PySem.W.KatTups.nil,rfl,λ_ h=>nomatch h⟩
   | @cons p v ps vs tv _ ih =>
    obtain⟨fs,k,l,t⟩:=ih;obtain⟨as,r⟩:=tv.d.reads I6 tv.r;have z:=tv.z;rw[e0]at z;generalize p.2=dd at*
    cases r <;> simp only[sm,Bool.false_eq_true]at z
    case tuple b o us m xs hg hc hd hr =>
     cases xs with
     |nil=>simp[smA]at z
     | cons x xs =>
      simp only[smA,Bool.and_eq_true]at z;cases hr0:us.toList with
      |nil=>rw[hr0]at hr;cases hr
      | cons u ur =>
       rw[hr0]at hr;cases hr with
       | cons r1 r2 =>
        have z1:=z.1;cases r1 <;> simp only[sm,Bool.false_eq_true]at z1
        case tuple b2 o2 us2 m2 xs2 hg2 hc2 hd2 hr2 =>
         refine⟨.ref b2:: fs,PySem.W.KatTups.cons hg hc hd ?_ k,by simp[l],λv hv=>?_⟩
         ·rw[←yZ,hr0];rfl
         ·rcases xE.mp hv with e|hv
          ·exact⟨b2,o2,e,hg2,hc2⟩
          ·exact t v hv
  obtain⟨fs,kt,kl,kc⟩:=kp hp;refine zA (PySem.W.kat_kind (s:={s with heap:=h6,toks:=s.toks}) (T:=.type "tuple") kt ⋯ (λv hv=>?_) rfl ?_)
  ·obtain⟨b,o,rfl,hb,hc⟩:=kc v hv;exactλA Q E s k q=>tD (T:= "tuple") ⟨o,k _ _ hb,hc⟩ q
  have kf:(Value.type "tuple" != Value.type "tuple")=false:=∅
  rw[kf];refine zA (xJ (hS (κ:=fD h6 d0) (kd:=tuples' false) (a₀:=pairsOf vs) (st:=SortSt.mk' (tuples' false) (vs.toArray.zip vs.toArray) #[] 7 none)
   (Q:=λ_ st'=>(arrOf st').Perm (pairsOf vs)/\failedOf st'=none/\Up (fD h6 d0) (arrOf st') 0 (pairsOf vs).size) (pairsOf_size _) ⋯ (cmpT (s:={s with heap:=h6,toks:=s.toks}) hu ⟨_,e0⟩) (λx hx=>?_) rfl rfl rfl rfl λst' _ a2 a3 a4=>⟨a3,a2,a4⟩) ?_ λ_ _ e=>e)
  ·rw[pairsOf_toList]at hx;have e:=Bo hx;have hm:x.2∈vs:=(sI (a:=x.1) (b:=x.2) hx).2;obtain⟨p,_,tv⟩:=Bn hp x.2 hm;obtain⟨as,r⟩:=tv.d.reads I6 tv.r;exact⟨fl p.2,by rw[e];exact Gg tv.t tv.z r⟩
  rintro⟨⟨⟩,st'⟩ s' ⟨rfl,pm,hf,up⟩;dsimp only;refine zA (seqEpoch_at ho6 rfl ?_);refine zA (listUpdate_at ho6 rfl ?_ (yU _) (by refine yL (sQ ((Array.size_map ..).trans (pm.size_eq.trans (pairsOf_size _)))) ?_;omega));rw[hf];simp only[bne_self_eq_false,Bool.false_eq_true,if_false];refine zB ⟨_,rfl,fin st' pm ?_⟩;have:=Bv up
  rwa[Qm (by rw[zO];exact pm.size_eq)]at this
end
abbrev Asc(ps:List (V×PyData)):Prop:=ps.Pairwise λp q=>lx (fl q.2) (fl p.2)=false
section
variable {X:Cx} {pins:PN} {σ:St} {H:Hp} {s:Shared} {d0:PyData} {l0 l1:List PyData}
theorem Qk{N:Nat}(hS:∀n,n<=N->eX X.prog X.w n)(hu:X.A.units+64<cLine){ps:List (V×PyData)}{its:LW}{v:Value}{Q:VK}(hz:its.length<=sizeLine)(hN:its.length<=N)(e0:d0=.tuple (.tuple l1:: l0))(hp:Paired (TV X.K H d0) ps its)
  (hcol:∀(Qc:LW->Shared->Prop)(Ec:VP),(∀s',Inv X pins σ H s'->Qc its s')->wpAny (model X.prog X.w) X.A.in1 (collect v) Qc Ec s)
  (h:∀q(ps':List (V×PyData)) H',Same H H'->H q=none->H' q=some (.lst (ps'.map (·.1)))->ps'.Perm ps->Asc ps'->Q (.ref q) H'):
  wpAny (model X.prog X.w) X.A (call (.builtin "sorted") [v]) (EP X pins σ Q) X.xe s:=by
 refine Calls.call_function_entry kind_sorted plain_sorted entry_sorted (args_sorted1 _) ?_;unfold Builtin.«sorted»;refine zA (m:=checkCount "sorted" 1 1 _) (zB ?_);refine zA (hcol _ _ λs' I=>?_);refine zA (wpAny_newList ?_ hz);have hoL:(s'.heap.push (seqObj "list" its.toArray 0)).get? s'.heap.objs.size=some (seqObj "list" its.toArray 0):=zT _ rfl;have hfa:H s'.heap.objs.size=none:=I.hok.fresh (zG _);have fp:=I.fpOk (zG _) hfa;have I2:Inv X pins σ H {s' with heap:=s'.heap.push (seqObj "list" its.toArray 0),toks:=s'.toks}:=I.kept λb o q=>zD _ q;refine zA (xQ (xS slot_list_sort ⟨_,hoL,rfl⟩ entry_list_sort ?body (args_list_sort _)));show wpAny (model X.prog X.w) X.A.in1.in1 (Builtin.«list.sort» ⟨[.ref s'.heap.objs.size],[]⟩) _ _ {s' with heap:=s'.heap.push (seqObj "list" its.toArray 0),toks:=s'.toks};refine Ql (hS _ hN) (A:=X.A.in1.in1) (by show X.A.units+1+1+16<cLine;omega) I2 fp hoL hz e0 hp λps' H' s2 J sm e p o=>?_;exact zB ⟨_,rfl,.ref s'.heap.objs.size,H',J,rfl,h _ ps' H' sm hfa e p o⟩
end
def RawD(h:Heap)(d:Addr)(es:Array DictEntry)(ep:Nat):Prop:=∃o,h.get? d=some o/\o.ExactDict/\o.data=.dict es ep
theorem RawD.at{h h':Heap}{d:Addr}{es:Array DictEntry}{ep:Nat}(x:RawD h d es ep)(e:∀o,h.get? d=some o->h'.get? d=some o):RawD h' d es ep:=let ⟨o,ho,r⟩:=x;⟨o,e _ ho,r⟩
section
variable {prog:Program} {w:World} {A:Around} {E:VP} {s:Shared} {d it:Addr} {es:Array DictEntry} {ep i:Nat}
theorem RawD.typeIs(x:RawD s.heap d es ep):s.TypeIs (.ref d) "dict" := let ⟨o,ho,hc,_⟩:=x;⟨o,ho,hc.1⟩
theorem Qj{Q:VP}(hd:(d == sysModules)=false)(hm:RawD s.heap d es ep)
  (hQ:Q (.ref s.heap.objs.size) {s with heap:=s.heap.push {cls:=.type "dict_keyiterator",data:=.fields #[.ref d,.int 0 0,.int es.size 0,.int ep 0]}}):wpAny (model prog w) A (pyIter (.ref d)) Q E s:=by
 obtain⟨o,ho,hc,hdat⟩:=id hm;have hT:=hm.typeIs;refine wpAny_pyIter_slot hT PySem.F.slot_dict_iter (xS PySem.F.slot_dict_iter hT PySem.F.entry_dict_iter ?_ (PySem.F.args_dict_iter_1 _));unfold Builtin.«dict.__iter__»;refine zA ?_;unfold Builtin.Dict.dictSlotNone;refine zA (wpAny_notOrdered_dict hT ?_);show wpAny _ _ (pure (Value.ref d)) _ _ s;refine zB ?_;show wpAny _ _ (Builtin.Dict.showsAll d >>= _) _ _ s;unfold Builtin.Dict.showsAll;rw[zI (by rw[hd];exact yF)];refine zA (zB ?_);refine zA (rS ho hdat ?_);refine zA (qB ho hdat ?_);exact zA (xI (zB ⟨_,rfl,"dict_keyiterator",_,⟨_,zT _ rfl,rfl⟩,PySem.F.slot_dict_keyiterator_next.lookup,hQ⟩))
theorem Qi{Q:Option Value->Shared->Prop}(hit:s.heap.IsKeyIter it d i es.size ep)(hm:RawD s.heap d es ep)(hi:i<es.size)
  (hQ:∀h',h'.IsKeyIter it d (i+1) es.size ep->Heap.SameBut it s.heap h'->Q (some es[i].key) {s with heap:=h'}):wpAny (model prog w) A (pyNext (.ref it)) Q E s:=by
 obtain⟨o,ho,hc,hd⟩:=id hit;obtain⟨od,hod,hcd,hdd⟩:=id hm;unfold pyNext;refine zA (vK (xY (name:=Str.ofString "__next__") hit.typeIs wI
  (xS wI hit.typeIs PySem.F.entry_dict_keyiterator_next ?_ (PySem.F.args_dict_keyiterator_next_1 _))))
 refine zA (zB ?_);refine zA ?_;refine zA ?_
 first|refine zA (wU hit.typeIs (zB ?_))|refine zA (vR hit.typeIs (zB ?_))
 refine zA (wpAny_fieldsOf ho hd ?_);have hown:Builtin.Dict_items.ownsTuple "dict_keyiterator"=false:=∅
 simp only[hown,Bool.false_eq_true,if_false];show wpAny _ _ (if(Value.ref d == Value.none)=true then _ else _) _ _ s;rw[zI (show¬ ((Value.ref d == Value.none)=true) from yF)];refine zA (zB ?_);refine zA (rS hod hdd ?_);rw[zI (by simp)];refine zA (zB ?_);refine zA (qB hod hdd ?_);rw[zI (by simp)];refine zB ?_;simp only[show¬ ((i:Int)<0) from⋯,if_false,Int.toNat_natCast,Array.getElem?_eq_getElem hi];refine zA ?_
 first|refine zA (wU hit.typeIs (zB ?_))|refine zA (vR hit.typeIs (zB ?_))
 refine zA (wpAny_isOneOf_keyiter hit.typeIs ?_);show wpAny _ _ (setField (.ref it) 1 (rawInt ((i:Int)+1)) >>= _) _ _ s;refine zA (rE ho hd (by simp) ?_);have hit':(s.heap.update it (Obj.mapFields (·.setIfInBounds 1 (rawInt ((i:Int)+1))))).IsKeyIter it d (i+1) es.size ep:=
  ⟨_,vD _ ho (Obj.isFreed_of_fields (tI hd _)),(Obj.cls_mapFields ..).trans hc,by rw[tI hd];simp[rawInt]⟩
 refine zA (xQ ?_);refine zA (wpAny_isOneOf_keyiter (s:={s with heap:=s.heap.update it (Obj.mapFields (·.setIfInBounds 1 (rawInt ((i:Int)+1))))}) hit'.typeIs ?_);show wpAny _ _ (pure es[i].key) _ _ _;exact zB (zB ⟨_,rfl,zB (hQ _ hit' (wV ..))⟩)
theorem Qh{Q:Option Value->Shared->Prop}(hh:A.handled=none)(hit:s.heap.IsKeyIter it d es.size es.size ep)(hm:RawD s.heap d es ep)
  (hQ:∀h',Heap.ExtBut it s.heap h'->Q none {s with heap:=h'}):wpAny (model prog w) A (pyNext (.ref it)) Q E s:=by
 obtain⟨o,ho,hc,hd⟩:=id hit;obtain⟨od,hod,hcd,hdd⟩:=id hm;unfold pyNext;refine zA (vK (xY (name:=Str.ofString "__next__") hit.typeIs wI
  (xS wI hit.typeIs PySem.F.entry_dict_keyiterator_next ?_ (PySem.F.args_dict_keyiterator_next_1 _))))
 refine zA (zB ?_);refine zA ?_;refine zA ?_
 first|refine zA (wU hit.typeIs (zB ?_))|refine zA (vR hit.typeIs (zB ?_))
 refine zA (wpAny_fieldsOf ho hd ?_);have hown:Builtin.Dict_items.ownsTuple "dict_keyiterator"=false:=∅
 simp only[hown,Bool.false_eq_true,if_false];show wpAny _ _ (if(Value.ref d == Value.none)=true then _ else _) _ _ s;rw[zI (show¬ ((Value.ref d == Value.none)=true) from yF)];refine zA (zB ?_);refine zA (rS hod hdd ?_);rw[zI (by simp)];refine zA (zB ?_);refine zA (qB hod hdd ?_);rw[zI (by simp)];refine zB ?_;simp only[show¬ ((es.size:Int)<0) from⋯,if_false,Int.toNat_natCast,Array.getElem?_eq_none (Nat.le_refl _)];refine zA ?_
 first|refine zA (wU hit.typeIs (zB ?_))|refine zA (vR hit.typeIs (zB ?_))
 show wpAny _ _ (setField (.ref it) 0 .none >>= _) _ _ s;refine zA (rE ho hd (by simp) ?_);show wpAny _ _ (newExc (.type "StopIteration") [] >>= _) _ _ _;refine zA ?_;simp only[newExc,newTuple];refine zA (xI ?_ (by size_fits));refine zA (m:=firstArgMember _ _) (wpAny_of_eq (a:=Value.none) (by first|rfl|(simp only[firstArgMember];rfl)) ?_);refine xI ?_ (by size_fits);simp only[raiseNew];refine zA (wpAny_handled ?_);rw[show A.in1.handled=none from hh];refine zA (zB (wpAny_throw ?_));refine zA (vU (T:= "StopIteration") (b:=true) ⟨_,zT _ rfl,rfl⟩ qG ?_);exact zB (hQ _ (((wV ..).extBut.push _).push _))
theorem Qg(hh:A.handled=none)(I d:Addr)(hne:d≠I)(es:Array DictEntry)(ep:Nat):
  Walks prog w A I [I,d] [I] es.size (λi v=>(es[i]?).map (·.key)=some v) (λi h=>h.IsKeyIter I d i es.size ep/\RawD h d es ep) where
 sub:=λb hb=>by simp at hb;simp[hb]
 frame:=λ_ _ _ st hk=>⟨st.1.at λo e=>hk I (by simp) o e,st.2.at λo e=>hk d (by simp) o e⟩
 item:=λi s Q E hi st hQ=>by
  refine Qi st.1 st.2 hi λh' hit' hs'=>?_;exact hQ _ h' s.toks (by simp[hi]) ⟨hit',st.2.at λo e=>(hs'.2 d hne).trans e⟩ λb o hb e=>(hs'.2 b (λh=>hb (by simp[h]))).trans e
 done:=λs Q E st hQ=>Qh hh st.1 st.2 λh' he'=>hQ h' s.toks λb o hb e=>he' b o (λh=>hb (by simp[h])) e
 self:=λ_ _ _ _ st hQ=>wpAny_pyIter_keyiter st.1 hQ
theorem Qf:typeLookup (.type "dict") "__len__"=pure (some (.builtin "dict.__len__")):=PySem.F.slot_dict_len.lookup
theorem Qe{Q:LW->Shared->Prop}(hh:A.handled=none)(hd:(d == sysModules)=false)(hm:RawD s.heap d es ep)(hz:es.size<=sizeLine)
  (h:∀h' tk,(∀b o,s.heap.get? b=some o->h'.get? b=some o)->Q (es.toList.map (·.key)) {s with heap:=h',toks:=tk}):wpAny (model prog w) A (collect (.ref d)) Q E s:=by
 obtain⟨o,ho,hc,hdat⟩:=id hm;have hdl:@LT.lt Nat _ d s.heap.objs.size:=zP ho;unfold collect;refine zA (wpAny_runValue (uX PySem.F.entry_proto_collect ?_));rw[uO PySem.F.plain_proto_collect _];show wpAny _ A.in1 (newList [] >>= λl=>again (.builtin "list.__iadd__" ⟨[l,.ref d],[]⟩)) _ _ s;refine zA (xI ?_);refine zB ⟨rO PySem.F.plain_list_iadd _,uX PySem.F.entry_list_iadd ?_⟩;rw[uO PySem.F.plain_list_iadd _];have hS₁:(s.heap.push {cls:=.type "list",data:=.seq ([]:LW).toArray}).get? s.heap.objs.size=some {cls:=.type "list",data:=.seq ([]:LW).toArray}:=zT _ rfl;have m1:RawD (s.heap.push {cls:=.type "list",data:=.seq ([]:LW).toArray}) d es ep:=hm.at λo e=>zD _ e;have k1:∀b o,s.heap.get? b=some o->(s.heap.push {cls:=.type "list",data:=.seq ([]:LW).toArray}).get? b=some o:=λb o e=>zD _ e;have z1:(s.heap.push {cls:=.type "list",data:=.seq ([]:LW).toArray}).objs.size=s.heap.objs.size+1:=size_push' _ _;show wpAny _ A.in1 (Builtin.List.listExtendWith (.ref s.heap.objs.size) (.ref d) (.ref s.heap.objs.size)) _ _ {s with heap:=s.heap.push {cls:=.type "list",data:=.seq ([]:LW).toArray}};generalize s.heap.push {cls:=.type "list",data:=.seq ([]:LW).toArray}=h1 at*
 unfold Builtin.List.listExtendWith;refine zA (tD (s:={s with heap:=h1}) (T:= "dict") (RawD.typeIs (s:={s with heap:=h1}) m1) ?_);have e1:Builtin.List.listSameRef (.ref s.heap.objs.size) (.ref d)=false:=by simp only[Builtin.List.listSameRef,beq_eq_false_iff_ne];exact yE (yB hdl)
 rw[zI (by rw[e1];decide)];refine zA (Qj (s:={s with heap:=h1}) hd m1 ?_);have m2:RawD (h1.push {cls:=.type "dict_keyiterator",data:=.fields #[.ref d,.int 0 0,.int es.size 0,.int ep 0]}) d es ep:=m1.at λo e=>zD _ e;have i2:(h1.push {cls:=.type "dict_keyiterator",data:=.fields #[.ref d,.int 0 0,.int es.size 0,.int ep 0]}).IsKeyIter h1.objs.size d 0 es.size ep:=⟨_,zT _ rfl,rfl,rfl⟩;have hS₂:(h1.push {cls:=.type "dict_keyiterator",data:=.fields #[.ref d,.int 0 0,.int es.size 0,.int ep 0]}).get? s.heap.objs.size=_:=zD _ hS₁;have k2:∀b o,h1.get? b=some o->(h1.push {cls:=.type "dict_keyiterator",data:=.fields #[.ref d,.int 0 0,.int es.size 0,.int ep 0]}).get? b=some o:=λb o e=>zD _ e;generalize h1.push {cls:=.type "dict_keyiterator",data:=.fields #[.ref d,.int 0 0,.int es.size 0,.int ep 0]}=h2 at*
 refine zA (xQ ?_);unfold Builtin.List.listLengthHint;refine zA (wpAny_specialOf (s:={s with heap:=h2}) (RawD.typeIs (s:={s with heap:=h2}) m2) Qf ?_);generalize hid:("dict.__len__" :String)=id0
 (fail_if_success (clear hid id0))
 wp_delta
 rw[show splitId id0=some ("dict","__len__") from by subst hid;decide +kernel];subst hid;refine zA (vU (b:=true) (RawD.typeIs (s:={s with heap:=h2}) m2) (by rw[isSubtype_type];kernel_rfl) ?_);refine zA (tD (s:={s with heap:=h2}) (T:= "dict") (RawD.typeIs (s:={s with heap:=h2}) m2) ?_);refine zB ?_;rw[zJ ∅];refine zA (wP ?_);refine zA ?_;show wpAny _ A.in1 (updateSeq s.heap.objs.size (·.push .none) >>= λ_=>updateSeq s.heap.objs.size (·.pop)) _ _ _;refine zA (wpAny_updateSeq hS₂ rfl ?_);have hS₃:=vD (Obj.mapSeq (·.push Value.none)) hS₂ rfl;refine wpAny_updateSeq hS₃ rfl ?_;have hS₄:=vD (Obj.mapSeq (·.pop)) hS₃ rfl;have hne:d≠h1.objs.size:=yB (by rw[z1];exact rP hdl);have hSn:s.heap.objs.size≠h1.objs.size:=by rw[z1];exact yB (sD _)
 have hSd:s.heap.objs.size≠d:=yE (yB hdl);have oth:∀b o,b≠s.heap.objs.size->h2.get? b=some o->((h2.update s.heap.objs.size (Obj.mapSeq (·.push Value.none))).update s.heap.objs.size (Obj.mapSeq (·.pop))).get? b=some o:=
  λb o hb e=>(uD _ _ (yE hb)).trans ((uD _ _ (yE hb)).trans e)
 have W:=(Qg (prog:=prog) (w:=w) (A:=A.in1) hh h1.objs.size d hne es ep).toS;refine zB ⟨rO PySem.F.plain_extend_loop _,codeAny_extend_loopS W hz s.heap.objs.size (λhm=>by rcases xE.mp hm with z|z;exact hSn z;exact hSd (qV.mp z)) _ es.size 0 _ _ _ rfl (yU _)
  ⟨i2.at λo e=>oth _ _ (yE hSn) e,m2.at λo e=>oth _ _ (yE hSd) e⟩ hS₄ (ItemsOf.nil _) λs' acc' c' hm hS' hacc=>?_⟩
 show wpAny _ A (load s.heap.objs.size >>= _) _ _ s';refine zA (wpAny_load hS' ?_);have ea:acc'.toList=es.toList.map (·.key):=by
  refine List.ext_getElem? ?_
  intro j;rw[zC,yZ,yZ];cases hj:acc'[j]? with
  |some v=>exact(hacc.2 j v hj).symm
  |none =>
   have:acc'.size<=j:=Array.getElem?_eq_none_iff.mp hj;rw[Array.getElem?_eq_none (by rw[←hacc.1];exact this)];rfl
 show wpAny _ _ (pure acc'.toList) Q E s';rw[ea];have es':s'={s with heap:=s'.heap,toks:=s'.toks}:=by
  obtain⟨_,g,dr,os,_⟩:=hm;cases s';cases g;cases dr;cases os;rfl
 rw[es'];refine zB (h _ _ λb o e=>hm.heap b o ?_ (oth b o ?_ (k2 _ _ (k1 _ _ e))))
 ·have hb:@LT.lt Nat _ b s.heap.objs.size:=zP e;intro hm;rcases xE.mp hm with z|z
  ·exact absurd z (yB hb)
  ·rw[qV.mp z,z1]at hb;exact absurd hb (Nat.not_lt.mpr (qP _))
 ·exact yB (zP e)
end
def Qd(K:Frag)(N:Nat):List V->Hp->VK->Prop:=λxs H Q=>∃(a:Addr)(kvs:List (PyData×V))(l0 l1:List PyData),xs=[.ref a]/\kvs.length<=N/\DTr K H a kvs/\(∀kv∈kvs,sm (.tuple (.tuple l1:: l0)) kv.1=true) /\
 ∀q(ps':List (V×PyData)) H',Same H H'->H q=none->H' q=some (.lst (ps'.map (·.1)))->(∀p∈ps',tT 4 p.2=true/\Dt K H p.1 p.2)->(ps'.map (·.2)).Perm (kvs.map (·.1))->Asc ps'->Q (.ref q) H'
section
variable {X:Cx}
theorem Qb{N:Nat}(hS:∀n,n<=N->eX X.prog X.w n)(hu:X.A.units+64<cLine)(hc:X.calm=true):lF X (.builtin "sorted") (Qd X.K N):=by
 intro pins s σ H xs us Q I r h;obtain⟨a,kvs,l0,l1,rfl,hN,g,hs,q⟩:=h;obtain⟨u,rfl,rx⟩:=jF r;cases rx;obtain⟨xs,e,kp,dd⟩:=iY I g;obtain⟨o,es,ep,h1,h2,h3,h4,_⟩:=id dd;have hlen:=g.len;have raw:RawD s.heap a es ep:=⟨o,h1,h2,h3⟩;have hk:es.toList.map (·.key)=xs.map λx=>Value.ref x.2.1:=by rw[h4,xV];rfl
 have pr:∀{kvs:List (PyData×V)}{xs:List (PyData×Addr×Value)},KP X.K H kvs xs->(∀kv∈kvs,sm (.tuple (.tuple l1:: l0)) kv.1=true)->Paired (TV X.K H (.tuple (.tuple l1:: l0))) (xs.map λx=>(V.ref x.2.1,x.1)) (xs.map λx=>Value.ref x.2.1)/\(xs.map (·.1))=kvs.map (·.1):=by
  intro kvs xs kp
  induction kp with
  |nil=>intro _;exact⟨.nil,rfl⟩
  |@cons p q ps qs hq t ih =>
   intro hs;obtain⟨i1,i2⟩:=ih λkv hkv=>hs kv (.tail _ hkv);have z:=hs p (.head _);rw[hq.1]at z;have t1:=hq.2.1.1;have t2:=hq.2.1.2;rw[hq.1]at t1 t2;refine⟨.cons ⟨rfl,t1,z,t2⟩ i1,?_⟩;rw[zL,zL,i2,hq.1]
 obtain⟨p1,p2⟩:=pr kp hs;have lx':xs.length=kvs.length:=by have:=wC List.length p2;simpa using this
 have le:es.size=xs.length:=by have:=wC List.length h4;simpa using this
 refine Qk hS hu (d0:=.tuple (.tuple l1:: l0)) (its:=xs.map λx=>Value.ref x.2.1) (ps:=xs.map λx=>(V.ref x.2.1,x.1)) (by rw[yP];omega) (by rw[yP];omega) rfl p1 (λQc Ec hk'=>?_) λq' ps' H' sm' hn e' pm as=>?_
 ·refine Qe (I.ok.hd hc) g.sys raw ⋯ λh' tk kk=>?_;rw[hk];exact hk' _ (I.kept (t':=tk) kk)
 ·refine q q' ps' H' sm' hn e' (λp hp=>?_) ?_ as
  ·obtain⟨v,_,tv⟩:=Paired.mem p1 p (pm.mem_iff.mp hp);exact⟨tv.t,tv.d⟩
  ·have:=pm.map (·.2);rw[xV]at this;rw[←p2];exact this
end
open Sem (wp)
theorem Qa:typeLookup (.type "list") (Str.ofString "keys")=pure none:=am_miss_of_fast (by kernel_rfl)
theorem Rz:typeLookup (.type "list") "__getattr__"=pure none:=by rw[typeLookup_type,builtinLookup_eq_fast];kernel_rfl
section
variable {prog:Program} {w:World} {A:Around} {E:VP} {h:Heap} {g:Array GenState} {d:Drawn} {t:Nat} {os:OsState} {a:Addr} {o:Obj}
theorem Ry{tk:Tok}{Q:PySem.Fin->Shared->Prop}(hh:A.handled=none)(hx:h.get? a=some o)(hc:o.cls=.type "list")(hd:o.dict=none){xs:Array Value}{n:Nat}(hdt:o.data=.seq xs n)(hq:∀h' tk e,Heap.NewAttrErr h h' e (.ref a) (Str.ofString "keys")->E (.ref e) ⟨h',g,d,tk,os⟩):
  wpAny (model prog w) A (Builtin.«object.__getattribute__» ⟨[.ref a,.str (Str.ofString "keys") tk],[]⟩) Q E ⟨h,g,d,t,os⟩:=by
 have hT:(⟨h,g,d,t,os⟩:Shared).TypeIs (.ref a) "list" := ⟨_,hx,hc⟩;have f4:=Qa;unfold Builtin.«object.__getattribute__»
 repeat (any_goals (first|assumption|wp_step))
 rw[hdt];dsimp only;unfold instanceDict
 repeat (any_goals (first|assumption|wp_step))
 rw[hc,hd];dsimp only;simp only[Bool.not_false,Bool.true_or,if_true]
 repeat (any_goals (first|assumption|wp_step))
 exact wpAny_raiseAttrError hh hq (attrMsg_fits (nofun) (by size_fits))
theorem Rx{Q:Option Value->Shared->Prop}(hh:A.handled=none)(hx:h.get? a=some o)(hc:o.cls=.type "list")(hd:o.dict=none){xs:Array Value}{n:Nat}(hdt:o.data=.seq xs n)(hq:∀h' tk,(∀b ob,h.get? b=some ob->h'.get? b=some ob)->Q none ⟨h',g,d,tk,os⟩):
  wpAny (model prog w) A (getAttr? (.ref a) (Str.ofString "keys")) Q E ⟨h,g,d,t,os⟩:=by
 have hT:∀t,(⟨h,g,d,t,os⟩:Shared).TypeIs (.ref a) "list" := λt=>⟨_,hx,hc⟩;have hT':(⟨h,g,d,t+1,os⟩:Shared).TypeIs (.ref a) "list" := ⟨_,hx,hc⟩;have f1:=sub_AttributeError;have f3:=PySem.F.slot_list_getattribute.lookup;have f4:=PySem.F.slot_list_getattribute.bind (.ref a);have f5:=Rz;unfold getAttr? getAttrBy?;refine zA (wpAny_mkText ?_);refine zA (vK ?_);unfold getAttrBy
 repeat (any_goals (first|assumption|((with_reducible show wpAny _ _ (call (Value.builtin "list.__getattribute__") _ _) _ _ _);refine xS PySem.F.slot_list_getattribute (hT _) PySem.F.entry_list_ga (Ry hh hx hc hd hdt λh' tk' e hx=>?_) (PySem.F.args_list_getattribute_2 _ _))|wp_step))
 obtain⟨t',u',he⟩:=hx.there
 repeat (any_goals (first|assumption|wp_step))
 exact hq _ _ hx.keeps
end
theorem bN:plainId "dict.update.loop"=true:=nofun
theorem Ge:entryFor table "dict.update.loop"=some Builtin.«dict.update.loop»:=entryFor_of_fast (by kernel_rfl)
structure Ent where
 p:Addr
 k:PyData
 b:Addr
 v:Value
def Ent.ok(h:Heap)(t:Ent):Prop:=(∃o n,h.get? t.p=some o/\o.cls=.type "tuple" /\ o.data=.seq #[.ref t.b,t.v] n)/\isT h t.k t.b
theorem Ent.up{h h':Heap}{t:Ent}(x:t.ok h)(hk:∀b o,h.get? b=some o->o.cls=.type "tuple" -> h'.get? b=some o):t.ok h':=by
 obtain⟨⟨o,n,h1,h2,h3⟩,h4,as,h5⟩:=x;exact⟨⟨o,n,hk _ _ h1 h2,h2,h3⟩,h4,as,Bp hk 4 h4 h5⟩
def putP(xs:List (PyData×Addr×Value))(t:Ent):List (PyData×Addr×Value):=storedH xs t.k t.b t.v
theorem Rw(xs:List (PyData×Addr×Value))(k:PyData)(b:Addr)(v:Value):(storedH xs k b v).length<=xs.length+1:=by
 unfold storedH;split <;> simp
section
variable {prog:Program} {w:World} {A:Around} {R:Result->Shared->Prop} {d it l:Addr} {items:Array Value}
theorem Gc(hh:A.handled=none)(hu:A.units+32<cLine)(hdi:d≠it)(hdl:d≠l)(hli:l≠it):
  ∀(rest:List Ent)(i:Nat)(xs:List (PyData×Addr×Value))(s:Shared),(∀j,items[i+j]?=rest[j]?.map λt=>Value.ref t.p)->s.heap.IsListIter it l i->s.heap.IsList l items->s.heap.DictOfH (lP prog w) d xs->(∀t∈rest,t.ok s.heap)->xs.length+rest.length<=sizeLine ->
  (∀h' tk,(∀b o,b≠it->b≠d->s.heap.get? b=some o->h'.get? b=some o)->h'.DictOfH (lP prog w) d (rest.foldl putP xs)->R (.ok (.ret .none)) {s with heap:=h',toks:=tk}) ->
  codeAny (model prog w) A (.builtin "dict.update.loop" ⟨[.ref d,.ref it,.int i 0,.none],[]⟩) R s
 | [],i,xs,s,hj,hit,hl,hd,_,_,hR=>by
  refine uX Ge ?_;rw[uO bN _];show wpAny _ A.in1 (pyNext (.ref it) >>= _) _ _ s;refine zA (wpAny_pyNext_list_end (i:=i) hh hit hl (by simpa using hj 0) λh' he=>?_);show wpAny _ _ (Builtin.Dict.addKeywords d [] >>= _) _ _ _;refine zA (zB (zB ?_));obtain⟨o,es,ep,h1,h2⟩:=hd;exact hR h' s.toks (λb o hb _ e=>he b o hb e) ⟨o,es,ep,he d o hdi h1,by
   obtain⟨g1,g2,g3,g4,g5⟩:=h2;refine⟨g1,g2,g3,λx hx=>?_,g5⟩;obtain⟨t,as,r⟩:=g4 x hx;refine⟨t,as,Bp (λb o e hc=>he b o (λz=>?_) e) 4 t r⟩;obtain⟨oi,e1,e2,_⟩:=hit;rw[z,e1]at e;cases e;rw[e2]at hc;simp at hc⟩
 | t:: rest,i,xs,s,hj,hit,hl,hd,hok,hz,hR=>by
  refine uX Ge ?_;rw[uO bN _];show wpAny _ A.in1 (pyNext (.ref it) >>= _) _ _ s;have h0:items[i]?=some (.ref t.p):=by simpa using hj 0
  refine zA (wpAny_pyNext_list_item (i:=i) hit hl h0 λh1 hit1 hs1=>?_);obtain⟨oi,ei1,ei2,_⟩:=id hit;have kT:∀b o,s.heap.get? b=some o->o.cls=.type "tuple" -> h1.get? b=some o:=λb o e hc=>(hs1.2 b (λz=>by rw[z,ei1]at e;cases e;rw[ei2]at hc;simp at hc)).trans e;have hd1:h1.DictOfH (lP prog w) d xs:=by
   obtain⟨o,es,ep,g0,g1,g2,g3,g4,g5⟩:=hd;exact⟨o,es,ep,(hs1.2 d hdi).trans g0,g1,g2,g3,λx hx=>let ⟨t,as,r⟩:=g4 x hx;⟨t,as,Bp kT 4 t r⟩,g5⟩
  have hl1:h1.IsList l items:=by
   obtain⟨o,g0,g1⟩:=hl;exact⟨o,(hs1.2 l hli).trans g0,g1⟩
  have hok1:∀t'∈t:: rest,t'.ok h1:=λt' ht'=>Ent.up (hok t' ht') kT;obtain⟨⟨op,np,p1,p2,p3⟩,pk⟩:=hok1 t (.head _);refine zA (xQ ?_);have hz':xs.length<=sizeLine:=by
   have:=hz;simp only[List.length_cons]at this;omega
  refine zA (wpAny_tryCatch ?_);unfold Builtin.Dict.pairItems;refine zA (tD (s:={s with heap:=h1}) (T:= "tuple") ⟨op,p1,p2⟩ ?_);rw[zJ ∅];refine zA (wD (s:={s with heap:=h1}) p1 p3 (zB ?_));show wpAny _ A.in1 (holding [.ref t.b,t.v] (dictSet d (.ref t.b) t.v)) _ _ _;refine xQ ?_;refine wpAny_dictSet_heap (knd:=lP prog w) (s:={s with heap:=h1}) (hsz:=hz') (show A.units+1+8<cLine by omega) pk hd1 λh2 hd2 hs2=>?_;obtain⟨oD,esD,epD,d1,d2,d3,_⟩:=id hd1;have kT2:∀b o,h1.get? b=some o->o.cls=.type "tuple" -> h2.get? b=some o:=λb o e hc=>(hs2.2 b (λz=>by rw[z,d1]at e;cases e;rw[d2.1]at hc;simp at hc)).trans e;refine zB ⟨rO bN _,?_⟩;have eR:(rawInt ((i:Int)+1))=.int ((i+1:Nat):Int) 0:=rfl;rw[eR];refine Gc hh hu hdi hdl hli rest (i+1) (storedH xs t.k t.b t.v) _ (λj=>?_) ?_ ?_ hd2 (λt' ht'=>Ent.up (hok1 t' (.tail _ ht')) kT2) ?_ λh3 tk3 k3 D3=>?_
  ·have:=hj (j+1);rw[List.getElem?_cons_succ]at this;rw[←this];congr 1;omega
  ·obtain⟨o,g0,g1⟩:=hit1;exact⟨o,(hs2.2 it (yE hdi)).trans g0,g1⟩
  ·obtain⟨o,g0,g1⟩:=hl1;exact⟨o,(hs2.2 l (yE hdl)).trans g0,g1⟩
  ·have:=Rw xs t.k t.b t.v;have:=hz;simp only[List.length_cons]at this;omega
  ·exact hR h3 tk3 (λb o b1 b2 e=>k3 b o b1 b2 ((hs2.2 b b2).trans ((hs1.2 b b1).trans e))) D3
end
section
variable {prog:Program} {w:World} {A:Around} {E:VP} {s:Shared} {l:Addr}
theorem Rv{Q:VP}{es:List Ent}{o:Obj}{n:Nat}(hh:A.handled=none)(hu:A.units+48<cLine)(hl0:s.heap.get? l=some o)(hlc:o.cls=.type "list")(hld:o.dict=none)(hldt:o.data=.seq (es.map λt=>Value.ref t.p).toArray n)(hok:∀t∈es,t.ok s.heap)(hz:es.length<=sizeLine)
  (h:∀h' tk,(∀b o,s.heap.get? b=some o->h'.get? b=some o)->h'.DictOfH (lP prog w) s.heap.objs.size (es.foldl putP [])->Q (.ref s.heap.objs.size) {s with heap:=h',toks:=tk}):
  wpAny (model prog w) A (call (.type "dict") [.ref l]) Q E s:=by
 have hll:@LT.lt Nat _ l s.heap.objs.size:=zP hl0;refine callType_codes (Q₁:=λobj s₁=>obj=.ref s.heap.objs.size/\s₁={s with heap:=s.heap.push {cls:=.type "dict",data:=.dict #[]}}) PySem.F.kt_called_dict (PySem.F.kt_typeCall_dict_1 _) PySem.F.entry_dict_init (kt_code_dict_new _ ⟨rfl,rfl⟩) ?_;rintro obj s₁ ⟨rfl,rfl⟩;have hnew:(s.heap.push {cls:=.type "dict",data:=.dict #[]}).DictOfH (lP prog w) s.heap.objs.size []:=Heap.DictOfH.new s.heap;have k1:∀b o,s.heap.get? b=some o->(s.heap.push {cls:=.type "dict",data:=.dict #[]}).get? b=some o:=λb o e=>zD _ e;have z1:(s.heap.push {cls:=.type "dict",data:=.dict #[]}).objs.size=s.heap.objs.size+1:=size_push' _ _;generalize s.heap.push {cls:=.type "dict",data:=.dict #[]}=h1 at*
 have hT1:=Heap.DictOfH.typeIs (s:={s with heap:=h1}) hnew;refine⟨hT1,PySem.F.args_dict_init_2 _ _,?_⟩;unfold Builtin.«dict.__init__»;refine zA ?_;unfold Builtin.Dict.selfAndRest;refine zA (wpAny_notOrdered_dict hT1 ?_);show wpAny _ _ (pure (s.heap.objs.size,[Value.ref l])) _ _ _;refine zB ?_;show wpAny _ _ (Builtin.Dict.updateFrom "dict.__init__" s.heap.objs.size (.ref l) [] .none) _ _ {s with heap:=h1};unfold Builtin.Dict.updateFrom;refine zA (tD (s:={s with heap:=h1}) (T:= "list") ⟨o,k1 _ _ hl0,hlc⟩ ?_);rw[zJ ∅];refine zA (Rx (A:=A.in1.in1) hh (k1 _ _ hl0) hlc hld hldt λh2 tk2 k2=>?_);rw[zJ (by rfl)];refine zA (wP ?_);have hL2:h2.IsList l (es.map λt=>Value.ref t.p).toArray:=⟨o,k2 _ _ (k1 _ _ hl0),hlc,n,hldt⟩;refine zA (tQ (s:={s with heap:=h2,toks:=tk2}) hL2 ?_);have z2:s.heap.objs.size+1<=h2.objs.size:=by
  obtain⟨od,_,_,e,_⟩:=id hnew;exact(show @LT.lt Nat _ s.heap.objs.size h2.objs.size from zP (k2 _ _ e))
 have k3:∀b o,h2.get? b=some o->(h2.push {cls:=.type "list_iterator",data:=.fields #[.ref l,.int 0 0]}).get? b=some o:=λb o e=>zD _ e;have i3:(h2.push {cls:=.type "list_iterator",data:=.fields #[.ref l,.int 0 0]}).IsListIter h2.objs.size l 0:=⟨_,zT _ rfl,rfl,rfl⟩;show wpAny _ _ _ _ _ {s with heap:=h2.push {cls:=.type "list_iterator",data:=.fields #[.ref l,.int 0 0]},toks:=tk2};generalize h2.push {cls:=.type "list_iterator",data:=.fields #[.ref l,.int 0 0]}=h3 at*
 have kk:∀b o,s.heap.get? b=some o->h3.get? b=some o:=λb o e=>k3 _ _ (k2 _ _ (k1 _ _ e));refine zA (zB ?_);refine zB ⟨rO bN _,?_⟩;refine Gc (A:=A.in1) (items:=(es.map λt=>Value.ref t.p).toArray) hh (by show A.units+1+32<cLine;omega) (yB (zE (sD _) z2)) (yE (yB hll)) (yB (zE (rP hll) z2)) es 0 [] _ (λj=>by simp) i3
  ⟨o,kk _ _ hl0,hlc,n,hldt⟩ ?_ (λt ht=>Ent.up (hok t ht) λb o e _=>kk b o e) (by simpa using hz) λh4 tk4 k4 D4=>?_
 ·obtain⟨od,es',ep,e,r⟩:=id hnew;obtain⟨r1,r2,r3,_,r5⟩:=r;exact⟨od,es',ep,k3 _ _ (k2 _ _ e),r1,r2,r3,λx hx=>(nomatch hx),r5⟩
 ·refine⟨rfl,h h4 tk4 (λb o e=>?_) D4⟩;have hb:@LT.lt Nat _ b s.heap.objs.size:=zP e;exact k4 b o (yB (zE (rP hb) z2)) (yB hb) (kk _ _ e)
end
def Ru(K:Frag):List V->Hp->VK->Prop:=λxs H Q=>∃(l:Addr)(ts:List (Addr×PyData×Addr×V)),xs=[.ref l]/\SqL K H l (ts.map λt=>V.ref t.1)/\(∀t∈ts,SqT K H t.1 [.ref t.2.2.1,t.2.2.2]/\tT 4 t.2.1=true/\Dt K H (.ref t.2.2.1) t.2.1)/\(ts.map (·.2.1)).Nodup /\
 ∀D H',Same H H'->H D=none->DTr K H' D (ts.map λt=>(t.2.1,t.2.2.2))->Q (.ref D) H'
theorem Rt{kvs:List (PyData×V)}{k:PyData}(h:k∉kvs.map (·.1)):vT kvs k=none:=by
 induction kvs with
 |nil=>rfl
 |cons p r ih =>
  rw[zL,xE,not_or]at h;rw[gT (λe=>h.1 e.symm)];exact ih h.2
section
variable {X:Cx}
theorem Rr(hu:X.A.units+64<cLine)(hc:X.calm=true):lF X (.type "dict") (Ru X.K):=by
 intro pins s σ H xs us Q I r h;obtain⟨l,ts,rfl,hq,ht,hn,q⟩:=h;obtain⟨u,rfl,rx⟩:=jF r;cases rx;obtain⟨its,rv,⟨o,n0,e,c,od,dd⟩,hz⟩:=I.list hq;have mk:∀(ts:List (Addr×PyData×Addr×V))(its:LW),Vals (ts.map λt=>V.ref t.1) its->(∀t∈ts,SqT X.K H t.1 [.ref t.2.2.1,t.2.2.2]/\tT 4 t.2.1=true/\Dt X.K H (.ref t.2.2.1) t.2.1) ->
   ∃es:List Ent,its=es.map (λt=>Value.ref t.p)/\Paired (λt(e:Ent)=>e.k=t.2.1/\e.b=t.2.2.1/\RelV t.2.2.2 e.v/\e.ok s.heap) ts es:=by
  intro ts
  induction ts with
  |nil=>intro its r _;cases r;exact⟨[],rfl,.nil⟩
  | cons t ts ih =>
   intro its r ht;cases r with
   | cons r1 r2 =>
    obtain⟨es,e1,e2⟩:=ih _ r2 λx hx=>ht x (.tail _ hx);obtain⟨h1,h2,h3⟩:=ht t (.head _);obtain⟨it2,rv2,⟨op,g1,g2,gn,g3⟩,_⟩:=I.tuple h1;cases rv2 with
    | cons ra rb =>
     cases rb with
     |cons rb rc =>
      cases rc;cases ra;cases r1;rename_i v2;refine⟨⟨t.1,t.2.1,t.2.2.1,v2⟩:: es,by rw[zL,←e1],.cons ⟨rfl,rfl,rb,⟨op,gn,g1,g2,g3⟩,iX I h2 h3⟩ e2⟩
 obtain⟨es,e1,e2⟩:=mk ts its rv ht;subst e1;have hlen:ts.length=es.length:=nP e2;refine Rv (es:=es) (I.ok.hd hc) ⋯ e c od (by rw[dd]) (λt ht'=>?_) (by rw[←hlen];simpa using hz) λh' tk kk D=>?_
 ·obtain⟨_,_,z⟩:=Bn e2 t ht';exact z.2.2.2
 have fold:∀(ts:List (Addr×PyData×Addr×V))(es:List Ent),Paired (λt(e:Ent)=>e.k=t.2.1/\e.b=t.2.2.1/\RelV t.2.2.2 e.v/\e.ok s.heap) ts es->(∀t∈ts,tT 4 t.2.1=true/\Dt X.K H (.ref t.2.2.1) t.2.1)->∀(kvs:List (PyData×V))(xs:List (PyData×Addr×Value)),KP X.K H kvs xs->(kvs.map (·.1)++ts.map (·.2.1)).Nodup->KP X.K H (kvs++ts.map λt=>(t.2.1,t.2.2.2)) (es.foldl putP xs):=by
  intro ts es pr
  induction pr with
  |nil=>intro _ kvs xs kp _;rw[List.map_nil,vG];exact kp
  | @cons t e ts es he _ ih =>
   intro ht kvs xs kp nd;obtain⟨h1,h2,h3,_⟩:=he;have st:=kp.put t.2.1 (ht t (.head _)).1 (ht t (.head _)).2 h3;have nk:t.2.1∉kvs.map (·.1):=λhm=>by
    have:=(List.nodup_append.mp nd).2.2 _ hm t.2.1 (by simp);exact this rfl
   have ep:pT kvs t.2.1 t.2.2.2=kvs++[(t.2.1,t.2.2.2)]:=by
    unfold pT;rw[Rt nk];rfl
   rw[ep,←h1,←h2]at st;have:=ih (λx hx=>ht x (.tail _ hx)) _ _ st (by rw[xD,yR];simpa [h1]using nd);rw[yR]at this;rw[h1]at this;show KP X.K H _ (List.foldl putP (storedH xs e.k e.b e.v) es);rw[h1];exact this
 have kp:=fold ts es e2 (λt ht'=>(ht t ht').2) [] [] .nil (by simpa using hn);rw[List.nil_append]at kp;obtain⟨oD,eD,pD,d1,d2,d3,d4,_,d6⟩:=D;have hf:H s.heap.objs.size=none:=I.hok.fresh (zG _);have sm:Same H (upd H s.heap.objs.size (mV s.heap.objs.size (es.foldl putP []))):=Same.new hf;refine⟨.ref s.heap.objs.size,_,I.laid (a:=s.heap.objs.size) (o:=mV s.heap.objs.size (es.foldl putP [])) (t':=tk) kk (zG _) (cZ d1 d2 d3 d4),rfl,?_⟩;refine q _ _ sm hf ⟨by rw[yP];simpa using hz,qU.mpr (yE (yB (Fa I))),_,pV,d6,kp.keeps (nM sm)⟩
end
open Classical in
def rdT(h:Heap)(v:Value):Option PyData:=if q:∃d,tT 4 d=true/\∃as,Reads h v d as then some q.choose else none
theorem Gb{h:Heap}{d:PyData}{v:Value}{as:LA}(t:tT 4 d=true)(r:Reads h v d as):rdT h v=some d:=by
 have q:∃d,tT 4 d=true/\∃as,Reads h v d as:=⟨d,t,as,r⟩;unfold rdT;rw[qR q];obtain⟨t',as',r'⟩:=q.choose_spec;rw[tG _ _ _ _ _ (jI 4 _ (iV 4 _ t')).1 r' r]
def rInD(K:Frag)(neg:Bool):R2:=λx y H Q=>∃(p:Addr)(ps:List (V×PyData))(d:PyData),y=.ref p/\(SqL K H p (ps.map (·.1))\/SqT K H p (ps.map (·.1)))/\(∀q∈ps,tT 4 q.2=true/\Dt K H q.1 q.2)/\tT 4 d=true/\Dt K H x d/\Q (.bl (if neg=true then !(ps.any λq=>decide (q.2=d)) else ps.any λq=>decide (q.2=d))) H
section
variable {X:Cx}
theorem eY{pins:PN}{σ:St}{H:Hp}{s:Shared}(I:Inv X pins σ H s)(d:PyData):∀{ps:List (V×PyData)}{us:LW},Vals (ps.map (·.1)) us->(∀q∈ps,tT 4 q.2=true/\Dt X.K H q.1 q.2)->us.any (λu=>decide (rdT s.heap u=some d))=ps.any λq=>decide (q.2=d)
 |[],_,.nil,_=>rfl
 |p:: ps,u:: us,.cons r t,h=>by
  rw[uS,uS,eY I d t λq hq=>h q (.tail _ hq)];obtain⟨as,rd⟩:=(h p (.head _)).2.reads I r;rw[Gb (h p (.head _)).1 rd];congr 1;exact qZ.mpr ⟨λe=>by cases e;rfl,λe=>by rw[e]⟩
theorem eZ{pins:PN}{σ:St}{H:Hp}{s:Shared}(I:Inv X pins σ H s){A:Around}(hu:A.units+8<cLine){x:V}{v:Value}{d:PyData}(rx:RelV x v)(td:tT 4 d=true)(hd:Dt X.K H x d):∀{ps:List (V×PyData)}{us:LW},Vals (ps.map (·.1)) us->(∀q∈ps,tT 4 q.2=true/\Dt X.K H q.1 q.2)->∀u∈us,SeqAt.EqAt A s u v (decide (rdT s.heap u=some d))
 |[],_,.nil,_=>λu hu=>by cases hu
 | p:: ps,u:: us,.cons r t,h=>λu' hu'=>by
  rcases xE.mp hu' with rfl|hu'
  ·obtain⟨as,rd⟩:=(h p (.head _)).2.reads I r;obtain⟨bs,rd2⟩:=hd.reads I rx;have e:decide (rdT s.heap u'=some d)=decide (p.2=d):=by
    rw[Gb (h p (.head _)).1 rd];exact qZ.mpr ⟨λe=>by cases e;rfl,λe=>by rw[e]⟩
   rw[e];intro prog w E Q hQ;exact eqT (n:=4) (zG _) (h p (.head _)).1 td rd rd2 hu hQ
  ·exact eZ I hu rx td hd t (λq hq=>h q (.tail _ hq)) u' hu'
theorem Rq(hu:X.A.units+64<cLine):OpR X (compareOp .In) (rInD X.K false):=by
 intro pins s σ H x y v u Q I rx ry h;obtain⟨p,ps,d,rfl,hq,ht,td,hd,q⟩:=h;cases ry;rcases hq with hq|hq
 ·obtain⟨its,r,pl,hz⟩:=I.list hq;refine SeqAt.in_listAt (λu=>decide (rdT s.heap u=some d)) pl.isList (λw hw=>eZ I ?_ rx td hd r ht w (by simpa using hw)) ⟨.bl _,H,I,rfl,?_⟩
  ·show X.A.units+1+8<cLine;omega
  rw[show its.toArray.any (λu=>decide (rdT s.heap u=some d))=its.any (λu=>decide (rdT s.heap u=some d)) by simp,eY I d r ht];exact q
 ·obtain⟨its,r,pl,hz⟩:=I.tuple hq;refine SeqAt.in_tupleAt (λu=>decide (rdT s.heap u=some d)) pl (λw hw=>eZ I ?_ rx td hd r ht w (by simpa using hw)) ⟨.bl _,H,I,rfl,?_⟩
  ·show X.A.units+1+8<cLine;omega
  rw[show its.toArray.any (λu=>decide (rdT s.heap u=some d))=its.any (λu=>decide (rdT s.heap u=some d)) by simp,eY I d r ht];exact q
theorem Rp(hu:X.A.units+64<cLine):OpR X (compareOp .NotIn) (rInD X.K true):=by
 intro pins s σ H x y v u Q I rx ry h;obtain⟨p,ps,d,rfl,hq,ht,td,hd,q⟩:=h;cases ry;rcases hq with hq|hq
 ·obtain⟨its,r,pl,hz⟩:=I.list hq;refine SeqAt.notIn_listAt (λu=>decide (rdT s.heap u=some d)) pl.isList (λw hw=>eZ I ?_ rx td hd r ht w (by simpa using hw)) ⟨.bl _,H,I,rfl,?_⟩
  ·show X.A.units+1+8<cLine;omega
  rw[show its.toArray.any (λu=>decide (rdT s.heap u=some d))=its.any (λu=>decide (rdT s.heap u=some d)) by simp,eY I d r ht];exact q
 ·obtain⟨its,r,pl,hz⟩:=I.tuple hq;refine SeqAt.notIn_tupleAt (λu=>decide (rdT s.heap u=some d)) pl (λw hw=>eZ I ?_ rx td hd r ht w (by simpa using hw)) ⟨.bl _,H,I,rfl,?_⟩
  ·show X.A.units+1+8<cLine;omega
  rw[show its.toArray.any (λu=>decide (rdT s.heap u=some d))=its.any (λu=>decide (rdT s.heap u=some d)) by simp,eY I d r ht];exact q
end
structure FunD(K:Frag)(x qual:Str)(st:Stmt)(f:Addr)(fd:FuncData)(ds:LW):Prop where
 ex:∃(oc:Value)(od:Option Addr)(T:Addr)(kV doc pm:Value)(an:Option Addr)(cdv ct:Value)(osl:Array (Option Value)),
  fd=PySem.W.fnOf x qual (kU st) (mY st) (pN st) (.ref T) kV doc pm an cdv ct/\K.lookup f=some ⟨oc,od,.func fd,osl⟩/\PySem.W.codeIn K cdv qual=true/\∃(o2:Value)(d2:Option Addr)(n2:Nat)(s2:Array (Option Value)),K.lookup T=some ⟨o2,d2,.seq ds.toArray n2,s2⟩
 kp:PySem.W.keepIn K (.ref f)=true
section
variable {P:Program} {w:World} {K:Frag} {mg:MT} {base:Heap}
theorem FunD.ok{x qual:Str}{st:Stmt}{f:Addr}{fd:FuncData}{ds:LW}{N ps:List Str}{k:Nat}{sp:Sp}(F:FunD K x qual st f fd ds)(S:oC N ps (pN st))(len:∀vs H Q E,sp vs H Q E->vs.length=ps.length)
  (hbody:∀(cdv:Value)(A:Around)(outer:List Env)(s:Shared)(H:Hp)(vs:List V)(Q:VK)(E:XK),Room k (A.deeper (envOfC qual (pN st) s.heap.objs.size f cdv))->sp vs H Q E ->
   ∃t,PSs (cxOf CX0 P w K mg base N qual (pN st) f cdv A outer s H E).nox (mY st) t/\t {nx:=λ_ H'=>Q .non H',rt:=Q} (jH N vs) H):FnOk P w K mg base CX0 (k+1) f fd ps sp:=by
 obtain⟨oc,od,T,kV,doc,pm,an,cdv,ct,osl,rfl,lk,hcd,_⟩:=F.ex;refine Az lk hcd S len λA outer s H vs Q E hr hsp=>?_;obtain⟨t,h,q⟩:=hbody cdv A outer s H vs Q E hr hsp;exact⟨t,h.nox,q⟩
theorem FunD.binds{x qual:Str}{st:Stmt}{f:Addr}{fd:FuncData}{ps:List Str}{ds:LW}(F:FunD K x qual st f fd ds)
  (h:∀(T:Addr)(kV doc pm:Value)(an:Option Addr)(cdv ct:Value)(us:LW),us.length+ds.length=ps.length->∃k,bindArgs (PySem.W.fnOf x qual (kU st) (mY st) (pN st) (.ref T) kV doc pm an cdv ct) ⟨us,[]⟩=seqItems? (.ref T) >>= k/\k (some ds.toArray)=pure (ps.zip (us++ds))):mD K fd ps ds:=by
 obtain⟨oc,od,T,kV,doc,pm,an,cdv,ct,osl,rfl,lk,hcd,o2,d2,n2,s2,lt⟩:=F.ex;intro s us kin hl;obtain⟨k,e1,e2⟩:=h T kV doc pm an cdv ct us (by simpa using hl);exact BindsTo.of_defaults (T:=T) rfl (kin _ _ lt) rfl e1 e2
theorem FunD.bindsA{x qual:Str}{st:Stmt}{f:Addr}{fd:FuncData}{ps:List Str}{ds:LW}(F:FunD K x qual st f fd ds)
  (h:∀(T:Addr)(kV doc pm:Value)(an:Option Addr)(cdv ct:Value)(us:LW),us.length=ps.length->∃k,bindArgs (PySem.W.fnOf x qual (kU st) (mY st) (pN st) (.ref T) kV doc pm an cdv ct) ⟨us,[]⟩=seqItems? (.ref T) >>= k/\k (some ds.toArray)=pure (ps.zip us)):mD K fd ps []:=by
 obtain⟨oc,od,T,kV,doc,pm,an,cdv,ct,osl,rfl,lk,hcd,o2,d2,n2,s2,lt⟩:=F.ex;intro s us kin hl;rw[vG]at hl ⊢;obtain⟨k,e1,e2⟩:=h T kV doc pm an cdv ct us hl;exact BindsTo.of_defaults (T:=T) rfl (kin _ _ lt) rfl e1 e2
theorem Ga{x qual:Str}{st:Stmt}{f T:Addr}{oc o2:Value}{od d2 an:Option Addr}{osl s2:Array (Option Value)}{kV doc pm cdv ct:Value}{ds:LW}{n2:Nat}(l:K.lookup f=some ⟨oc,od,.func (PySem.W.fnOf x qual (kU st) (mY st) (pN st) (.ref T) kV doc pm an cdv ct),osl⟩)
  (c:PySem.W.codeIn K cdv qual=true)(k:PySem.W.keepIn K (.ref f)=true)(l2:K.lookup T=some ⟨o2,d2,.seq ds.toArray n2,s2⟩):FunD K x qual st f (PySem.W.fnOf x qual (kU st) (mY st) (pN st) (.ref T) kV doc pm an cdv ct) ds:=⟨⟨oc,od,T,kV,doc,pm,an,cdv,ct,osl,rfl,l,c,o2,d2,n2,s2,l2⟩,k⟩
end
end L2
namespace Cw
open PySem L2
abbrev pa':List Str:=["_law_rows","_law_tops","_law_parts","_law_steps","_law_spot"]
abbrev pb':List Str:=["_law_cell","_law_members","_law_spot","_law_frame_here"]
abbrev pc':List Str:=["_law_one","_law_members","_law_spot","_law_other_here"]
abbrev pd':List Str:=["_law_cell","_law_kind","_law_parts"]
abbrev pe':List Str:=["_law_cell","_law_base","_law_many"]
abbrev pf':List Str:=["_law_cells","_law_frame_here"]
abbrev pg':List Str:=["_law_cell","_law_frame_here"]
abbrev ph':List Str:=["_law_one","_law_other_here"]
abbrev pi':List Str:=["self","d","makers","most"]
abbrev pj':List Str:=["_law_part","_law_number"]
abbrev pk':List Str:=["_law_tops","_law_under"]
abbrev pl':List Str:=["_law_rows","_law_steps"]
abbrev pm':List Str:=["_law_tops","_law_steps"]
abbrev pn':List Str:=["_law_rows","_law_tops"]
abbrev po':List Str:=["group","spot","other"]
abbrev pp':List Str:=["_law_script","_law_k"]
abbrev pq':List Str:=["_law_one","_law_spot"]
abbrev pr':List Str:=["rows","tops","under"]
abbrev pt':List Str:=["group","way","most"]
abbrev pu':List Str:=["_law_cell","_law_d"]
abbrev pv':List Str:=["d","makers","most"]
abbrev pw':List Str:=["group","vectors"]
abbrev px':List Str:=["count","vectors"]
abbrev py':List Str:=["vectors","spot"]
abbrev pz':List Str:=["rows","i","k"]
abbrev pA':List Str:=["rows","count"]
abbrev pB':List Str:=["table","spot"]
abbrev pC':List Str:=["one","other"]
abbrev pD':List Str:=["rows","spot"]
abbrev pE':List Str:=["_law_script"]
abbrev pF':List Str:=["axes","one"]
abbrev pG':List Str:=["spot","one"]
abbrev pH':List Str:=["self","one"]
abbrev pI':List Str:=["_law_found"]
abbrev pJ':List Str:=["_law_kind"]
abbrev pK':List Str:=["_law_spot"]
abbrev pL':List Str:=["_law_some"]
abbrev pM':List Str:=["rows"]
abbrev pN':List Str:=["self"]
abbrev pO':List Str:=["one"]
open PySem.W (nsIn keepIn codeIn findIn fnOf mg_of kitOne)
open PyProof.Rows (mulOk_of_bits)
theorem zqe{α β:Type}{l:List α}{f:α->β}:(l.map f).length=l.length:=yP ..
theorem zqa{α:Type}{l:List α}{i:Nat}{a:α}(h:l[i]?=some a):∃h:i<l.length,l[i]=a:=pG.mp h
theorem zqb{α:Type}{l:List α}{i:Nat}{a:α}(h:l[i]?=some a):a∈l:=yC h
theorem zqc{α:Type}{l:List α}{i:Nat}{a:α}:l.getD i a=l[i]?.getD a:=uR
theorem zqd{α:Type}{l:List α}{i:Nat}(h:i<l.length):l[i]?=some l[i]:=xN h
open PySem.W (Frag)
abbrev LM:=List (LI')
noncomputable def top(i:Nat):Stmt:=PySem.Challenge.pw_crystalwords_k62_leading.main.body.getD i (.Pass ⟨0,0,0,0⟩)
noncomputable abbrev s_13:Stmt:=top 11
noncomputable abbrev N_13:List Str:=["one","other","greater","lesser","remainder"]
noncomputable abbrev s_15:Stmt:=top 12
noncomputable abbrev N_15:List Str:=["numbers","least","number"]
noncomputable abbrev s_10:Stmt:=top 14
noncomputable abbrev N_10:List Str:=["tops","under","common","top"]
noncomputable abbrev bO:Stmt:=top 15
noncomputable abbrev N_s:List Str:=["one","under"]
noncomputable abbrev s_11:Stmt:=top 16
noncomputable abbrev N_11:List Str:=["one","other","tops"]
noncomputable abbrev s_18:Stmt:=top 17
noncomputable abbrev N_18:List Str:=pO'
noncomputable abbrev Bm:Stmt:=top 18
noncomputable abbrev N_q:List Str:=pC'
noncomputable abbrev bP:Stmt:=top 20
noncomputable abbrev N_h:List Str:=["size"]
noncomputable abbrev s_1s:Stmt:=top 21
noncomputable abbrev N_1s:List Str:=pC'
noncomputable abbrev s_1e:Stmt:=top 22
noncomputable abbrev N_1e:List Str:=pM'
noncomputable abbrev s_1m:Stmt:=top 23
noncomputable abbrev N_1m:List Str:=["one","other","columns"]
noncomputable abbrev s_1b:Stmt:=top 24
noncomputable abbrev N_1b:List Str:=pz'
noncomputable abbrev s_1:Stmt:=top 25
noncomputable abbrev N_1:List Str:=["rows","total","sign","k","number"]
noncomputable abbrev s_16:Stmt:=top 26
noncomputable abbrev N_16:List Str:=["rows","i","k","sign"]
noncomputable abbrev s_1f:Stmt:=top 27
noncomputable abbrev N_1f:List Str:=["rows","size"]
noncomputable abbrev s_1k:Stmt:=top 28
noncomputable abbrev N_1k:List Str:=pA'
noncomputable abbrev s_19:Stmt:=top 30
noncomputable abbrev N_19:List Str:=pD'
noncomputable abbrev s_1n:Stmt:=top 31
noncomputable abbrev N_1n:List Str:=["rows","tops","under","axes"]
noncomputable abbrev s_1o:Stmt:=top 32
noncomputable abbrev N_1o:List Str:=["d"]
noncomputable abbrev s_1p:Stmt:=top 33
noncomputable abbrev N_1p:List Str:=pO'
noncomputable abbrev s_1i:Stmt:=top 34
noncomputable abbrev N_1i:List Str:=["one","spot","tops"]
noncomputable abbrev s_1g:Stmt:=top 35
noncomputable abbrev N_1g:List Str:=["one","other","columns","rows"]
noncomputable abbrev s_1q:Stmt:=top 36
noncomputable abbrev N_1q:List Str:=pO'
noncomputable abbrev Bl:Stmt:=top 38
noncomputable abbrev N_j:List Str:=["group","spot","other","deeds","member","gap"]
noncomputable abbrev s_1c:Stmt:=top 39
noncomputable abbrev N_1c:List Str:=["group","spot","other","deeds"]
noncomputable abbrev s_1h:Stmt:=top 41
noncomputable abbrev N_1h:List Str:=["vectors","spot","axes"]
noncomputable abbrev Bk:Stmt:=top 42
noncomputable abbrev N_a:List Str:=pF'
noncomputable abbrev s_1j:Stmt:=top 43
noncomputable abbrev N_1j:List Str:=["one","under","columns"]
noncomputable abbrev s_1t:Stmt:=top 44
noncomputable abbrev N_1t:List Str:=["one","table"]
noncomputable abbrev s_1w:Stmt:=top 45
noncomputable abbrev N_1w:List Str:=pB'
noncomputable abbrev s_12:Stmt:=top 46
noncomputable abbrev N_12:List Str:=pG'
noncomputable abbrev dA:Stmt:=top 47
noncomputable abbrev N_t:List Str:=["one","way","old","new","rows","under","whole"]
noncomputable abbrev Bj:Stmt:=top 50
noncomputable abbrev N_p:List Str:=["most"]
noncomputable abbrev Bi:Stmt:=top 51
noncomputable abbrev N_w:List Str:=["d","makers","maker"]
noncomputable abbrev s_1d:Stmt:=top 52
noncomputable abbrev N_1d:List Str:=["d","makers","most","steps","found","words","at","number","step","reached"]
noncomputable abbrev s_0:Stmt:=fY (top 53) 0
noncomputable abbrev N_0:List Str:=["self","d","makers","most","words"]
noncomputable abbrev Bh:Stmt:=fY (top 53) 1
noncomputable abbrev N_g:List Str:=pN'
noncomputable abbrev Bg:Stmt:=fY (top 53) 2
noncomputable abbrev N_c:List Str:=pN'
noncomputable abbrev s_2:Stmt:=fY (top 53) 3
noncomputable abbrev N_2:List Str:=pN'
noncomputable abbrev Bf:Stmt:=fY (top 53) 5
noncomputable abbrev N_u:List Str:=pH'
noncomputable abbrev s_14:Stmt:=top 54
noncomputable abbrev N_14:List Str:=["d","deeds","group","one"]
noncomputable abbrev Be:Stmt:=top 56
noncomputable abbrev N_o:List Str:=["group","vectors","vector"]
noncomputable abbrev s_1l:Stmt:=top 57
noncomputable abbrev N_1l:List Str:=["count","vectors","top","under","vector"]
noncomputable abbrev s_7:Stmt:=top 58
noncomputable abbrev N_7:List Str:=["group","way","most","deeds","units"]
noncomputable abbrev Bd:Stmt:=top 60
noncomputable abbrev N_e:List Str:=pp'
noncomputable abbrev Bc:Stmt:=top 61
noncomputable abbrev N_v:List Str:=pI'
noncomputable abbrev Bb:Stmt:=top 62
noncomputable abbrev N_b:List Str:=["_law_cell","_law_base","_law_many","_law_some","_law_k"]
noncomputable abbrev Ba:Stmt:=top 63
noncomputable abbrev N_x:List Str:=pj'
noncomputable abbrev bQ:Stmt:=top 64
noncomputable abbrev N_f:List Str:=["_law_tops","_law_under","_law_by","_law_top"]
noncomputable abbrev dB:Stmt:=top 65
noncomputable abbrev N_n:List Str:=pJ'
noncomputable abbrev s_9:Stmt:=top 66
noncomputable abbrev N_9:List Str:=ph'
noncomputable abbrev s_1a:Stmt:=top 67
noncomputable abbrev N_1a:List Str:=pn'
noncomputable abbrev bU:Stmt:=top 68
noncomputable abbrev N_r:List Str:=["_law_cell","_law_kind","_law_parts","_law_generators","_law_many","_law_rows","_law_k"]
noncomputable abbrev s_17:Stmt:=top 69
noncomputable abbrev N_17:List Str:=["_law_cell","_law_d","_law_i"]
noncomputable abbrev s_3:Stmt:=top 70
noncomputable abbrev N_3:List Str:=["_law_rows","_law_steps","_law_i","_law_j","_law_many"]
noncomputable abbrev s_6:Stmt:=top 71
noncomputable abbrev N_6:List Str:=["_law_tops","_law_steps","_law_i","_law_j","_law_many"]
noncomputable abbrev s_4:Stmt:=top 72
noncomputable abbrev N_4:List Str:=["_law_rows","_law_tops","_law_parts","_law_steps","_law_spot","_law_far","_law_under"]
noncomputable abbrev dC:Stmt:=top 73
noncomputable abbrev N_k:List Str:=["_law_script","_law_cell","_law_kind","_law_generators","_law_most","_law_d","_law_parts","_law_steps","_law_spot"]
noncomputable abbrev Cz:Stmt:=top 74
noncomputable abbrev N_i:List Str:=["_law_cells","_law_frame_here","_law_kind","_law_parts","_law_steps","_law_spot","_law_made","_law_cell","_law_rows","_law_tops"]
noncomputable abbrev s_8:Stmt:=top 75
noncomputable abbrev N_8:List Str:=["_law_one","_law_spot","_law_far","_law_tops"]
noncomputable abbrev bV:Stmt:=top 76
noncomputable abbrev N_z:List Str:=pK'
noncomputable abbrev s_5:Stmt:=top 77
noncomputable abbrev N_5:List Str:=["_law_cell","_law_frame_here","_law_kind","_law_parts","_law_steps","_law_spot","_law_d","_law_small","_law_tops"]
noncomputable abbrev bW:Stmt:=top 78
noncomputable abbrev N_m:List Str:=pL'
noncomputable abbrev Cy:Stmt:=top 79
noncomputable abbrev N_y:List Str:=pc'
noncomputable abbrev fE:Stmt:=top 80
noncomputable abbrev N_l:List Str:=["_law_cell","_law_members","_law_spot","_law_frame_here","_law_reached_here","_law_far","_law_most","_law_tops"]
noncomputable abbrev s_1r:Stmt:=top 81
noncomputable abbrev N_1r:List Str:=["_law_script","_law_frame_here","_law_makers_here","_law_group","_law_members","_law_spot","_law_units","_law_anew","_law_cells","_law_cell","_law_other_here","_law_led_here","_law_one","_law_named","_law_images"]
local macro_rules | `(tactic| walk_at "s")=>`(tactic| exact ⟨rfl,rfl,rfl,by decide +kernel,rfl,by decide +kernel,by decide +kernel⟩)
local macro_rules | `(tactic| walk_at "v")=>`(tactic| (intro _ _ _ _ h; first | (obtain ⟨_,hh,_⟩:=h; subst hh; rfl) | (obtain ⟨_,_,hh,_⟩:=h; subst hh; rfl) | (obtain ⟨_,_,_,hh,_⟩:=h; subst hh; rfl) | (obtain ⟨_,_,_,_,hh,_⟩:=h; subst hh; rfl) | (obtain ⟨_,_,_,_,_,hh,_⟩:=h; subst hh; rfl) | (obtain ⟨_,_,_,_,_,_,hh,_⟩:=h; subst hh; rfl) | (obtain ⟨_,_,_,_,_,_,_,hh,_⟩:=h; subst hh; rfl) | (obtain ⟨_,_,_,_,_,_,_,_,hh,_⟩:=h; subst hh; rfl) | (obtain ⟨_,_,_,_,_,_,_,_,_,hh,_⟩:=h; subst hh; rfl) | (obtain ⟨_,_,_,_,_,_,_,_,_,_,_,hh,_⟩:=h; subst hh; rfl) | (obtain ⟨_,_,_,_,_,_,_,_,_,_,_,_,hh,_⟩:=h; subst hh; rfl)))
theorem sc_13:oC N_13 pC' (pN s_13):=by walk_at "s"
theorem sc_15:oC N_15 ["numbers"] (pN s_15):=by walk_at "s"
theorem sc_10:oC N_10 ["tops","under"] (pN s_10):=by walk_at "s"
theorem sc_s:oC N_s pO' (pN bO):=by walk_at "s"
theorem sc_11:oC N_11 pC' (pN s_11):=by walk_at "s"
theorem sc_18:oC N_18 pO' (pN s_18):=by walk_at "s"
theorem sc_q:oC N_q pC' (pN Bm):=by walk_at "s"
theorem sc_h:oC N_h ["size"] (pN bP):=by walk_at "s"
theorem sc_1s:oC N_1s pC' (pN s_1s):=by walk_at "s"
theorem sc_1e:oC N_1e pM' (pN s_1e):=by walk_at "s"
theorem sc_1m:oC N_1m pC' (pN s_1m):=by walk_at "s"
theorem sc_1b:oC N_1b pz' (pN s_1b):=by walk_at "s"
theorem sc_1:oC N_1 pM' (pN s_1):=by walk_at "s"
theorem sc_16:oC N_16 pz' (pN s_16):=by walk_at "s"
theorem sc_1f:oC N_1f pM' (pN s_1f):=by walk_at "s"
theorem sc_1k:oC N_1k pA' (pN s_1k):=by walk_at "s"
theorem sc_19:oC N_19 pD' (pN s_19):=by walk_at "s"
theorem sc_1n:oC N_1n pr' (pN s_1n):=by walk_at "s"
theorem sc_1o:oC N_1o ["d"] (pN s_1o):=by walk_at "s"
theorem sc_1p:oC N_1p pO' (pN s_1p):=by walk_at "s"
theorem sc_1i:oC N_1i ["one","spot"] (pN s_1i):=by walk_at "s"
theorem sc_1g:oC N_1g pC' (pN s_1g):=by walk_at "s"
theorem sc_1q:oC N_1q pO' (pN s_1q):=by walk_at "s"
theorem sc_j:oC N_j po' (pN Bl):=by walk_at "s"
theorem sc_1c:oC N_1c po' (pN s_1c):=by walk_at "s"
theorem sc_1h:oC N_1h py' (pN s_1h):=by walk_at "s"
theorem sc_a:oC N_a pF' (pN Bk):=by walk_at "s"
theorem sc_1j:oC N_1j pO' (pN s_1j):=by walk_at "s"
theorem sc_1t:oC N_1t pO' (pN s_1t):=by walk_at "s"
theorem sc_1w:oC N_1w pB' (pN s_1w):=by walk_at "s"
theorem sc_12:oC N_12 pG' (pN s_12):=by walk_at "s"
theorem sc_t:oC N_t ["one","way"] (pN dA):=by walk_at "s"
theorem sc_p:oC N_p ["most"] (pN Bj):=by walk_at "s"
theorem sc_w:oC N_w ["d","makers"] (pN Bi):=by walk_at "s"
theorem sc_1d:oC N_1d pv' (pN s_1d):=by walk_at "s"
theorem sc_0:oC N_0 pi' (pN s_0):=by walk_at "s"
theorem sc_g:oC N_g pN' (pN Bh):=by walk_at "s"
theorem sc_c:oC N_c pN' (pN Bg):=by walk_at "s"
theorem sc_2:oC N_2 pN' (pN s_2):=by walk_at "s"
theorem sc_u:oC N_u pH' (pN Bf):=by walk_at "s"
theorem sc_14:oC N_14 ["d","deeds"] (pN s_14):=by walk_at "s"
theorem sc_o:oC N_o pw' (pN Be):=by walk_at "s"
theorem sc_1l:oC N_1l px' (pN s_1l):=by walk_at "s"
theorem sc_7:oC N_7 pt' (pN s_7):=by walk_at "s"
theorem sc_e:oC N_e pp' (pN Bd):=by walk_at "s"
theorem sc_v:oC N_v pI' (pN Bc):=by walk_at "s"
theorem sc_b:oC N_b pe' (pN Bb):=by walk_at "s"
theorem sc_x:oC N_x pj' (pN Ba):=by walk_at "s"
theorem sc_f:oC N_f pk' (pN bQ):=by walk_at "s"
theorem sc_n:oC N_n pJ' (pN dB):=by walk_at "s"
theorem sc_9:oC N_9 ph' (pN s_9):=by walk_at "s"
theorem sc_1a:oC N_1a pn' (pN s_1a):=by walk_at "s"
theorem sc_r:oC N_r pd' (pN bU):=by walk_at "s"
theorem sc_17:oC N_17 pu' (pN s_17):=by walk_at "s"
theorem sc_3:oC N_3 pl' (pN s_3):=by walk_at "s"
theorem sc_6:oC N_6 pm' (pN s_6):=by walk_at "s"
theorem sc_4:oC N_4 pa' (pN s_4):=by walk_at "s"
theorem sc_k:oC N_k pE' (pN dC):=by walk_at "s"
theorem sc_i:oC N_i pf' (pN Cz):=by walk_at "s"
theorem sc_8:oC N_8 pq' (pN s_8):=by walk_at "s"
theorem sc_z:oC N_z pK' (pN bV):=by walk_at "s"
theorem sc_5:oC N_5 pg' (pN s_5):=by walk_at "s"
theorem sc_m:oC N_m pL' (pN bW):=by walk_at "s"
theorem sc_y:oC N_y pc' (pN Cy):=by walk_at "s"
theorem sc_l:oC N_l pb' (pN fE):=by walk_at "s"
theorem sc_1r:oC N_1r pE' (pN s_1r):=by walk_at "s"
set_option genInjectivity false in
structure Adr where
 (a_13 a_15 a_10 a_s a_11 a_18 a_q a_h a_1s a_1e a_1m a_1b a_1 a_16 a_1f a_1k a_19 a_1n a_1o a_1p a_1i a_1g a_1q a_j a_1c a_1h a_a a_1j a_1t a_1w a_12 a_t a_p a_w a_1d a_0 a_g a_c a_2 a_u a_14 a_o a_1l a_7 a_e a_v a_b a_x a_f a_n a_9 a_1a a_r a_17 a_3 a_6 a_4 a_k a_i a_8 a_z a_5 a_m a_y a_l a_1r:Addr)
 (d_13 d_15 d_10 d_s d_11 d_18 d_q d_h d_1s d_1e d_1m d_1b d_1 d_16 d_1f d_1k d_19 d_1n d_1o d_1p d_1i d_1g d_1q d_j d_1c d_1h d_a d_1j d_1t d_1w d_12 d_t d_p d_w d_1d d_0 d_g d_c d_2 d_u d_14 d_o d_1l d_7 d_e d_v d_b d_x d_f d_n d_9 d_1a d_r d_17 d_3 d_6 d_4 d_k d_i d_8 d_z d_5 d_m d_y d_l d_1r:FuncData)
 a_1x:Addr
 a_1u:Addr
 a_1v:Addr
 a_20:Addr
 a_1z:Addr
 a_d:Addr
 a_21:Addr
 a_1y:Addr
 k_0:Tok
 k_7:Tok
structure Txt(K:Frag)(mg:MT)(t:Adr):Prop where
 F_13:FunT K mg "divisor" s_13 t.a_13 t.d_13 pC'
 F_15:FunT K mg "multiple" s_15 t.a_15 t.d_15 ["numbers"]
 F_10:FunT K mg "place" s_10 t.a_10 t.d_10 ["tops","under"]
 F_s:FunT K mg "rest_place" bO t.a_s t.d_s pO'
 F_11:FunT K mg "place_sum" s_11 t.a_11 t.d_11 pC'
 F_18:FunT K mg "opposite" s_18 t.a_18 t.d_18 pO'
 F_q:FunT K mg "place_less" Bm t.a_q t.d_q pC'
 F_h:FunT K mg "still_rows" bP t.a_h t.d_h ["size"]
 F_1s:FunT K mg "dot" s_1s t.a_1s t.d_1s pC'
 F_1e:FunT K mg "turned" s_1e t.a_1e t.d_1e pM'
 F_1m:FunT K mg "times" s_1m t.a_1m t.d_1m pC'
 F_1b:FunT K mg "without" s_1b t.a_1b t.d_1b pz'
 F_1:FunT K mg "determinant" s_1 t.a_1 t.d_1 pM'
 F_16:FunT K mg "cofactor" s_16 t.a_16 t.d_16 pz'
 F_1f:FunT K mg "crossed" s_1f t.a_1f t.d_1f pM'
 F_1k:FunT K mg "scaled" s_1k t.a_1k t.d_1k pA'
 F_19:FunT K mg "joined" s_19 t.a_19 t.d_19 pD'
 F_1n:FunT K mg "deed" s_1n t.a_1n t.d_1n pr'
 F_1o:FunT K mg "still" s_1o t.a_1o t.d_1o ["d"]
 F_1p:FunT K mg "move" s_1p t.a_1p t.d_1p pO'
 F_1i:FunT K mg "moved" s_1i t.a_1i t.d_1i ["one","spot"]
 F_1g:FunT K mg "behind" s_1g t.a_1g t.d_1g pC'
 F_1q:FunT K mg "rest" s_1q t.a_1q t.d_1q pO'
 F_j:FunT K mg "all_leading" Bl t.a_j t.d_j po'
 F_1c:FunT K mg "leading" s_1c t.a_1c t.d_1c po'
 F_1h:FunT K mg "change" s_1h t.a_1h t.d_1h py'
 F_a:FunT K mg "check_beside" Bk t.a_a t.d_a pF'
 F_1j:FunT K mg "forth" s_1j t.a_1j t.d_1j pO'
 F_1t:FunT K mg "home" s_1t t.a_1t t.d_1t pO'
 F_1w:FunT K mg "led" s_1w t.a_1w t.d_1w pB'
 F_12:FunT K mg "new_place" s_12 t.a_12 t.d_12 pG'
 F_t:FunT K mg "new_deed" dA t.a_t t.d_t ["one","way"]
 F_p:FunT K mg "check_most" Bj t.a_p t.d_p ["most"]
 F_w:FunT K mg "check_axes" Bi t.a_w t.d_w ["d","makers"]
 F_1d:FunT K mg "closed" s_1d t.a_1d t.d_1d pv'
 F_0:FunD K "__init__" "Group.__init__" s_0 t.a_0 t.d_0 [.int 200 t.k_0]
 bd_Group___init__:mD K t.d_0 pi' [.int 200 t.k_0]
 b_0:mD K t.d_0 pi' []
 F_g:Fun K "axes" "Group.axes" Bh t.a_g t.d_g
 b_g:mD K t.d_g pN' []
 F_c:Fun K "makers" "Group.makers" Bg t.a_c t.d_c
 b_c:mD K t.d_c pN' []
 F_2:Fun K "members" "Group.members" s_2 t.a_2 t.d_2
 b_2:mD K t.d_2 pN' []
 F_u:Fun K "at" "Group.at" Bf t.a_u t.d_u
 b_u:mD K t.d_u pH' []
 F_14:FunT K mg "group_of" s_14 t.a_14 t.d_14 ["d","deeds"]
 F_o:FunT K mg "check_moves" Be t.a_o t.d_o pw'
 F_1l:FunT K mg "grown" s_1l t.a_1l t.d_1l px'
 F_7:FunD K "changed" "changed" s_7 t.a_7 t.d_7 [.int 200 t.k_7]
 bd_changed:mD K t.d_7 pt' [.int 200 t.k_7]
 m_7:mg "changed"=some (.ref t.a_7)
 b_7:mD K t.d_7 pt' []
 F_e:FunT K mg "_law_cell_at" Bd t.a_e t.d_e pp'
 F_v:FunT K mg "_law_whole" Bc t.a_v t.d_v pI'
 F_b:FunT K mg "_law_digits" Bb t.a_b t.d_b pe'
 F_x:FunT K mg "_law_shared" Ba t.a_x t.d_x pj'
 F_f:FunT K mg "_law_place" bQ t.a_f t.d_f pk'
 F_n:FunT K mg "_law_family" dB t.a_n t.d_n pJ'
 F_9:FunT K mg "_law_rows_times" s_9 t.a_9 t.d_9 ph'
 F_1a:FunT K mg "_law_led" s_1a t.a_1a t.d_1a pn'
 F_r:FunT K mg "_law_maker" bU t.a_r t.d_r pd'
 F_17:FunT K mg "_law_step" s_17 t.a_17 t.d_17 pu'
 F_3:FunT K mg "_law_rows_there" s_3 t.a_3 t.d_3 pl'
 F_6:FunT K mg "_law_tops_there" s_6 t.a_6 t.d_6 pm'
 F_4:FunT K mg "_law_deed_there" s_4 t.a_4 t.d_4 pa'
 F_k:FunT K mg "_law_frame" dC t.a_k t.d_k pE'
 F_i:FunT K mg "_law_makers" Cz t.a_i t.d_i pf'
 F_8:FunT K mg "_law_reached" s_8 t.a_8 t.d_8 pq'
 F_z:FunT K mg "_law_rest" bV t.a_z t.d_z pK'
 F_5:FunT K mg "_law_asked_at" s_5 t.a_5 t.d_5 pg'
 F_m:FunT K mg "_law_numbers" bW t.a_m t.d_m pL'
 F_y:FunT K mg "_law_leads" Cy t.a_y t.d_y pc'
 F_l:FunT K mg "_law_other" fE t.a_l t.d_l pb'
 F_1r:FunT K mg "law" s_1r t.a_1r t.d_1r pE'
 z_any:mg "any"=none
 z_sum:mg "sum"=none
 z_zip:mg "zip"=none
 z_enumerate:mg "enumerate"=none
 z_range:mg "range"=none
 z_len:mg "len"=none
 z_abs:mg "abs"=none
 z_isinstance:mg "isinstance"=none
 z_int:mg "int"=none
 z_bool:mg "bool"=none
 z_list:mg "list"=none
 z_tuple:mg "tuple"=none
 z_sorted:mg "sorted"=none
 z_dict:mg "dict"=none
 m_1x:mg "CrystalError"=some (.ref t.a_1x)
 m_1u:mg "NoPlace"=some (.ref t.a_1u)
 m_1v:mg "NoDeed"=some (.ref t.a_1v)
 m_20:mg "TooMany"=some (.ref t.a_20)
 m_1z:mg "NoNumber"=some (.ref t.a_1z)
 m_d:mg "Group"=some (.ref t.a_d)
 m_21:mg "NotKept"=some (.ref t.a_21)
 m_1y:mg "NoChange"=some (.ref t.a_1y)
 g_MOST_MEMBERS:∃u,mg "MOST_MEMBERS"=some u/\RelV (.int 200) u
 h_d:kitOne K (.type "int") (.type "int")=some true
 h_e:kitOne K (.type "int") (.type "bool")=some false
 h_f:kitOne K (.type "tuple") (.type "tuple")=some true
 h_g:kitOne K (.type "list") (.type "list")=some true
 x_1u:PySem.W.excIn K t.a_1u [.type "ValueError",.type "Exception",.type "BaseException",.type "object"] "ValueError.__new__"=true
 x_1v:PySem.W.excIn K t.a_1v [.type "ValueError",.type "Exception",.type "BaseException",.type "object"] "ValueError.__new__"=true
 cl_d:L2.Cls K t.a_d
 mk_d:L2.Mk K t.a_d t.a_0
 me_2:L2.Meth K t.a_d "members" t.a_2
 h_3:findIn K (.ref t.a_d) "dimension"=some none
 h_c:findIn K (.ref t.a_d) "given"=some none
 h_6:findIn K (.ref t.a_d) "ordered"=some none
 h_4:findIn K (.ref t.a_d) "shortest"=some none
 h_7:findIn K (.ref t.a_d) "numbers"=some none
 me_g:L2.Meth K t.a_d "axes" t.a_g
 me_c:L2.Meth K t.a_d "makers" t.a_c
 me_u:L2.Meth K t.a_d "at" t.a_u
 bl:∀(s:Shared)(u:Value),BindsTo s t.d_1r ⟨[u],[]⟩ [("_law_script",u)]
local macro_rules | `(tactic| walk_at "r")=>`(tactic| simp only [tSeq,tAsg,pY,tVar,qVar,tC,tOp,r_H,s_Q,s_R,tUn,fU,tB,tIfS,tIf,tAnd,tOr,tNot,Kj,tOrV,Ki,tRet,s_N,Di,Ke,nL,r_E,pW,tNil,tCB,tTup,tLst,tPar,Eg,tBM,tBM0,tSl,Ax,Ay,List.getElem?_cons_zero,List.getElem?_cons_succ,Option.some.injEq,exists_eq_left',exists_eq_left,List.set_cons_zero,List.set_cons_succ,List.cons.injEq,V.int.injEq,V.bl.injEq,V.ref.injEq,and_true,true_and,List.append_nil,ne_eq,exists_and_left,and_assoc,↓reduceIte,Bool.not_true,Bool.not_false,Bool.false_eq_true])
set_option hygiene false in
local macro_rules | `(tactic|apply $e:term)=>`(tactic|refine $e (by walk_at "v") (λcdv A outer s H vs Q E hr h=>?_))
set_option hygiene false in
local macro_rules | `(tactic|left)=>`(tactic|(subst e1;refine st λN1 e1=>?_;ext))
set_option hygiene false in
local macro_rules | `(tactic|right)=>`(tactic|(refine st λN1 e1=>?_;ext))
set_option hygiene false in
local macro_rules | `(tactic|symm)=>`(tactic|(subst e1;ext))
set_option hygiene false in
local macro_rules | `(tactic|exfalso)=>`(tactic|(refine oG λB eB=>?_;simp only[iSeq];ext))
noncomputable def gcdI(a b:Int):Int:=(Int.gcd a b:Int)
noncomputable def absI(u:Int):Int:=if u<0 then -u else u
noncomputable def gl(u:Int)(ns:LI'):Int:=ns.foldl gcdI (absI u)
theorem Ro(u:Int):0<=absI u:=by unfold absI;split <;> omega
theorem Rn{d u:Int}:d∣absI u↔d∣u:=by
 unfold absI;split
 ·exact qX
 ·exact Iff.rfl
theorem Hz{d:Int}:∀(ns:LI')(c:Int),d∣ns.foldl gcdI c↔d∣c/\∀t∈ns,d∣t
 |[],c=>by simp
 | t:: r,c=>by
  rw[wK,Hz r];unfold gcdI;rw[Int.dvd_coe_gcd_iff];constructor
  ·rintro⟨⟨h1,h2⟩,h3⟩;refine⟨h1,λx hx=>?_⟩;rcases xE.mp hx with e|e
   ·rw[e];exact h2
   ·exact h3 x e
  ·rintro⟨h1,h2⟩;exact⟨⟨h1,h2 t zU⟩,λx hx=>h2 x (zM _ hx)⟩
theorem jU{d u:Int}{ns:LI'}:d∣gl u ns↔d∣u/\∀t∈ns,d∣t:=by
 unfold gl;rw[Hz,Rn]
theorem Hy:∀(ns:LI')(c:Int),0<=c->0<=ns.foldl gcdI c
 |[],_,h=>h
 |t:: r,c,_=>Hy r _ (Int.natCast_nonneg _)
theorem fF(u:Int)(ns:LI'):0<=gl u ns:=Hy ns _ (Ro u)
theorem gl_u(u:Int)(ns:LI'):gl u ns∣u:=(jU.mp (vP _)).1
theorem dD{u t:Int}{ns:LI'}(h:t∈ns):gl u ns∣t:=(jU.mp (vP _)).2 t h
theorem bX{u:Int}(ns:LI')(h:u≠0):0<gl u ns:=by
 have:=fF u ns;rcases Int.lt_or_eq_of_le this with q|q
 ·exact q
 ·obtain⟨k,e⟩:=gl_u u ns;rw[←q,tF]at e;exact absurd e h
theorem Hx{u v:Int}{ns ms:LI'}(h:∀d:Int,(d∣u/\∀t∈ns,d∣t)↔(d∣v/\∀t∈ms,d∣t)):gl u ns=gl v ms:=
 Int.dvd_antisymm (fF _ _) (fF _ _) (jU.mpr ((h _).mp (jU.mp (vP _)))) (jU.mpr ((h _).mpr (jU.mp (vP _))))
theorem Rm(u:Int)(ns:LI')(t:Int):gl u (ns++[t])=gcdI (gl u ns) t:=by unfold gl;rw[uI];rfl
noncomputable def cs(u:Int)(ns:LI'):Int:=if u<0 then -(gl u ns) else gl u ns
theorem fG{u:Int}(ns:LI')(h:u≠0):cs u ns≠0:=by
 have:=bX ns h;unfold cs;split <;> omega
theorem jA{u x:Int}{ns:LI'}(h:gl u ns∣x):cs u ns∣x:=by
 unfold cs;split
 ·exact Int.neg_dvd.mpr h
 ·exact h
theorem jB{c x:Int}(hc:c≠0)(h:c∣x):x.fdiv c*c=x:=by
 obtain⟨k,e⟩:=h;subst e;rw[wR c k,Int.mul_fdiv_cancel _ hc]
theorem Cv{u:Int}(ns:LI')(h:u≠0):0<u.fdiv (cs u ns):=by
 have e:=jB (fG ns h) (jA (gl_u u ns));have g:=bX ns h;rcases Int.lt_trichotomy (u.fdiv (cs u ns)) 0 with q|q|q
 ·refine False.elim ?_;unfold cs at e q;split at e
  ·rename_i hu;rw[zJ hu]at q;have:=Int.mul_nonneg_of_nonpos_of_nonpos (vC q) (show -(gl u ns)<=0 by omega);omega
  ·rename_i hu;rw[zI hu]at q;have:=Int.mul_neg_of_neg_of_pos q g;omega
 ·rw[q,tF]at e;exact absurd e.symm h
 ·exact q
theorem Cu{u:Int}{ns:LI'}(h:u≠0):gl (u.fdiv (cs u ns)) (ns.map λt=>t.fdiv (cs u ns))=1:=by
 have hc:=fG ns h;have e1:=jB hc (jA (gl_u u ns));have n:=fF (u.fdiv (cs u ns)) (ns.map λt=>t.fdiv (cs u ns));have d:=jU.mp (vP (gl (u.fdiv (cs u ns)) (ns.map λt=>t.fdiv (cs u ns))));generalize gl (u.fdiv (cs u ns)) (ns.map λt=>t.fdiv (cs u ns))=g at*
 have key:g*cs u ns∣gl u ns:=by
  refine jU.mpr ⟨?_,λt ht=>?_⟩
  ·have:=qD d.1 (vP (cs u ns));rw[e1]at this;exact this
  ·have:=qD (d.2 _ (qW.mpr ⟨t,ht,rfl⟩)) (vP (cs u ns));rw[jB hc (jA (dD (u:=u) ht))]at this;exact this
 have key2:g*cs u ns∣1*cs u ns:=by
  rw[uB];unfold cs at key ⊢;split at key
  ·rename_i hu;rw[zJ hu];exact qX.mpr key
  ·rename_i hu;rw[zI hu];exact key
 have:g∣1:=Int.dvd_of_mul_dvd_mul_right hc key2;have:=Int.le_of_dvd ∅ this;rcases(show g=0\/g=1 by omega) with q|q
 ·subst q;have z:=d.1;rw[Int.zero_dvd]at z;rw[z,tF]at e1;exact absurd e1.symm h
 ·exact q
theorem Hw{u:Int}{ns:LI'}(h:0<u)(g:gl u ns=1):cs u ns=1:=by
 unfold cs;rw[zI ⋯,g]
theorem Rl{u:Int}{ns:LI'}(h:0<u)(g:gl u ns=1):(ns.map λt=>t.fdiv (cs u ns))=ns/\u.fdiv (cs u ns)=u:=by
 rw[Hw h g];refine⟨?_,uZ u⟩;rw[show(λt:Int=>t.fdiv 1)=id from funext λt=>uZ t,rF]
theorem Hv{d u t:Int}(h:d∣u):d∣t.fmod u↔d∣t:=by
 rw[rV];have q:d∣u*t.fdiv u:=Int.dvd_mul_of_dvd_left h;constructor
 ·intro z;have:=qN z q
  rwa[Int.sub_add_cancel]at this
 ·intro z;exact qQ z q
theorem Rk(u:Int)(ns:LI'):gl u (ns.map λt=>t.fmod u)=gl u ns:=by
 refine Hx λd=>?_;constructor
 ·rintro⟨h1,h2⟩;exact⟨h1,λt ht=>(Hv h1).mp (h2 _ (qW.mpr ⟨t,ht,rfl⟩))⟩
 ·rintro⟨h1,h2⟩;refine⟨h1,λx hx=>?_⟩;obtain⟨t,ht,e⟩:=qW.mp hx;subst e;exact(Hv h1).mpr (h2 t ht)
theorem Rj{u:Int}(hu:0<u)(t:Int):(t.fmod u-t).fmod u=0:=by
 rw[xP t (vC hu),xP _ (vC hu)];exact Int.emod_eq_zero_of_dvd (by
  have:=Int.emod_add_mul_ediv t u;exact⟨-(t/u),by rw[Int.mul_neg];omega⟩)
theorem Hu(g l:Int):Int.gcd l (Int.fmod g l)=Int.gcd g l:=by
 rw[rV,Int.gcd_sub_mul_left_right,qI]
theorem Ri(a b:Int):Int.gcd (if a<0 then -a else a) (if b<0 then -b else b)=Int.gcd a b:=by
 split <;> split <;> simp
theorem Ht(a:Int):0<=(if a<0 then -a else a):=by split <;> omega
theorem Rh{g l a b:Int}(h:Int.gcd g l=Int.gcd a b)(hg:0<=g)(z:l=0):g=gcdI a b:=by
 rw[z,Int.gcd_zero_right]at h;unfold gcdI;rw[←h];omega
def Hs:Sp:=λvs H Q _=>∃a b,vs=[.int a,.int b]/\Q (.int (gcdI a b)) H
abbrev sp_13:Sp:=Hs
def oI(H:Hp)(p:Addr)(ns:LI')(u:Int):Prop:=∃q,H p=some (.tup [.ref q,.int u])/\H q=some (.tup (ns.map V.int))
theorem oI.up{H H':Hp}{p:Addr}{ns:LI'}{u:Int}(h:oI H p ns u)(s:Same H H'):oI H' p ns u:=let ⟨q,h1,h2⟩:=h;⟨q,s _ _ h1,s _ _ h2⟩
def lQ(n:Int):Prop:=n.natAbs<2^8990
theorem Hr{c:Int}(h:lQ c)(z:c≠0):c.natAbs.log2<9000:=zE ((tU ⋯).mpr h) ∅
theorem Hq{c u:Int}(h:lQ u)(z:u≠0)(d:c∣u):lQ c:=by
 have:=Int.natAbs_dvd_natAbs.mpr d;have:=Nat.le_of_dvd ⋯ this;unfold lQ at*
 omega
noncomputable def redT(u:Int)(ns:LI'):LI':=ns.map λt=>t.fdiv (cs u ns)
noncomputable def redU(u:Int)(ns:LI'):Int:=u.fdiv (cs u ns)
noncomputable def oO(u:Int)(ns:LI'):LI':=ns.map λt=>t.fmod u
def sp_10(K:Frag)(C:Addr):Sp:=λvs H Q E=>E4 λ(b:Bool)(a:Addr)(ns:LI')(u:Int)=>A6 (vs=[.ref a,.int u]) (SqB b K H a (ns.map V.int)) (ns.length<=100) (lQ u) (((u=0\/ns=[])->E (.ref C) none H)) ((u≠0->ns≠[]->∀p H',Same H H'->oI H' p (redT u ns) (redU u ns)->Q (.ref p) H'))
def sp_s(K:Frag):Sp:=λvs H Q _=>E3 λ(p:Addr)(ns:LI')(u:Int)=>A5 (vs=[.ref p]) (oI H p ns u) (ns.length<=100) (0<u) (∀p' H',Same H H'->oI H' p' (oO u ns) u->Q (.ref p') H')
theorem Ct{α:Type}{ns:List α}{i:Nat}{n:α}(h:ns[i]?=some n):ns.take (i+1)=ns.take i++[n]:=by
 rw[tP,h];rfl
def sp_1s(K:Frag):Sp:=λvs H Q _=>E6 λ(b1 b2:Bool)(p q:Addr)(ms ns:LI')=>A7 (vs=[.ref p,.ref q]) (SqB b1 K H p (ms.map V.int)) (SqB b2 K H q (ns.map V.int)) (ms.length=ns.length) (ms.length<=1000) ((∀(i:Nat) m n,ms[i]?=some m->ns[i]?=some n->IntMulOk m n)) (∀H',Same H H'->Q (.int (dotI ms ns)) H')
def sp_1e(K:Frag):Sp:=λvs H Q _=>E5 λ(b1 b2:Bool)(a:Addr)(rows:LM)(w:Nat)=>A7 (vs=[.ref a]) (MatB b1 b2 K H a rows) (rows≠[]) ((∀r∈rows,r.length=w)) (w<=1000) (rows.length<=1000) (∀r H',H r=none->Same H H'->MatL H' r (iE w rows)->Q (.ref r) H')
def Rg(A B:LM):Prop:=∀r∈A,∀x∈r,∀r'∈B,∀y∈r',IntMulOk x y
def sp_1m(K:Frag):Sp:=λvs H Q _=>E9 λ(b1 b2 b3 b4:Bool)(a b:Addr)(A B:LM)(w:Nat)=>A11 (vs=[.ref a,.ref b]) (MatB b1 b2 K H a A) (MatB b3 b4 K H b B) (B≠[]) ((∀r∈B,r.length=w)) ((∀r∈A,r.length=B.length)) (w<=1000) (A.length<=1000) (B.length<=1000) (Rg A B) (∀r H',H r=none->Same H H'->MatL H' r (mulM w A B)->Q (.ref r) H')
noncomputable def jC(i k:Nat)(rows:LM):LM:=(rows.eraseIdx i).map λr=>r.eraseIdx k
noncomputable def sg(k:Nat):Int:=if k%2=0 then 1 else -1
noncomputable def altS(f:Nat->Int):Nat->Int
 |0=>0
 |k+1=>altS f k+sg k*f k
noncomputable def detM:Nat->LM->Int
 |0,_=>1
 |1,rows=>(rows.getD 0 []).getD 0 0
 |n+2,rows=>altS (λk=>(rows.getD 0 []).getD k 0*detM (n+1) (jC 0 k rows)) (n+2)
def Sq(n:Nat)(rows:LM):Prop:=rows.length=n/\∀r∈rows,r.length=n
def nF(B:Nat)(rows:LM):Prop:=∀r∈rows,∀x∈r,x.natAbs<2^B
theorem Rf(k:Nat):-sg k=sg (k+1):=by
 unfold sg
 by_cases h:k%2=0
 ·rw[zJ h,zI ⋯]
 ·rw[zI h,zJ ⋯];rfl
theorem Ho(k:Nat):(sg k).natAbs=1:=by unfold sg;split <;> rfl
theorem Sq.minor{n i k:Nat}{rows:LM}(h:Sq (n+1) rows)(hi:i<n+1)(hk:k<n+1):Sq n (jC i k rows):=by
 refine⟨?_,λr hr=>?_⟩
 ·unfold jC;rw[zqe,sW,h.1,zJ hi];rfl
 ·obtain⟨z,hz,rfl⟩:=qW.mp hr;have hl:=h.2 z (tM hz);rw[sW,hl,zJ hk];rfl
theorem nF.minor{B i k:Nat}{rows:LM}(h:nF B rows):nF B (jC i k rows):=λr hr x hx=>by
 obtain⟨z,hz,rfl⟩:=qW.mp hr;exact h z (tM hz) x (tM hx)
theorem Hn{f:Nat->Int}{M:Nat}:∀n:Nat,(∀k<n,(f k).natAbs<=M)->(altS f n).natAbs<=n*M
 |0,_=>by simp[altS]
 |n+1,h=>by
  have h1:=Hn n λk hk=>h k ⋯;have h2:=h n ⋯;show(altS f n+sg n*f n).natAbs<=_;have h3:=uJ (altS f n) (sg n*f n);rw[xA,Ho,Nat.one_mul]at h3;rw[rA];omega
theorem row0{n:Nat}{rows:LM}(h:Sq (n+1) rows):rows[0]?=some (rows.getD 0 [])/\rows.getD 0 []∈rows:=by
 have hl:0<rows.length:=by have:=h.1;omega
 have e:rows.getD 0 []=rows[0]:=by simp[hl]
 rw[e];exact⟨by simp[hl],xL hl⟩
theorem Hm{B:Nat}:∀(n:Nat)(rows:LM),1<=n->n<=4->Sq n rows->nF B rows->(detM n rows).natAbs<=2^(n*(B+2))
 |0,_,h,_,_,_=>⋯
 |1,rows,_,_,hs,hb=>by
  have hr:=row0 hs;have hl:0<(rows.getD 0 []).length:=by rw[hs.2 _ hr.2];decide
  have:=hb _ hr.2 _ (L2.getD_mem hl);show((rows.getD 0 []).getD 0 0).natAbs<=_;have:2^B<=2^(1*(B+2)):=zW ∅ ⋯;omega
 | n+2,rows,_,h4,hs,hb=>by
  have hr:=row0 hs;have key:∀k<n+2,((rows.getD 0 []).getD k 0*detM (n+1) (jC 0 k rows)).natAbs<=2^B*2^((n+1)*(B+2)):=λk hk=>by
   have hl:k<(rows.getD 0 []).length:=by rw[hs.2 _ hr.2];exact hk
   have h1:=hb _ hr.2 _ (L2.getD_mem hl);have h2:=Hm (n+1) (jC 0 k rows) ⋯ ⋯ (hs.minor ⋯ hk) hb.minor;rw[xA];exact wG (xR h1) h2
  have:=Hn (n+2) key;have e:2^((n+2)*(B+2))=4*(2^B*2^((n+1)*(B+2))):=by
   rw[←wZ,show(4:Nat)=2^2 from rfl,←wZ];congr 1;rw[Nat.add_mul,Nat.add_mul];omega
  show(altS _ (n+2)).natAbs<=_;rw[e];refine yL this (wE _ ⋯)
theorem oM{x:Int}{B:Nat}(h:x.natAbs<2^B):Builtin.Int.intBits x<=B:=intBits_le_iff.mpr h
def sp_1b(K:Frag):Sp:=λvs H Q _=>E7 λ(b1 b2:Bool)(a:Addr)(rows:LM)(i k w:Nat)=>A7 (vs=[.ref a,.int i,.int k]) (MatB b1 b2 K H a rows) ((∀r∈rows,r.length=w)) (k<w) (w<=1000) (rows.length<=1000) (∀r H',H r=none->Same H H'->MatL H' r (jC i k rows)->Q (.ref r) H')
def sp_1(K:Frag):Nat->Sp
 |0=>λ_ _ _ _=>False
 |n+1=>λvs H Q _=>∃(b1 b2:Bool)(a:Addr)(rows:LM)(B:Nat),vs=[.ref a]/\MatB b1 b2 K H a rows/\Sq (n+1) rows/\n<=3/\nF B rows/\B<=1000000/\∀H',Same H H'->Q (.int (detM (n+1) rows)) H'
section
variable {g:TG} {tt:TOx} {fr:List (Str×Nat)} {σ:St} {a:Addr} {H:Hp} {Q:VK} {K:Frag}
theorem Re{b:Bool}{l:Addr}{xs:List V}(P:Nat->List V->Hp->Prop)(ha:H a=none)(hS:SqB b K H l xs)(hz:xs.length<=1000)(h0:P 0 [] (upd H a (.lst [])))
  (hl:∀i zs H1,P i zs H1->zs.length<=i)(mono:∀i zs H1 H2,P i zs H1->kA a H1 H2->P i zs H2)
  (he:∀i x H1 zs,xs[i]?=some x->Same H H1->H1 a=some (.lst zs)->P i zs H1->∀C:Option V->Hp->Prop,
   (∀y H2,Same H1 H2->P (i+1) (zs++[y]) H2->C (some y) H2)->(∀H2,Same H1 H2->P (i+1) zs H2->C none H2)->tt (some (.int i):: some x:: mE fr σ) H1 C)
  (hd:∀H1 ys,Same H H1->H1 a=some (.lst ys)->P xs.length ys H1->Q (.ref a) H1):
  mT (Ite K b l) (gTup K 2 (nC (pY 0) (nC (pY 1) gNil))) tt 2 fr σ a H Q:=by
 refine cO xs.length P ha hz h0 hl mono (λi H1 hi s=>⟨xs,xs[i],hS.up s,by simp[hi]⟩) (λH1 s=>⟨xs,hS.up s,rfl⟩) ?_ hd;intro i H1 zs hi s1 ez p os x H3 hos hy C hC1 hC2;obtain⟨q,x,rfl,hp,rfl,hx⟩:=hy;refine⟨q,[.int i,x],rfl,SqT.of pV,rfl,_,[x],rfl,x,[],rfl,rfl,?_⟩;have sn:Same H1 (upd H1 q (.tup [.int i,x])):=Same.new hp
 match os,hos with
 |[o,o'],_ =>
  exact⟨⟨[some (.int i),some x],rfl,rfl⟩,he i x _ zs (hx xs (hS.up s1)) (s1.trans sn) (sn _ _ ez) (mono _ _ _ _ p sn.x) C (λy H2 s2 r=>hC1 y H2 (sn.trans s2) r) λH2 s2 r=>hC2 H2 (sn.trans s2) r⟩
end
theorem SqB.cut{b:Bool}{K:Frag}{H:Hp}{p:Addr}{xs:List V}:SqB b K (upd H p (seqO b xs)) p xs:=by
 cases b
 ·exact SqB.lst pV
 ·exact SqB.tup pV
theorem Rc{α:Type}{rows:List α}{i0 t:Nat}{r:α}(e:rows[t]?=some r):(rows.take (t+1)).eraseIdx i0=if t=i0 then(rows.take t).eraseIdx i0 else(rows.take t).eraseIdx i0++[r]:=by
 have ht:t<rows.length:=(zqa e).1;have hl:(rows.take t).length=t:=by rw[yW];omega
 rw[tP,e];show(rows.take t++[r]).eraseIdx i0=_
 by_cases h:t=i0
 ·rw[zJ h,vL ⋯,hl,h,tJ,uU (l:=rows.take i0) (by rw[yW];omega)];simp
 ·rw[zI h]
  by_cases h2:i0<t
  ·rw[List.eraseIdx_append_of_lt_length ⋯]
  ·rw[vL ⋯,hl,uU (l:=rows.take t) ⋯];congr 1;rw[uU];simp;omega
theorem Hl{B C:Nat}:∀(ms ns:LI'),(∀x∈ms,x.natAbs<2^B)->(∀y∈ns,y.natAbs<2^C)->(dotI ms ns).natAbs<=ms.length*2^(B+C)
 |[],ns,_,_=>by simp[dotI]
 |m:: ms,[],_,_=>by simp[dotI]
 | m:: ms,n:: ns,h1,h2=>by
  have ih:=Hl ms ns (λx hx=>h1 x (zM _ hx)) (λy hy=>h2 y (zM _ hy));have e:dotI (m:: ms) (n:: ns)=m*n+dotI ms ns:=by simp[dotI]
  have hm:=h1 m zU;have hn:=h2 n zU;have h3:(m*n).natAbs<=2^(B+C):=by
   rw[xA,wZ];exact wG (xR hm) (xR hn)
  have h4:=uJ (m*n) (dotI ms ns);rw[e,zY,rA];omega
noncomputable def idM(d:Nat):LM:=(List.range d).map λi=>(List.range d).map λk=>if i=k then(1:Int) else 0
def sp_h:Sp:=λvs H Q _=>E1 λ(n:Nat)=>A3 (vs=[.int n]) (n<=1000) (∀r H',H r=none->Same H H'->MatL H' r (idM n)->Q (.ref r) H')
def nZ(K:Frag)(H:Hp)(p:Addr)(M:LM)(ts:LI')(u:Int):Prop:=∃pr pt,H p=some (.tup [.ref pr,.ref pt,.int u])/\MatB true true K H pr M/\H pt=some (.tup (ts.map V.int))
theorem nZ.up{K:Frag}{H H':Hp}{p:Addr}{M:LM}{ts:LI'}{u:Int}(h:nZ K H p M ts u)(s:Same H H'):nZ K H' p M ts u:=let ⟨pr,pt,h1,h2,h3⟩:=h;⟨pr,pt,s _ _ h1,h2.up s,s _ _ h3⟩
def sp_19(K:Frag):Sp:=λvs H Q _=>E7 λ(b1 b2:Bool)(a p:Addr)(M:LM)(ts:LI')(u:Int)=>A5 (vs=[.ref a,.ref p]) (MatB b1 b2 K H a M) (oI H p ts u) (M.length<=100) (∀q H',Same H H'->nZ K H' q M ts u->Q (.ref q) H')
def PlS(K:Frag)(H:Hp)(p:Addr)(ns:LI')(u:Int):Prop:=∃q,SqT K H p [.ref q,.int u]/\SqT K H q (ns.map V.int)
theorem oI.s{K:Frag}{H:Hp}{p:Addr}{ns:LI'}{u:Int}(h:oI H p ns u):PlS K H p ns u:=let ⟨q,h1,h2⟩:=h;⟨q,SqT.of h1,SqT.of h2⟩
theorem PlS.up{K:Frag}{H H':Hp}{p:Addr}{ns:LI'}{u:Int}(h:PlS K H p ns u)(s:Same H H'):PlS K H' p ns u:=let ⟨q,h1,h2⟩:=h;⟨q,nM s _ _ h1,nM s _ _ h2⟩
theorem jV{K:Frag}{H:Hp}{p:Addr}{ns:LI'}{u:Int}{Q:VK}(h:PlS K H p ns u)(k:∀q,SqT K H q (ns.map V.int)->Q (.ref q) H):rIxB K (.ref p) (.int 0) H Q:=let ⟨q,h1,h2⟩:=h;⟨true,p,_,_,_,rfl,rfl,(h1:SqB true K H p _),rfl,k q h2⟩
theorem gD{K:Frag}{H:Hp}{p:Addr}{ns:LI'}{u:Int}{Q:VK}(h:PlS K H p ns u)(k:Q (.int u) H):rIxB K (.ref p) (.int 1) H Q:=let ⟨q,h1,h2⟩:=h;⟨true,p,_,_,_,rfl,rfl,(h1:SqB true K H p _),rfl,k⟩
def kJ(K:Frag)(H:Hp)(p:Addr)(M:LM)(ts:LI')(u:Int):Prop:=∃v0 v1,SqT K H p [.ref v0,.ref v1,.int u]/\MatB true true K H v0 M/\SqT K H v1 (ts.map V.int)
theorem kJ.up{K:Frag}{H H':Hp}{p:Addr}{M:LM}{ts:LI'}{u:Int}(h:kJ K H p M ts u)(s:Same H H'):kJ K H' p M ts u:=let ⟨v0,v1,h1,h2,h3⟩:=h;⟨v0,v1,nM s _ _ h1,h2.up s,nM s _ _ h3⟩
theorem nZ.s{K:Frag}{H:Hp}{p:Addr}{M:LM}{ts:LI'}{u:Int}(h:nZ K H p M ts u):kJ K H p M ts u:=let ⟨v0,v1,h1,h2,h3⟩:=h;⟨v0,v1,SqT.of h1,h2,SqT.of h3⟩
theorem dE{K:Frag}{H:Hp}{p:Addr}{M:LM}{ts:LI'}{u:Int}{Q:VK}(h:kJ K H p M ts u)(q:∀x,MatB true true K H x M->Q (.ref x) H):rIxB K (.ref p) (.int 0) H Q:=let ⟨x,y,h1,h2,h3⟩:=h;⟨true,p,_,_,_,rfl,rfl,(h1:SqB true K H p _),rfl,q x h2⟩
theorem Hk{K:Frag}{H:Hp}{p:Addr}{M:LM}{ts:LI'}{u:Int}{Q:VK}(h:kJ K H p M ts u)(q:∀x,SqT K H x (ts.map V.int)->Q (.ref x) H):rIxB K (.ref p) (.int 1) H Q:=let ⟨x,y,h1,h2,h3⟩:=h;⟨true,p,_,_,_,rfl,rfl,(h1:SqB true K H p _),rfl,q y h3⟩
theorem Cs{K:Frag}{H:Hp}{p:Addr}{M:LM}{ts:LI'}{u:Int}{Q:VK}(h:kJ K H p M ts u)(q:Q (.int u) H):rIxB K (.ref p) (.int 2) H Q:=let ⟨x,y,h1,h2,h3⟩:=h;⟨true,p,_,_,_,rfl,rfl,(h1:SqB true K H p _),rfl,q⟩
noncomputable def movT(M:LM)(ts:LI')(u:Int)(ns:LI')(v:Int):LI':=List.zipWith (λr t=>dotI r ns*u+t*v) M ts
def nA(B:Nat)(ns:LI'):Prop:=∀x∈ns,x.natAbs<2^B
structure Fine(d:Nat)(M:LM)(ts:LI')(u:Int):Prop where
 sq:Sq d M
 len:ts.length=d
 pos:0<u
 bm:nF 200000 M
 bt:nA 200000 ts
 bu:u<2^1500
def sp_1i(K:Frag):Sp:=λvs H Q _=>E8 λ(p q:Addr)(M:LM)(ts ns:LI')(u v:Int)(d:Nat)=>A11 (vs=[.ref p,.ref q]) (kJ K H p M ts u) (PlS K H q ns v) (Fine d M ts u) (1<=d) (d<=4) (ns.length=d) (nA 200000 ns) (0<v) (v<2^1500) (∀r H',Same H H'->oI H' r (redT (u*v) (movT M ts u ns v)) (redU (u*v) (movT M ts u ns v))->Q (.ref r) H')
def sp_1g(K:Frag):Sp:=λvs H Q _=>E9 λ(p q:Addr)(M N:LM)(ts ns:LI')(u v:Int)(d:Nat)=>A8 (vs=[.ref p,.ref q]) (kJ K H p M ts u) (kJ K H q N ns v) (Fine d M ts u) (Fine d N ns v) (1<=d) (d<=4) (∀r H',Same H H'->nZ K H' r (mulM d N M) (redT (v*u) (movT N ns v ts u)) (redU (v*u) (movT N ns v ts u))->Q (.ref r) H')
def sp_1q(K:Frag):Sp:=λvs H Q _=>E4 λ(p:Addr)(M:LM)(ts:LI')(u:Int)=>A6 (vs=[.ref p]) (nZ K H p M ts u) (M.length<=100) (ts.length<=100) (0<u) (∀r H',Same H H'->nZ K H' r M (oO u ts) u->Q (.ref r) H')
theorem fH{u:Int}(h1:0<u)(h2:u<2^1500):u.natAbs<2^1500:=by
 have e:((2^1500:Nat):Int)=(2:Int)^1500:=nofun
 omega
theorem lR{u:Int}{B:Nat}(h:u.natAbs<2^B)(hB:B<=8990):lQ u:=zE h (zW ∅ hB)
theorem Rb{u v:Int}(h1:0<u)(h2:u<2^1500)(h3:0<v)(h4:v<2^1500):lQ (u*v)/\0<u*v:=by
 refine⟨lR (B:=1500+1500) ?_ ∅,yX h1 h3⟩;rw[xA,wZ];exact sF (fH h1 h2) (fH h3 h4)
theorem nF.le{B C:Nat}{M:LM}(h:nF B M)(hc:B<=C):nF C M:=λr hr x hx=>zE (h r hr x hx) (zW ∅ hc)
section
variable {P:Program} {w:World} {K:Frag} {mg:MT} {base:Heap} {t:Adr}
theorem Cr{ns:LI'}{k:Int}(h0:0<=k)(h1:k<ns.length):atI (ns.map V.int) k=some (.int (ns.getD k.toNat 0)):=by
 obtain⟨j,rfl⟩:=xG h0;exact nY (mU (getD_at ⋯)) rfl
def sp_e(K:Frag):Sp:=λvs H Q _=>E3 λ(p:Addr)(ns:LI')(k:Int)=>A4 (vs=[.ref p,.int k]) (SqL K H p (ns.map V.int)) (0<=k) (Q (.int (ns.getD k.toNat 0)) H)
def sp_v:Sp:=λvs H Q _=>∃i,vs=[.int i]/\Q (.bl true) H
theorem ok_e(T:Txt K mg t):FnOk P w K mg base CX0 1 t.a_e t.d_e pp' (sp_e K):=by
 apply T.F_e.ok sc_e
 ·obtain⟨p,ns,k,rfl,hS,h0,q⟩:=h;refine⟨_,(pM (oU (oR fS (pq 1) (oS T.z_len (pq 0)) (oP _))
   (pQ (oA (nD ix_B (pq 0) (pq 1) (λ_ _=>rfl))))
   oY)
   (pQ (oA pR))),?_⟩
  show tSeq _ _ _ [some (.ref p),some (.int k)] H;ext;refine nU (b:=false) hS ?_;ext
  by_cases z:k<ns.length
  ·rw[zK z];exact iteT ⟨false,p,_,_,_,rfl,rfl,hS,Cr h0 z,q⟩
  ·rw[zN z];refine iteF ?_;have e:ns.getD k.toNat 0=0:=by
    rw[zqc,vI ⋯];rfl
   rw[e]at q;exact q
theorem ok_v(T:Txt K mg t):FnOk P w K mg base CX0 1 t.a_v t.d_v pI' sp_v:=by
 apply T.F_v.ok sc_v
 ·obtain⟨i,rfl,q⟩:=h;refine⟨_,(pQ (oA (Kg (mJ cJ rfl T.z_isinstance (nofun) (pK (pq 0) (pK (dZ (v:=.ty "int") rfl T.z_int (nofun) rfl) pL))) (Kh (Kf (mJ cJ rfl T.z_isinstance (nofun) (pK (pq 0) (pK (dZ (v:=.ty "bool") rfl T.z_bool (nofun) rfl) pL)))))))),?_⟩;show tRet _ _ [some (.int i)] H;ext;refine⟨_,_,_,_,rfl,.ty (.int i),rfl,T.h_d,?_⟩;ext;refine⟨_,_,_,_,rfl,.ty (.int i),rfl,T.h_e,?_⟩;ext;exact q
theorem Ra{a b:Int}{H:Hp}{Q:VK}{E:XK}:Hs [.int a,.int b] H Q E=Q (.int (gcdI a b)) H:=propext ⟨λ⟨_,_,e,q⟩=>by cases e;exact q,λq=>⟨_,_,rfl,q⟩⟩
theorem ok_13(T:Txt K mg t):FnOk P w K mg base CX0 1 t.a_13 t.d_13 pC' sp_13:=by
 apply T.F_13.ok sc_13
 ·obtain⟨a,b,rfl,k⟩:=h;refine⟨_,(pM (pZ (i:=2) sc_13.nd rfl (Or.inl rfl) (mJ gO rfl T.z_abs (nofun) (pK (pq 0) pL)))
   (pM (pZ (i:=3) sc_13.nd rfl (Or.inl rfl) (mJ gO rfl T.z_abs (nofun) (pK (pq 1) pL)))
   (pM (aT yS (oR lW (pq 3) pR (oP _))
   (pM (pZ (i:=4) sc_13.nd rfl (Or.inl rfl) (pO nN (pq 2) (pq 3)))
   (pM (pZ (i:=2) sc_13.nd rfl (Or.inl rfl) (pq 3))
   (pQ (pZ (i:=3) sc_13.nd rfl (Or.inl rfl) (pq 4))))))
   (pQ (oA (pq 2)))))),?_⟩
  show tSeq _ _ _ [some (.int a),some (.int b),none,none,none] H;ext;refine⟨λm σ H1=>∃g l r,σ=[some (.int a),some (.int b),some (.int g),some (.int l),r]/\H1=H/\0<=g/\0<=l/\Int.gcd g l=Int.gcd a b/\m=l.toNat,
   ⟨_,_,_,_,rfl,rfl,Ht a,Ht b,Ri a b,rfl⟩,?_⟩
  rintro m σ H1 ⟨g,l,r,rfl,rfl,hg,hl,e,rfl⟩;ext
  by_cases z:l=0
  ·rw[zK z];refine iteF ?_;rw[Rh e hg z];exact k
  ·rw[zN z];refine iteT ⟨λσ' H'=>σ'=[some (.int a),some (.int b),some (.int l),some (.int (g.fmod l)),some (.int (g.fmod l))]/\H'=H1,?_,z,rfl,rfl⟩;rintro σ' H' ⟨rfl,rfl⟩;have l1:=tH g (show 0<l by omega);have l2:=uC g (show 0<l by omega);exact⟨(g.fmod l).toNat,⋯,_,_,_,rfl,rfl,hl,l2,by rw[Hu];exact e,rfl⟩
theorem ok_10(T:Txt K mg t):FnOk P w K mg base (CX1 P w) 2 t.a_10 t.d_10 ["tops","under"] (sp_10 K t.a_1u):=by
 have G_13:=@ok_13 P w K mg base t T;refine T.F_10.okX sc_10 (λvs H Q E h=>?_) (λcdv A outer s H vs Q E hr h=>?_)
 ·obtain⟨b,a,ns,u,rfl,_⟩:=h;rfl
 ·obtain⟨b,a,ns,u,rfl,hS,hl,su,hE,hQ⟩:=h;refine⟨_,(pM (oU (oR mS (pq 1) pR (oP _))
   (pQ (gR rfl gQ rfl T.m_1u T.x_1u wB (pK gJ pL)))
   oY)
   (pM (oU (oR mS (oS T.z_len (pq 0)) pR (oP _))
   (pQ (gR rfl gQ rfl T.m_1u T.x_1u wB (pK gJ pL)))
   oY)
   (pM (pZ (i:=2) sc_10.nd rfl (Or.inr rfl) (mJ gO rfl T.z_abs (nofun) (pK (pq 1) pL)))
   (pM (PS.nox (mX yS rfl (oH (pq 0)) (oV (i:=3) sc_10.nd rfl (Or.inl rfl))
   (pQ (pZ (i:=2) sc_10.nd rfl (Or.inr rfl) (pU G_13 hr.mo T.F_13 (pK (pq 2) (pK (pq 3) pL)))))))
   (pM (oU (oR fS (pq 1) pR (oP _))
   (pQ (pZ (i:=2) sc_10.nd rfl (Or.inr rfl) (gM gN (pq 2))))
   oY)
   (pQ (oA (nJ (pK (nS lO rfl T.z_tuple (nofun) (pK (oX (sc:=pN s_10) (N:=N_10) (fr:=[("common",2)]) (te:=(tOp (rI lH λi j=>.int (i.fdiv j)) (tVar 0) (tVar 1))) rfl rfl (nofun) rfl (nofun) (oH (pq 0)) (λ_ _ _ hE1=>(pO nX (pv 0) (pv 1)))) pL)) (pK (pO nX (pq 1) (pq 2)) pL)))))))))),?_⟩
  show tSeq _ _ _ [some (.ref a),some (.int u),none,none] H;refine st λN1 e1=>?_;simp only[jR];ext;refine ite2 (λz=>⟨∅,hE (.inl (yM z))⟩) (λz=>?_);have hu:u≠0:=λq=>z (zK q);subst e1;refine st λN1 e1=>?_;simp only[jR];ext;refine nU hS ?_;ext;refine ite2 (λz=>⟨∅,hE (.inr ?_)⟩) (λz=>?_)
  ·have:=yM z;exact List.eq_nil_of_length_eq_zero ⋯
  have hne:ns≠[]:=λq=>z (zK (by rw[q];rfl));left;subst e1;refine st λN1 e1=>mZ λB eB=>?_;simp only[iSeq];ext;refine⟨b,⟨_,hS⟩,?_⟩;refine kI (g:=pY 3) (tb:=B) (λi σ H1=>∃v3,σ=[some (.ref a),some (.int u),some (.int (gl u (ns.take i))),v3]/\H1=H) ⟨_,rfl,rfl⟩ (λi σ H1 _⟨_,_,e⟩=>e ▸ hS) ?_ ?_
  ·rintro i x σ H1 hi ⟨v3,rfl,rfl⟩;obtain⟨n,hn,rfl⟩:=nQ hi;subst eB;ext;simp only[Ra];rw[Ct hn,Rm]
   first|trivial|exact⟨_,rfl,rfl⟩
  ·rintro σ H1 ⟨v3,rfl,rfl⟩;rw[zqe,vS];subst e1;refine st λN2 e2=>?_;have key2:N2 [some (.ref a),some (.int u),some (.int (cs u ns)),v3] H1:=by
    subst e2;have sc1:lQ (cs u ns):=Hq su hu (jA (gl_u u ns));have hd:∀x,lH x (cs u ns):=λx=>⟨fG ns hu,Hr sc1 (fG ns hu)⟩;ext;exfalso;refine⟨b,⟨_,hS⟩,λa1 ha1=>oT (λj y _=>∃n,ns[j]?=some n/\y=.int (n.fdiv (cs u ns))) ha1 hS (by rw[zqe];omega) (λ_ _ _ _ r _=>r) ?_ ?_⟩
    ·intro i x H2 zs hx _ _ Q' hQ';obtain⟨n,hn,rfl⟩:=nQ hx;subst eB;show tOp _ _ _ [some (.int n),some (.int (cs u ns))] H2 Q';ext;exact⟨hd n,hQ' _ H2 (Same.refl _) ⟨n,hn,rfl⟩⟩
    ·intro H2 ys s1 e1 hly hr2;have ey:ys=(redT u ns).map V.int:=by
      unfold redT;rw[xV];exact oZ (by simpa using hly) hr2
     subst ey;refine⟨a1,_,rfl,.inl ⟨SqL.of e1,λl hl1=>?_⟩⟩;ext;refine⟨hd u,(by show 2<=sizeLine;decide),λp hp=>hQ hu hne p _ ((s1.trans (Same.new hl1)).trans (Same.new hp)) ⟨l,pV,?_⟩⟩;rw[oE (nK pV hp)];exact pV
   ext;unfold cs at key2;refine ite2 (λz=>?_) (λz=>?_)
   ·rw[zJ (yM z)]at key2;exact key2
   ·rw[zI (λq=>z (zK q))]at key2;exact key2
theorem kC{H:Hp}{p:Addr}{ns:LI'}{u:Int}{Q:VK}(h:oI H p ns u)(q:∀x,H x=some (.tup (ns.map V.int))->Q (.ref x) H):rIxB K (.ref p) (.int 0) H Q:=let ⟨x,h1,h2⟩:=h;⟨true,p,_,_,_,rfl,rfl,SqB.tup h1,rfl,q x h2⟩
theorem jD{H:Hp}{p:Addr}{ns:LI'}{u:Int}{Q:VK}(h:oI H p ns u)(q:Q (.int u) H):rIxB K (.ref p) (.int 1) H Q:=let ⟨x,h1,h2⟩:=h;⟨true,p,_,_,_,rfl,rfl,SqB.tup h1,rfl,q⟩
theorem ok_s(T:Txt K mg t):FnOk P w K mg base CX0 1 t.a_s t.d_s pO' (sp_s K):=by
 apply T.F_s.ok sc_s
 ·obtain⟨p,ns,u,rfl,hP,hl,hu,hQ⟩:=h;refine⟨_,(pM (pZ (i:=1) sc_s.nd rfl (Or.inr rfl) (pS (pq 0)))
   (pQ (oA (nJ (pK (nS lO rfl T.z_tuple (nofun) (pK (oX (sc:=pN bO) (N:=N_s) (fr:=[("under",1)]) (te:=(tOp (rI (λ_ j=>j≠0) λi j=>.int (i.fmod j)) (tVar 0) (tVar 1))) rfl rfl (nofun) rfl (nofun) (oH (pS (pq 0))) (λ_ _ _ hE1=>(pO nN (pv 0) (pv 1)))) pL)) (pK (pq 1) pL)))))),?_⟩
  show tSeq _ _ _ [some (.ref p),none] H;right;refine jD hP ?_;symm;exfalso;refine kC hP λx hx=>⟨true,x,rfl,⟨_,SqB.tup hx⟩,λa1 ha1=>oT (λj y _=>∃n,ns[j]?=some n/\y=.int (n.fmod u)) ha1 (SqB.tup hx) (by rw[zqe];omega) (λ_ _ _ _ r _=>r) ?_ ?_⟩
  ·intro i x H1 zs hx _ _ Q' hQ';obtain⟨n,hn,rfl⟩:=nQ hx;subst eB;show tOp _ _ _ [some (.int n),some (.int u)] H1 Q';ext;exact⟨⋯,hQ' _ H1 (Same.refl _) ⟨n,hn,rfl⟩⟩
  ·intro H1 ys s1 e1 hly hr2;have ey:ys=(oO u ns).map V.int:=by
    unfold oO;rw[xV];exact oZ (by simpa using hly) hr2
   subst ey;refine⟨a1,_,rfl,.inl ⟨SqL.of e1,λl hl1=>?_⟩⟩;refine⟨(by show 2<=sizeLine;decide),λp' hp'=>hQ p' _ ((s1.trans (Same.new hl1)).trans (Same.new hp')) ⟨l,pV,?_⟩⟩;rw[oE (nK pV hp')];exact pV
theorem ok_1s(T:Txt K mg t):FnOk P w K mg base CX0 1 t.a_1s t.d_1s pC' (sp_1s K):=by
 apply T.F_1s.ok sc_1s
 ·obtain⟨b1,b2,p,q,ms,ns,rfl,h1,h2,hl,hz,hm,hQ⟩:=h;refine⟨_,(pQ (oA (mJ (An rfl) rfl T.z_sum (nofun) (pK (lY (xs:=["left","right"]) (fr:=[]) (g:=(gTup K 2 (nC (pY 0) (nC (pY 1) gNil)))) (tt:=(tEl (tOp (rI (λi j=>IntMulOk i j) λi j=>.int (i*j)) (tVar 0) (tVar 1)))) (mF (sc:=pN s_1s) (N:=N_1s) rfl rfl (nofun)) rfl (Ao rfl T.z_zip (pK (pq 0) (pK (pq 1) pL))) (λ_ _ _ hE1=>(lE rfl (nB (lZ (N:=["left","right"]) (i:=0) hE1 rfl (nofun)) (nB (lZ (N:=["left","right"]) (i:=1) hE1 rfl (nofun)) lD)))) (λ_ _ _ hE1=>(mK (pO oW (pv 0) (pv 1))))) pL)))),?_⟩;show tRet _ _ [some (.ref p),some (.ref q)] H;ext;refine oG λB eB=>?_;simp only[iZip];ext;refine⟨b1,⟨_,h1⟩,b2,⟨_,h2⟩,λa ha=>?_⟩;refine Am (λj y _=>∃m n,ms[j]?=some m/\ns[j]?=some n/\y=.int (m*n)) ha h1 h2 (by simpa using hl) (by simpa using hz) (λ_ _ _ _ r _=>r) ?_ ?_
  ·intro i x y H1 zs ex ey s1 ez Q' hQ';obtain⟨m,em,rfl⟩:=nQ ex;obtain⟨n,en,rfl⟩:=nQ ey;subst eB;show tOp _ _ _ [some (.int m),some (.int n)] H1 Q';ext;exact⟨hm i m n em en,hQ' _ _ (Same.refl _) ⟨m,n,em,en,rfl⟩⟩
  ·intro H1 zs s1 ez hlz hr';have ey:zs=(List.zipWith (·*·) ms ns).map V.int:=by
    refine oZ (by simp at hlz ⊢;omega) λj y e=>?_;obtain⟨m,n,em,en,rfl⟩:=hr' j y e;exact⟨m*n,by rw[yK,em,en],rfl⟩
   subst ey;exact⟨_,rfl,_,SqL.of ez,hQ H1 s1⟩
theorem ok_1e(T:Txt K mg t):FnOk P w K mg base CX0 1 t.a_1e t.d_1e pM' (sp_1e K):=by
 apply T.F_1e.ok sc_1e
 ·obtain⟨b1,b2,a,rows,w,rfl,hM,hne,hw,hw1,hl1,hQ⟩:=h;refine⟨_,(pQ (oA (lY (xs:=["k"]) (fr:=[("rows",0)]) (g:=(pY 0)) (tt:=(tEl (nE (iSeq K (tVar 1)) (pY 0) (tEl (tOp (rIxB K) (tVar 0) (tVar 1))) 1 [("k",0)]))) (mF (sc:=pN s_1e) (N:=N_1e) rfl rfl (nofun)) rfl (nW rfl T.z_range (pK (oS T.z_len (pS (pq 0))) pL)) (λ_ _ _ hE1=>(kH (N:=["k","rows"]) (i:=0) hE1 rfl (nofun) rfl)) (λ_ _ _ hE1=>(mK (oX (N:=["k","rows"]) (fr:=[("k",0)]) (te:=(tOp (rIxB K) (tVar 0) (tVar 1))) hE1 rfl (nofun) rfl (nofun) (oH (pv 1)) (λ_ _ _ hE2=>(nD ix_B (pv 0) (pv 1) (λ_ _=>rfl))))))))),?_⟩;show tRet _ _ [some (.ref a)] H;ext;refine oG λB eB=>?_;simp only[nI];ext;obtain⟨r0,e0⟩:∃r0,rows[0]?=some r0:=by cases rows with|nil=>exact absurd rfl hne|cons r _=>exact⟨r,rfl⟩
  have w0:r0.length=w:=hw r0 (zqb e0);obtain⟨ps,p,k1,k2,k3,k4⟩:=hM.row e0;refine⟨b1,a,_,0,_,rfl,rfl,k1,nY k2 rfl,b2,p,_,rfl,k4,?_⟩;rw[zqe,w0];refine⟨_,rfl,⋯,⋯,λa1 ha1=>?_⟩;rw[zS];refine mG (RowR a1 λk=>colI k rows) ha1 hw1 (RowR.mono (a:=a1)) ?_ ?_
  ·intro i H1 zs hi s1 ez Q' hQ';subst eB;show nE _ _ _ _ _ [some (.int (0+(i:Int))),some (.ref a)] H1 Q';exfalso;obtain⟨xs,x1,x2,x3⟩:=(hM.up s1).walk;refine⟨b1,⟨_,x1⟩,λa2 ha2=>?_⟩;refine oT (λj y _=>∃r,rows[j]?=some r/\y=.int (r.getD i 0)) ha2 x1 ⋯ (λ_ _ _ _ r _=>r) ?_ ?_
   ·intro j x H2 zs2 ex s2 ez2 Q2 hQ2;obtain⟨p,r,rfl,er,hp⟩:=x3 j x ex;subst eB;show tOp _ _ _ [some (.ref p),some (.int (0+(i:Int)))] H2 Q2;ext;have hri:i<r.length:=by rw[hw r (zqb er)];exact hi
    exact⟨b2,p,_,_,_,rfl,rfl,hp.up s2,nY (mU (getD_at hri)) ⋯,hQ2 _ _ (Same.refl _) ⟨r,er,rfl⟩⟩
   ·intro H2 ys s2 e2 hly hr2;have ey:ys=(colI i rows).map V.int:=by
     refine oZ (by simp[colI];omega) λj y e=>?_;obtain⟨r,er,rfl⟩:=hr2 j y e;exact⟨r.getD i 0,by unfold colI;rw[zC,er];rfl,rfl⟩
    subst ey;exact hQ' _ _ s2 ⟨a2,rfl,yE (nK ez ha2),e2⟩
  ·intro H1 ys s1 e1 hly hr1;have:=MatL.of e1 hr1;rw[hly]at this;exact hQ a1 H1 ha1 s1 this
theorem ok_1m(T:Txt K mg t):FnOk P w K mg base CX0 2 t.a_1m t.d_1m pC' (sp_1m K):=by
 have G_1e:=@ok_1e P w K mg base t T;have G_1s:=@ok_1s P w K mg base t T;apply T.F_1m.ok sc_1m
 ·obtain⟨b1,b2,b3,b4,a,b,MA,MB,w,rfl,hA,hB,hne,hw,hwA,hw1,hlA,hlB,hmul,hQ⟩:=h;refine⟨_,(pM (pZ (i:=2) sc_1m.nd rfl (Or.inr rfl) (pU G_1e hr.mo T.F_1e (pK (pq 1) pL)))
   (pQ (oA (lY (xs:=["row"]) (fr:=[("columns",2)]) (g:=(pY 0)) (tt:=(tEl (nE (iSeq K (tVar 1)) (pY 0) (tEl (nL (sp_1s K) [] E0 (pW (tVar 1) (pW (tVar 0) tNil)))) 1 [("row",0)]))) (mF (sc:=pN s_1m) (N:=N_1m) rfl rfl (nofun)) rfl (oH (pq 0)) (λ_ _ _ hE1=>(kH (N:=["row","columns"]) (i:=0) hE1 rfl (nofun) rfl)) (λ_ _ _ hE1=>(mK (oX (N:=["row","columns"]) (fr:=[("row",0)]) (te:=(nL (sp_1s K) [] E0 (pW (tVar 1) (pW (tVar 0) tNil)))) hE1 rfl (nofun) rfl (nofun) (oH (pv 1)) (λ_ _ _ hE2=>(pU G_1s hr.mo T.F_1s (pK (pv 1) (pK (pv 0) pL))))))))))),?_⟩
  show tSeq _ _ _ [some (.ref a),some (.ref b),none] H;right;refine⟨b3,b4,b,MB,w,rfl,hB,hne,hw,hw1,hlB,λc H1 hc s1 hC=>?_⟩;symm;exfalso;obtain⟨xs,x1,x2,x3⟩:=(hA.up s1).walk;refine⟨b1,⟨_,x1⟩,λa1 ha1=>?_⟩;refine oT (RowR a1 λj=>(List.range w).map λk=>dotI (MA.getD j []) (colI k MB)) ha1 x1 ⋯ (RowR.mono (a:=a1)) ?_ ?_
  ·intro i x H2 zs ex s2 ez Q' hQ';obtain⟨p,r,rfl,er,hp⟩:=x3 i x ex;have erD:MA.getD i []=r:=by rw[zqc,er];rfl
   have hrl:r.length=MB.length:=hwA r (zqb er);subst eB;show nE _ _ _ _ _ [some (.ref p),some (.ref c)] H2 Q';exfalso;obtain⟨zs2,z1,z2,z3⟩:=((hC.up s2).b (K:=K)).walk;refine⟨false,⟨_,z1⟩,λa2 ha2=>?_⟩;have hlen:(iE w MB).length=w:=by simp[iE]
   refine oT (λj y _=>y=.int (dotI r (colI j MB))/\j<w) ha2 z1 ⋯ (λ_ _ _ _ r _=>r) ?_ ?_
   ·intro j y H3 zs3 ey s3 ez3 Q2 hQ2;obtain⟨q,col,rfl,ec,hq⟩:=z3 j y ey;have hj:j<w:=by have:=(zqa ec).1;omega
    have ecol:col=colI j MB:=by
     unfold iE at ec;rw[zC,yO hj]at ec;exact(zR ec).symm
    subst eB ecol;show nL _ _ _ _ [some (.ref q),some (.ref p)] H3 Q2;ext;refine⟨b2,false,p,q,r,colI j MB,rfl,(hp.up s2).up s3,hq.up s3,by simp[colI,hrl],⋯,λi2 m n e1 e2=>?_,λH4 s4=>hQ2 _ _ s4 ⟨rfl,hj⟩⟩;unfold colI at e2;rw[zC]at e2;cases eb:MB[i2]? with
    |none=>rw[eb]at e2;cases e2
    |some rb =>
     rw[eb]at e2;have e2':rb.getD j 0=n:=zR e2;subst e2';have hrb:=zqb eb;exact hmul r (zqb er) m (zqb e1) rb hrb _ (L2.getD_mem (by rw[hw rb hrb];exact hj))
   ·intro H3 ys s3 e3 hly hr3;have ey:ys=((List.range w).map λk=>dotI r (colI k MB)).map V.int:=by
     refine oZ (by simp;omega) λj y e=>?_;obtain⟨rfl,hj⟩:=hr3 j y e;exact⟨_,by rw[zC,yO hj];rfl,rfl⟩
    subst ey;exact hQ' _ _ s3 ⟨a2,rfl,yE (nK ez ha2),by dsimp only;rw[erD];exact e3⟩
  ·intro H2 ys s2 e2 hly hr2;have:=MatL.of e2 hr2;have e:(List.range ys.length).map (λj=>(List.range w).map λk=>dotI (MA.getD j []) (colI k MB))=mulM w MA MB:=by
    rw[hly,x2];unfold mulM;refine xM (by simp) λi h1 h2=>?_;simp at h1;simp[h1]
   rw[e]at this;have hn:H a1=none:=by
    cases q:H a1 with
    |none=>rfl
    |some o=>rw[s1 _ _ q]at ha1;cases ha1
   exact hQ a1 H2 hn (s1.trans s2) this
theorem ok_1b(T:Txt K mg t):FnOk P w K mg base CX0 1 t.a_1b t.d_1b pz' (sp_1b K):=by
 apply T.F_1b.ok sc_1b
 ·obtain⟨b1,b2,a,rows,i0,k,w,rfl,hM,hw,hk,hw1,hl1,hQ⟩:=h;refine⟨_,(pQ (oA (lY (xs:=["at","row"]) (fr:=[("i",1),("k",2)]) (g:=(gTup K 2 (nC (pY 0) (nC (pY 1) gNil)))) (tt:=(jS (fU (tOp (rI0 λi j=>.bl (!decide (i=j))) (tVar 0) (tVar 2))) (tOp rCat (tCB (eH K) (pW (tSl (rSlB K) (tVar 1) Ay (Ax (tVar 3))) tNil)) (tCB (eH K) (pW (tSl (rSlB K) (tVar 1) (Ax (tOp (rI0 λi j=>.int (i+j)) (tVar 3) (tC (.int 1)))) Ay) tNil))))) (mF (sc:=pN s_1b) (N:=N_1b) rfl rfl (nofun)) rfl (cN rfl T.z_enumerate (pK (pq 0) pL)) (λ_ _ _ hE1=>(lE rfl (nB (lZ (N:=["at","row","i","k"]) (i:=0) hE1 rfl (nofun)) (nB (lZ (N:=["at","row","i","k"]) (i:=1) hE1 rfl (nofun)) lD)))) (λ_ _ _ hE1=>(Fx (oR lW (pv 0) (pv 2) (oP _)) (pO cI (nS iS rfl T.z_list (nofun) (pK (fW sl_B (pv 1) Es (iB (pv 3))) pL)) (nS iS rfl T.z_list (nofun) (pK (fW sl_B (pv 1) (iB (pO nR (pv 3) pR)) Es) pL)))))))),?_⟩;show tRet _ _ [some (.ref a),some (.int i0),some (.int k)] H;ext;refine Fo λC0 B0 eC eB=>?_;simp only[eG];ext;obtain⟨xs,x1,x2,x3⟩:=hM.walk;refine⟨b1,⟨_,x1⟩,λa1 ha1=>?_⟩;refine Re (λt zs H1=>lI a1 H1 zs (((rows.take t).eraseIdx i0).map λ(r:LI')=>r.eraseIdx k)) ha1 x1 ⋯ lI.nil ?_ (λ_ _ _ _ r s=>r.mono s) ?_ ?_
  ·intro i zs H1 p;rw[p.len,zqe,sW];have:=List.length_take_le i rows;split <;> omega
  ·intro i x H1 zs ex s1 ez p C hC1 hC2;obtain⟨q0,r,rfl,er,hp⟩:=x3 i x ex;have hrw:r.length=w:=hw r (zqb er);replace hp:=hp.up s1;rw[Rc er]at hC1 hC2;subst eC eB;show jS _ _ [some (.int i),some (.ref q0),some (.int i0),some (.int k)] H1 C;simp only[jS];ext
   by_cases z:i=i0
   ·subst z;rw[zJ rfl]at hC2;rw[zK rfl];exact hC2 H1 (Same.refl _) p
   ·rw[zI z]at hC1;rw[zN (show¬ (i:Int)=i0 by omega)];refine iteT ?_;refine⟨b2,q0,_,rfl,hp,λ_=>by rw[zqe,HT.sIx_none,HT.sIx_nat];omega,λq1 hq1=>?_⟩;have sq1:SqB b2 K (upd H1 q1 (seqO b2 (cutV (r.map V.int) none (some (k:Int))))) q1 (cutV (r.map V.int) none (some (k:Int))):=SqB.cut;have s2:Same H1 (upd H1 q1 (seqO b2 (cutV (r.map V.int) none (some (k:Int))))):=Same.new hq1;generalize upd H1 q1 _=H2 at sq1 s2;rw[Os ⋯]at sq1;refine⟨b2,q1,_,rfl,sq1,λq2 hq2=>?_⟩;have e2:(upd H2 q2 (.lst ((r.take k).map V.int))) q2=some (.lst ((r.take k).map V.int)):=pV;have s3:Same H2 (upd H2 q2 (.lst ((r.take k).map V.int))):=Same.new hq2;generalize upd H2 q2 _=H3 at e2 s3;refine⟨b2,q0,_,rfl,(hp.up s2).up s3,λ_=>by rw[zqe,HT.sIx_none,show(k:Int)+1=((k+1:Nat):Int) by omega,HT.sIx_nat];omega,λq3 hq3=>?_⟩;have sq3:SqB b2 K (upd H3 q3 (seqO b2 (cutV (r.map V.int) (some ((k:Int)+1)) none))) q3 (cutV (r.map V.int) (some ((k:Int)+1)) none):=SqB.cut;have s4:Same H3 (upd H3 q3 (seqO b2 (cutV (r.map V.int) (some ((k:Int)+1)) none))):=Same.new hq3;generalize upd H3 q3 _=H4 at sq3 s4;rw[show(k:Int)+1=((k+1:Nat):Int) by omega,Oq ⋯]at sq3;refine⟨b2,q3,_,rfl,sq3,λq4 hq4=>?_⟩;have s5:Same H4 (upd H4 q4 (.lst ((r.drop (k+1)).map V.int))):=Same.new hq4;have e4:(upd H4 q4 (.lst ((r.drop (k+1)).map V.int))) q4=some (.lst ((r.drop (k+1)).map V.int)):=pV;generalize upd H4 q4 _=H5 at e4 s5;refine⟨q2,q4,_,_,rfl,rfl,s5 _ _ (s4 _ _ e2),e4,by rw[zqe,zqe,yW,vO];exact xR (fZ ⋯),λq5 hq5=>?_⟩;have s15:Same H1 (upd H5 q5 (.lst ((r.take k).map V.int++(r.drop (k+1)).map V.int))):=(((s2.trans s3).trans s4).trans s5).trans (Same.new hq5);refine hC1 _ _ s15 ?_;rw[xD];refine(p.mono s15.x).snoc (λe=>?_) ?_
    ·subst e;rw[s5 _ _ (s4 _ _ (s3 _ _ (s2 _ _ ez)))]at hq5;cases hq5
    ·rw[pV];dsimp only;rw[List.eraseIdx_eq_take_drop_succ,xD]
  ·intro H1 ys s1 e1 p;rw[x2,vS]at p;exact hQ a1 H1 ha1 s1 (lI.mat e1 p)
theorem ok_1(T:Txt K mg t):∀n:Nat,FnOk P w K mg base CX0 (n+1) t.a_1 t.d_1 pM' (sp_1 K n)
 |0=>⟨λ_ _ _ _ h=>h.elim,λ_ _ _ _ _ _ _ _ _ _ _ _ _ h=>h.elim⟩
 | n+1=>by
  have G_1:FnOk P w K mg base CX0 (n+1) t.a_1 t.d_1 pM' (sp_1 K n):=ok_1 T n;have G_1b:=@ok_1b P w K mg base t T;apply T.F_1.ok sc_1
  ·obtain⟨b1,b2,a,rows,B,rfl,hM,hs,hn,hb,hB,hQ⟩:=h;refine⟨_,(pM (oU (oR mS (oS T.z_len (pq 0)) pR (oP _))
   (pQ (oA (pS (pS (pq 0)))))
   oY)
   (pM (pZ (i:=1) sc_1.nd rfl (Or.inl rfl) pR)
   (pM (pZ (i:=2) sc_1.nd rfl (Or.inl rfl) pR)
   (pM (mX yS rfl (cN rfl T.z_enumerate (pK (pS (pq 0)) pL)) (lE rfl (nB (oV (i:=3) sc_1.nd rfl (Or.inl rfl)) (nB (oV (i:=4) sc_1.nd rfl (Or.inl rfl)) lD)))
   (pM (oU (oR lW (pq 4) pR (oP _))
   (pQ (Dh (i:=1) sc_1.nd rfl (Or.inl rfl) (pO oW (pO oW (pq 2) (pq 4)) (pU G_1 hr.mo T.F_1 (pK (pU G_1b hr.mo T.F_1b (pK (pq 0) (pK pR (pK (pq 3) pL)))) pL))) Dg))
   oY)
   (pQ (pZ (i:=2) sc_1.nd rfl (Or.inl rfl) (gM gN (pq 2))))))
   (pQ (oA (pq 1))))))),?_⟩
   show tSeq _ _ _ [some (.ref a),none,none,none,none] H;obtain⟨e0,m0⟩:=row0 hs;have hl0:(rows.getD 0 []).length=n+1:=hs.2 _ m0;right;refine jJ hM ?_;ext;rw[hs.1]
   by_cases z:n=0
   ·subst z;rw[zK (by rfl)];exact iteT (cU hM e0 (getD_at (k:=0) ⋯) rfl rfl (hQ H (Same.refl _)))
   ·rw[zN (show¬ ((n+1:Nat):Int)=1 by omega)];refine iteF ?_;obtain⟨n,rfl⟩:∃m,n=m+1:=⟨n-1,⋯⟩;left;left;subst e1;refine st λN1 e1=>mZ λB0 eB=>?_;simp only[eG];ext;refine Ot hM e0 rfl λp hp=>⟨b2,_,rfl,⟨_,hp⟩,?_⟩;generalize hf:(λk=>(rows.getD 0 []).getD k 0*detM (n+1) (jC 0 k rows))=f;refine Fm (nx:=N1) (rt:=Q) (λk σ H1=>∃v3 v4,σ=[some (.ref a),some (.int (altS f k)),some (.int (sg k)),v3,v4]/\Same H H1) ⟨_,_,rfl,Same.refl _⟩ (λ_ _ _ _⟨_,_,_,s1⟩=>hp.up s1) ?_ ?_
    ·rintro k x q σ H1 ex ⟨v3,v4,rfl,s1⟩ hq;obtain⟨x,ex',rfl⟩:=nQ ex;have hk:k<n+2:=by have:=(zqa ex').1;omega
     refine⟨q,[.int k,.int x],rfl,SqT.of pV,rfl,_,_,rfl,_,_,rfl,rfl,?_⟩;replace s1:=s1.trans (Same.new (o:=.tup [.int k,.int x]) hq);generalize upd H1 q (.tup [.int k,.int x])=H2 at s1;subst eB;show tSeq _ _ _ [some (.ref a),some (.int (altS f k)),some (.int (sg k)),some (.int k),some (.int x)] H2;refine st λN2 e2=>?_;have key:∀H3(tot:Int),Same H H3->tot=altS f (k+1)->N2 [some (.ref a),some (.int tot),some (.int (sg k)),some (.int k),some (.int x)] H3:=by
      intro H3 tot s3 et;subst e2 et;ext;rw[Rf];exact⟨rfl,s3⟩
     ext;have hx0:(rows.getD 0 []).getD k 0=x:=Ou ex';have hfk:f k=x*detM (n+1) (jC 0 k rows):=by rw[←hf];dsimp only;rw[hx0]
     have hsm:=hs.minor (i:=0) (k:=k) ⋯ hk;have hbm:nF B (jC 0 k rows):=hb.minor
     by_cases zx:x=0
     ·rw[zK zx];refine iteF (key H2 _ s1 ?_);show _=altS f k+sg k*f k;rw[hfk,zx];simp
     ·rw[zN zx];refine iteT ?_;simp only[tAug,ipI];ext;refine⟨xZ (by unfold sg;split <;> decide),b1,b2,a,rows,0,k,_,rfl,hM.up s1,hs.2,hk,⋯,by rw[hs.1];omega,λr H3 _ s3 hR=>?_⟩;refine⟨false,false,r,_,B,rfl,hR.b,hsm,⋯,hbm,hB,λH4 s4=>?_⟩;ext;have hxb:=hb _ m0 x (by rw[←hx0];exact L2.getD_mem ⋯);have hdb:=Hm (n+1) _ ⋯ ⋯ hsm hbm;refine⟨yA (m:=B+1) (n:=(n+1)*(B+2)+1) (oM ?_) (oM ?_) ?_,?_⟩
      ·rw[xA,Ho,Nat.one_mul,qJ];omega
      ·rw[qJ];have:=vF ((n+1)*(B+2));omega
      ·have:(n+1)*(B+2)<=4*1000002:=wG ⋯ ⋯;omega
      ·refine key H4 _ ((s1.trans s3).trans s4) ?_;show _=altS f k+sg k*f k;rw[hfk,Int.mul_assoc]
    ·rintro σ H1 ⟨v3,v4,rfl,s1⟩;symm;rw[zqe,hl0];have:altS f (n+2)=detM (n+2) rows:=by rw[←hf];rfl
     rw[this];exact hQ H1 s1
theorem ok_h(T:Txt K mg t):FnOk P w K mg base CX0 1 t.a_h t.d_h ["size"] sp_h:=by
 apply T.F_h.ok sc_h
 ·obtain⟨n,rfl,hn,hQ⟩:=h;refine⟨_,(pQ (oA (lY (xs:=["i"]) (fr:=[("size",0)]) (g:=(pY 0)) (tt:=(tEl (nE (nI (pW (tVar 1) tNil)) (pY 0) (tEl (tIf (fU (tOp (rI0 λi j=>.bl (decide (i=j))) (tVar 1) (tVar 0))) (tC (.int 1)) (tC (.int 0)))) 1 [("i",0)]))) (mF (sc:=pN bP) (N:=N_h) rfl rfl (nofun)) rfl (nW rfl T.z_range (pK (pq 0) pL)) (λ_ _ _ hE1=>(kH (N:=["i","size"]) (i:=0) hE1 rfl (nofun) rfl)) (λ_ _ _ hE1=>(mK (oX (N:=["i","size"]) (fr:=[("i",0)]) (te:=(tIf (fU (tOp (rI0 λi j=>.bl (decide (i=j))) (tVar 1) (tVar 0))) (tC (.int 1)) (tC (.int 0)))) hE1 rfl (nofun) rfl (nofun) (nW rfl T.z_range (pK (pv 1) pL)) (λ_ _ _ hE2=>(aR (oR mS (pv 1) (pv 0) (oP _)) pR pR)))))))),?_⟩;show tRet _ _ [some (.int n)] H;ext;refine oG λB eB=>?_;simp only[nI];ext;refine⟨⋯,⋯,λm0 hm0=>?_⟩;rw[zS];refine mG (RowR m0 λi=>(List.range n).map λk=>if i=k then(1:Int) else 0) hm0 hn (RowR.mono (a:=m0)) ?_ ?_
  ·intro i H2 zs hi s2 ez Q' hQ';subst eB;show nE _ _ _ _ _ [some (.int (0+(i:Int))),some (.int n)] H2 Q';refine oG λB eB=>?_;simp only[nI];ext;refine⟨⋯,⋯,λa2 ha2=>?_⟩;rw[zS];refine mG (λk y _=>k<n/\y=.int (if i=k then 1 else 0)) ha2 hn (λ_ _ _ _ r _=>r) ?_ ?_
   ·intro k H3 zs3 hk s3 ez3 Q2 hQ2;subst eB;show tIf _ _ _ [some (.int (0+(k:Int))),some (.int (0+(i:Int)))] H3 Q2;ext
    by_cases z:i=k
    ·rw[zK ⋯];exact iteT (hQ2 _ _ (Same.refl _) ⟨hk,by rw[zJ z]⟩)
    ·rw[zN ⋯];exact iteF (hQ2 _ _ (Same.refl _) ⟨hk,by rw[zI z]⟩)
   ·intro H3 ys s3 e3 hly hr3;have ey:ys=((List.range n).map λk=>if i=k then(1:Int) else 0).map V.int:=by
     refine oZ (by simpa using hly) λj y e=>?_;obtain⟨hj,rfl⟩:=hr3 j y e;exact⟨_,by rw[zC,yO hj];rfl,rfl⟩
    subst ey;exact hQ' _ _ s3 ⟨a2,rfl,yE (nK ez ha2),e3⟩
  ·intro H2 ys s2 e2 hly hr2;have hM0:=MatL.of e2 hr2;rw[hly]at hM0;exact hQ m0 H2 hm0 s2 hM0
theorem Hj{H:Hp}{p:Addr}{M:LM}{ts:LI'}{u:Int}{Q:VK}(h:nZ K H p M ts u)(q:∀x,MatB true true K H x M->Q (.ref x) H):rIxB K (.ref p) (.int 0) H Q:=let ⟨x,y,h1,h2,h3⟩:=h;⟨true,p,_,_,_,rfl,rfl,SqB.tup h1,rfl,q x h2⟩
theorem Sz{H:Hp}{p:Addr}{M:LM}{ts:LI'}{u:Int}{Q:VK}(h:nZ K H p M ts u)(q:∀x,H x=some (.tup (ts.map V.int))->Q (.ref x) H):rIxB K (.ref p) (.int 1) H Q:=let ⟨x,y,h1,h2,h3⟩:=h;⟨true,p,_,_,_,rfl,rfl,SqB.tup h1,rfl,q y h3⟩
theorem Sy{H:Hp}{p:Addr}{M:LM}{ts:LI'}{u:Int}{Q:VK}(h:nZ K H p M ts u)(q:Q (.int u) H):rIxB K (.ref p) (.int 2) H Q:=let ⟨x,y,h1,h2,h3⟩:=h;⟨true,p,_,_,_,rfl,rfl,SqB.tup h1,rfl,q⟩
theorem Hi{H:Hp}{a a1:Addr}{M:LM}{σ:St}{Q:VK}{b1 b2:Bool}(hM:MatB b1 b2 K H a M)(hl:M.length<=1000)(ha1:H a1=none)
  (hQ:∀H1 zs,Same H H1->H1 a1=some (.lst zs)->(∀l,H1 l=none->MatB true true K (upd H1 l (.tup zs)) l M)->Q (.ref a1) H1):mT (Its K b1 a) (pY 0) (tEl (tCB (iU K) (pW (tVar 0) tNil))) 1 [] σ a1 H Q:=by
 cases b2 with
 |false =>
  refine Op hM hl ha1 λH1 s1 hT=>?_;obtain⟨zs,hz,_⟩:=id hT;refine hQ H1 _ s1 hz λl hl1=>?_;obtain⟨zs',hz',hB⟩:=hT.tuple (K:=K) hl1;rw[hz]at hz';cases hz';exact hB
 | true =>
  obtain⟨xs,x1,x2,x3⟩:=hM.walk;refine oT (λj y _=>∃p r,y=.ref p/\M[j]?=some r/\SqB true K H p (r.map V.int)) ha1 x1 ⋯ (λ_ _ _ _ r _=>r) ?_ ?_
  ·intro i x H1 zs ex s1 ez Q' hQ';obtain⟨p,r,rfl,er,hp⟩:=x3 i x ex;exact⟨_,rfl,p,_,rfl,.inr ⟨hp.up s1,hQ' _ _ (Same.refl _) ⟨p,r,rfl,er,hp⟩⟩⟩
  ·intro H1 ys s1 e1 hly hr1;have hps:∃ps:LA,ys=ps.map V.ref:=by
    clear e1 hly;have:∀(zs:List V),(∀(j:Nat) y,zs[j]?=some y->∃p:Addr,y=.ref p)->∃ps:LA,zs=ps.map V.ref:=by
     intro zs
     induction zs with
     |nil=>intro _;exact⟨[],rfl⟩
     |cons z r ih =>
      intro hz;obtain⟨p,e⟩:=hz 0 z rfl;obtain⟨ps,e2⟩:=ih λj y q=>hz (j+1) y (by simpa using q);exact⟨p:: ps,by rw[e,e2];rfl⟩
    exact this ys λj y e=>let ⟨p,r,e1,_⟩:=hr1 j y e;⟨p,e1⟩
   obtain⟨ps,rfl⟩:=hps;refine hQ H1 _ s1 e1 λl hl1=>⟨ps,SqB.tup pV,by simp at hly;omega,λi p r e2 e3=>?_⟩;obtain⟨p',r',e4,e5,e6⟩:=hr1 i (.ref p) (by simp[e2]);cases e4;rw[e3]at e5;cases e5;exact e6.up (s1.trans (Same.new hl1))
theorem ok_19(T:Txt K mg t):FnOk P w K mg base CX0 1 t.a_19 t.d_19 pD' (sp_19 K):=by
 apply T.F_19.ok sc_19
 ·obtain⟨b1,b2,a,p,M,ts,u,rfl,hM,hP,hl,hQ⟩:=h;refine⟨_,(pQ (oA (nJ (pK (nS lO rfl T.z_tuple (nofun) (pK (oX (sc:=pN s_19) (N:=N_19) (fr:=[]) (te:=(tCB (iU K) (pW (tVar 0) tNil))) rfl rfl (nofun) rfl (nofun) (oH (pq 0)) (λ_ _ _ hE1=>(nS lO rfl T.z_tuple (nofun) (pK (pv 0) pL)))) pL)) (pK (pS (pq 1)) (pK (pS (pq 1)) pL)))))),?_⟩;show tRet _ _ [some (.ref a),some (.ref p)] H;ext;exfalso;obtain⟨xs,x1,_⟩:=hM.walk;refine⟨b1,⟨_,x1⟩,λa1 ha1=>?_⟩;subst eB;refine Hi hM ⋯ ha1 λH1 zs s1 hz hB=>?_;refine⟨a1,_,rfl,.inl ⟨SqL.of hz,λl hl1=>?_⟩⟩;have s2:Same H (upd H1 l (.tup zs)):=s1.trans (Same.new hl1);replace hB:=hB l hl1;generalize upd H1 l (.tup zs)=H2 at s2 hB;refine kC (hP.up s2) λx hx=>jD (hP.up s2) ⟨(by show 3<=sizeLine;decide),λq hq=>hQ q _ (s2.trans (Same.new hq)) ⟨l,x,pV,hB.up (Same.new hq),Same.new hq _ _ hx⟩⟩
theorem ok_1q(T:Txt K mg t):FnOk P w K mg base CX0 2 t.a_1q t.d_1q pO' (sp_1q K):=by
 have G_19:=@ok_19 P w K mg base t T;have G_s:=@ok_s P w K mg base t T;apply T.F_1q.ok sc_1q
 ·obtain⟨p,M,ts,u,rfl,hD,hl,hl2,hu,hQ⟩:=h;refine⟨_,(pQ (oA (pU G_19 hr.mo T.F_19 (pK (pS (pq 0)) (pK (pU G_s hr.mo T.F_s (pK (nJ (pK (pS (pq 0)) (pK (pS (pq 0)) pL))) pL)) pL))))),?_⟩;show tRet _ _ [some (.ref p)] H;ext;refine Hj hD λx hx=>Sz hD λy hy=>Sy hD ⟨(by show 2<=sizeLine;decide),λl hl1=>?_⟩;have s1:Same H (upd H l (.tup [.ref y,.int u])):=Same.new hl1;refine⟨l,ts,u,rfl,⟨y,pV,s1 _ _ hy⟩,hl2,hu,λp' H2 s2 hP=>?_⟩;exact⟨true,true,x,p',M,_,u,rfl,hx.up (s1.trans s2),hP,hl,λq H3 s3 hq=>hQ q H3 ((s1.trans s2).trans s3) hq⟩
theorem ok_1i(T:Txt K mg t):FnOk P w K mg base CX0 3 t.a_1i t.d_1i ["one","spot"] (sp_1i K):=by
 have G_1s:=@ok_1s P w K mg base t T;have G_10:=@ok_10 P w K mg base t T;apply T.F_1i.ok sc_1i
 ·obtain⟨p,q,M,ts,ns,u,v,d,rfl,hD,hP,fi,hd1,hd4,hnl,bn,hv,hv2,hQ⟩:=h;refine⟨_,(pM (iR (i:=2) (xs:=["row","top"]) (fr:=[("one",0),("spot",1)]) (g:=(gTup K 2 (nC (pY 0) (nC (pY 1) gNil)))) (tt:=(tEl (tOp (rI0 λi j=>.int (i+j)) (tOp (rI (λi j=>IntMulOk i j) λi j=>.int (i*j)) (nL (sp_1s K) [] E0 (pW (tVar 0) (pW (tOp (rIxB K) (tVar 3) (tC (.int 0))) tNil))) (tOp (rIxB K) (tVar 2) (tC (.int 2)))) (tOp (rI (λi j=>IntMulOk i j) λi j=>.int (i*j)) (tVar 1) (tOp (rIxB K) (tVar 3) (tC (.int 1))))))) (mF (sc:=pN s_1i) (N:=N_1i) rfl rfl (nofun)) rfl sc_1i.nd rfl rfl (Ao rfl T.z_zip (pK (pS (pq 0)) (pK (pS (pq 0)) pL))) (λ_ _ _ hE1=>(lE rfl (nB (lZ (N:=["row","top","one","spot"]) (i:=0) hE1 rfl (nofun)) (nB (lZ (N:=["row","top","one","spot"]) (i:=1) hE1 rfl (nofun)) lD)))) (λ_ _ _ hE1=>(mK (pO nR (pO oW (pU G_1s hr.mo T.F_1s (pK (pv 0) (pK (pS (pv 3)) pL))) (pS (pv 2))) (pO oW (pv 1) (pS (pv 3)))))))
   (pQ (oA (jG G_10 hr.mo rfl T.F_10.m T.F_10.kp T.F_10.b .nil iD (pK (pq 2) (pK (pO oW (pS (pq 0)) (pS (pq 1))) pL)))))),?_⟩
  show tSeq _ _ _ [some (.ref p),some (.ref q),none] H;right;refine oG λB eB=>?_;simp only[iZip];ext;refine dE hD λx hx=>Hk hD λy hy=>?_;obtain⟨xs,x1,x2,x3⟩:=hx.walk;refine⟨true,true,x,rfl,y,rfl,⟨_,x1⟩,⟨_,(hy:SqB true K H y _)⟩,λa1 ha1=>?_⟩;have hraw:∀(i:Nat)(r:LI')(tt:Int),M[i]?=some r->ts[i]?=some tt->(movT M ts u ns v)[i]?=some (dotI r ns*u+tt*v):=λi r tt e1 e2=>by
   unfold movT;rw[yK,e1,e2]
  refine Am (λj z _=>∃n,(movT M ts u ns v)[j]?=some n/\z=.int n) ha1 x1 ((hy:SqB true K H y _)) (by rw[x2,fi.sq.1,zqe,fi.len]) (by rw[x2,fi.sq.1];omega) (λ_ _ _ _ r _=>r) ?_ ?_
  ·intro i zr zt H1 zs er et s1 ez Q' hQ';obtain⟨pr,r,rfl,er2,hp⟩:=x3 i zr er;obtain⟨tt,et2,rfl⟩:=nQ et;have hrl:r.length=d:=fi.sq.2 r (zqb er2);have br:=fi.bm r (zqb er2);subst eB;show tOp _ _ _ [some (.ref pr),some (.int tt),some (.ref p),some (.ref q)] H1 Q';ext;refine jV (hP.up s1) λz hz=>?_;refine⟨true,true,pr,z,r,ns,rfl,hp.up s1,(hz:SqB true K H1 z _),⋯,⋯,λi2 m n e1 e2=>yA (oM (br m (zqb e1))) (oM (bn n (zqb e2))) ∅,λH2 s2=>?_⟩;refine Cs (hD.up (s1.trans s2)) ?_;ext;have hda:=Hl r ns br bn;have hdb:(dotI r ns).natAbs<2^400010:=by
    have:r.length*2^(200000+200000)<=4*2^(200000+200000):=wE _ ⋯;have e:(2:Nat)^400010=1024*2^(200000+200000):=by rw[show(400010:Nat)=10+(200000+200000) from rfl,wZ]
    have:=vF (200000+200000);omega
   refine⟨yA (oM hdb) (oM (fH fi.pos fi.bu)) ∅,?_⟩;refine gD (hP.up (s1.trans s2)) ?_;ext;refine⟨yA (oM (fi.bt tt (zqb et2))) (oM (fH hv hv2)) ∅,?_⟩;exact hQ' _ _ s2 ⟨_,hraw i r tt er2 et2,rfl⟩
  ·intro H1 zs s1 ez1 hlz hr1;have hml:(movT M ts u ns v).length=d:=by unfold movT;rw[yH,fi.sq.1,fi.len];omega
   have ey:zs=(movT M ts u ns v).map V.int:=oZ (by rw[hlz,x2,fi.sq.1,hml]) hr1;subst ey;symm;refine Cs (hD.up s1) ?_;refine gD (hP.up s1) ?_;ext;have hsp:=Rb fi.pos fi.bu hv hv2;refine⟨yA (oM (fH fi.pos fi.bu)) (oM (fH hv hv2)) ∅,?_⟩;refine⟨false,a1,_,_,rfl,SqB.lst ez1,⋯,hsp.1,λz=>?_,λ_ _ r H2 s2 hR=>hQ r H2 (s1.trans s2) hR⟩;rcases z with z|z
   ·omega
   ·rw[z]at hml;simp at hml;omega
theorem ok_1g(T:Txt K mg t):FnOk P w K mg base CX0 4 t.a_1g t.d_1g pC' (sp_1g K):=by
 have G_1s:=@ok_1s P w K mg base t T;have G_1e:=@ok_1e P w K mg base t T;have G_1i:=@ok_1i P w K mg base t T;have G_19:=@ok_19 P w K mg base t T;apply T.F_1g.ok sc_1g
 ·obtain⟨p,q,M,N,ts,ns,u,v,d,rfl,hD,hE,f1,f2,hd1,hd4,hQ⟩:=h;refine⟨_,(pM (pZ (i:=2) sc_1g.nd rfl (Or.inr rfl) (pU G_1e hr.mo T.F_1e (pK (pS (pq 0)) pL)))
   (pM (iR (i:=3) (xs:=["row"]) (fr:=[("columns",2)]) (g:=(pY 0)) (tt:=(tEl (nE (iSeq K (tVar 1)) (pY 0) (tEl (nL (sp_1s K) [] E0 (pW (tVar 1) (pW (tVar 0) tNil)))) 1 [("row",0)]))) (mF (sc:=pN s_1g) (N:=N_1g) rfl rfl (nofun)) rfl sc_1g.nd rfl rfl (oH (pS (pq 1))) (λ_ _ _ hE1=>(kH (N:=["row","columns"]) (i:=0) hE1 rfl (nofun) rfl)) (λ_ _ _ hE1=>(mK (oX (N:=["row","columns"]) (fr:=[("row",0)]) (te:=(nL (sp_1s K) [] E0 (pW (tVar 1) (pW (tVar 0) tNil)))) hE1 rfl (nofun) rfl (nofun) (oH (pv 1)) (λ_ _ _ hE2=>(pU G_1s hr.mo T.F_1s (pK (pv 1) (pK (pv 0) pL))))))))
   (pQ (oA (pU G_19 hr.mo T.F_19 (pK (pq 3) (pK (pU G_1i hr.mo T.F_1i (pK (pq 1) (pK (nJ (pK (pS (pq 0)) (pK (pS (pq 0)) pL))) pL))) pL))))))),?_⟩
  show tSeq _ _ _ [some (.ref p),some (.ref q),none,none] H;right;have hne:M≠[]:=λz=>by have:=f1.sq.1;rw[z]at this;simp at this;omega
  refine dE hD λx hx=>⟨true,true,x,M,d,rfl,hx,hne,f1.sq.2,⋯,by rw[f1.sq.1];omega,λc H1 hc s1 hC=>?_⟩;left;exfalso;refine dE (hE.up s1) λy hy=>?_;obtain⟨xs,x1,x2,x3⟩:=hy.walk;refine⟨true,y,rfl,⟨_,x1⟩,λa1 ha1=>?_⟩;refine oT (RowR a1 λj=>(List.range d).map λk=>dotI (N.getD j []) (colI k M)) ha1 x1 (by rw[x2,f2.sq.1];omega) (RowR.mono (a:=a1)) ?_ ?_
  ·intro i x H2 zs ex s2 ez Q' hQ';obtain⟨pr,r,rfl,er,hp⟩:=x3 i x ex;have erD:N.getD i []=r:=by rw[zqc,er];rfl
   have hrl:r.length=d:=f2.sq.2 r (zqb er);have br:=f2.bm r (zqb er);subst eB;show nE _ _ _ _ _ [some (.ref pr),some (.ref c)] H2 Q';exfalso;obtain⟨zs2,z1,z2,z3⟩:=((hC.up s2).b (K:=K)).walk;refine⟨false,⟨_,z1⟩,λa2 ha2=>?_⟩;have hlen:(iE d M).length=d:=by simp[iE]
   refine oT (λj y _=>y=.int (dotI r (colI j M))/\j<d) ha2 z1 ⋯ (λ_ _ _ _ r _=>r) ?_ ?_
   ·intro j y H3 zs3 ey s3 ez3 Q2 hQ2;obtain⟨q2,col,rfl,ec,hq⟩:=z3 j y ey;have hj:j<d:=by have:=(zqa ec).1;omega
    have ecol:col=colI j M:=by
     unfold iE at ec;rw[zC,yO hj]at ec;exact(zR ec).symm
    subst eB ecol;show nL _ _ _ _ [some (.ref q2),some (.ref pr)] H3 Q2;ext;refine⟨true,false,pr,q2,r,colI j M,rfl,(hp.up s2).up s3,hq.up s3,by simp[colI,hrl,f1.sq.1],⋯,λi2 m n e1 e2=>?_,λH4 s4=>hQ2 _ _ s4 ⟨rfl,hj⟩⟩;unfold colI at e2;rw[zC]at e2;cases eb:M[i2]? with
    |none=>rw[eb]at e2;cases e2
    |some rb =>
     rw[eb]at e2;have e2':rb.getD j 0=n:=zR e2;subst e2';have hrb:=zqb eb;exact yA (oM (br m (zqb e1))) (oM (f1.bm rb hrb _ (L2.getD_mem (by rw[f1.sq.2 rb hrb];exact hj)))) ∅
   ·intro H3 ys s3 e3 hly hr3;have ey:ys=((List.range d).map λk=>dotI r (colI k M)).map V.int:=by
     refine oZ (by simp;omega) λj y e=>?_;obtain⟨rfl,hj⟩:=hr3 j y e;exact⟨_,by rw[zC,yO hj];rfl,rfl⟩
    subst ey;exact hQ' _ _ s3 ⟨a2,rfl,yE (nK ez ha2),by dsimp only;rw[erD];exact e3⟩
  ·intro H2 ys s2 e2 hly hr2;have hR:=MatL.of e2 hr2;have e:(List.range ys.length).map (λj=>(List.range d).map λk=>dotI (N.getD j []) (colI k M))=mulM d N M:=by
    rw[hly,x2];unfold mulM;refine xM (by simp) λi h1 h2=>?_;simp at h1;simp[h1]
   rw[e]at hR;have s02:=s1.trans s2;symm;refine Hk (hD.up s02) λz hz=>Cs (hD.up s02) ⟨(by show 2<=sizeLine;decide),λl hl1=>?_⟩;have s3:Same H2 (upd H2 l (.tup [.ref z,.int u])):=Same.new hl1;refine⟨q,l,N,ns,ts,v,u,d,rfl,(hE.up s02).up s3,⟨z,SqT.of pV,nM s3 _ _ hz⟩,f2,hd1,hd4,f1.len,f1.bt,f1.pos,f1.bu,λr H4 s4 hP=>?_⟩;exact⟨false,false,a1,r,_,_,_,rfl,((hR.up s3).up s4).b,hP,by simp[mulM,f2.sq.1];omega,λq' H5 s5 hq=>hQ q' H5 (((s02.trans s3).trans s4).trans s5) hq⟩
def Cq(rows:LM)(tops:LI')(u:Int):Prop:=(rows.length=2\/rows.length=3)/\(∀r∈rows,r.length=rows.length)/\tops.length=rows.length/\u≠0/\(detM rows.length rows=1\/detM rows.length rows=-1)
def sp_1n(K:Frag)(C:Addr):Sp:=λvs H Q E=>E9 λ(b1 b2 b3:Bool)(a p:Addr)(rows:LM)(tops:LI')(u:Int)(B:Nat)=>A10 (vs=[.ref a,.ref p,.int u]) (MatB b1 b2 K H a rows) (SqB b3 K H p (tops.map V.int)) (rows.length<=100) (tops.length<=100) (nF B rows) (B<=1000000) (lQ u) ((¬ Cq rows tops u->∀H',Same H H'->E (.ref C) none H')) ((Cq rows tops u->∀q H',Same H H'->nZ K H' q rows (redT u tops) (redU u tops)->Q (.ref q) H'))
theorem inV2(L x y:Int):inV (.int L) [.int x,.int y]=decide (L=x\/L=y):=by
 have e:inV (.int L) [.int x,.int y]=(eqV (.int x) (.int L) || (eqV (.int y) (.int L) || false)):=rfl;have f:∀a b:Int,eqV (.int a) (.int b)=decide (a=b):=λa b=>by
  first|rfl|(unfold eqV;rfl)|(simp only[eqV];by_cases h:a=b <;> simp[h])
 rw[e,f,f,Bool.or_false]
 by_cases h1:x=L
 ·rw[zK h1,zK (p:=L=x\/L=y) (Or.inl h1.symm)];rfl
 ·rw[zN h1]
  by_cases h2:y=L
  ·rw[zK h2,zK (p:=L=x\/L=y) (Or.inr h2.symm)];rfl
  ·rw[zN h2,zN (p:=L=x\/L=y) ⋯];rfl
theorem bY{H:Hp}{Q:VK}{E:XK}{b1 b2:Bool}{a:Addr}{rows:LM}{n B:Nat}(h1:1<=n)(h3:n<=4)(hM:MatB b1 b2 K H a rows)(sq:Sq n rows)(hb:nF B rows)(hB:B<=1000000)(q:∀H',Same H H'->Q (.int (detM n rows)) H'):sp_1 K n [.ref a] H Q E:=by
 match n,h1,h3,sq,q with
 |m+1,_,h3,sq,q=>exact⟨b1,b2,a,rows,B,rfl,hM,sq,⋯,hb,hB,q⟩
theorem ok_1n(T:Txt K mg t):FnOk P w K mg base (CX1 P w) 6 t.a_1n t.d_1n pr' (sp_1n K t.a_1v):=by
 have G_10:=@ok_10 P w K mg base t T;have G_19:=@ok_19 P w K mg base t T;refine T.F_1n.okX sc_1n (λvs H Q E h=>?_) (λcdv A outer s H vs Q E hr h=>?_)
 ·obtain⟨b1,b2,b3,a,p,rows,tops,u,B,rfl,_⟩:=h;rfl
 ·obtain⟨b1,b2,b3,a,p,rows,tops,u,B,rfl,hM,hS,hl1,hl2,hB,hB1,su,hE,hQ⟩:=h;obtain⟨n,hn3,hn⟩:∃n:Nat,n<=3/\((rows.length=2\/rows.length=3)->n=rows.length):=by
   by_cases z:rows.length=2\/rows.length=3
   ·exact⟨rows.length,⋯,λ_=>rfl⟩
   ·exact⟨0,⋯,λh=>absurd h z⟩
  have G_1:FnOk P w K mg base CX0 (n+1) t.a_1 t.d_1 pM' (sp_1 K n):=ok_1 T n;refine⟨_,(pM (pZ (i:=3) sc_1n.nd rfl (Or.inr rfl) (oS T.z_len (pq 0)))
   (pM (oU (oR cG (pq 3) (nJ (pK pR (pK pR pL))) rfl)
   (pQ (gR rfl gQ rfl T.m_1v T.x_1v wB (pK gJ pL)))
   oY)
   (pM (oU (PW.pt (jP (kF (mJ (cY rfl) rfl T.z_any (nofun) (pK (oX (sc:=pN s_1n) (N:=N_1n) (fr:=[("axes",3)]) (te:=(tOp (rI0 λi j=>.bl (!decide (i=j))) (tCB (lN K) (pW (tVar 0) tNil)) (tVar 1))) rfl rfl (nofun) rfl (nofun) (oH (pq 0)) (λ_ _ _ hE1=>(jZ lW (oS T.z_len (pv 0)) (pv 1) (oP _)))) pL))) (gL (oR lW (oS T.z_len (pq 1)) (pq 3) (oP _)))))
   (pQ (gR rfl gQ rfl T.m_1v T.x_1v wB (pK gJ pL)))
   oY)
   (pM (oU (oR mS (pq 2) pR (oP _))
   (pQ (gR rfl gQ rfl T.m_1v T.x_1v wB (pK gJ pL)))
   oY)
   (pM (oU (oR cG (pU G_1 hr.mo T.F_1 (pK (pq 0) pL)) (nJ (pK pR (pK (gM gN pR) pL))) rfl)
   (pQ (gR rfl gQ rfl T.m_1v T.x_1v wB (pK gJ pL)))
   oY)
   (pQ (oA (pU G_19 hr.mo T.F_19 (pK (pq 0) (pK (jG G_10 hr.mo rfl T.F_10.m T.F_10.kp T.F_10.b .nil iD (pK (pq 1) (pK (pq 2) pL))) pL)))))))))),?_⟩
  show tSeq _ _ _ [some (.ref a),some (.ref p),some (.int u),none] H;right;refine jJ hM ?_;subst e1;refine st λN1 e1=>?_;simp only[jR];ext;refine⟨by show 2<=sizeLine;decide,λp1 hp1=>?_⟩;have s1:Same H (upd H p1 (.tup [.int 2,.int 3])):=Same.new hp1;refine⟨p1,_,rfl,.inr (SqT.of pV),rfl,rfl,_,rfl,?_⟩;generalize upd H p1 (.tup [.int 2,.int 3])=H1 at s1;rw[inV2]
  by_cases hax:rows.length=2\/rows.length=3
  case neg =>
   rw[zN ⋯];refine iteT ?_;simp only[jR];ext;exact⟨∅,hE (λg=>hax g.1) _ s1⟩
  rw[zK ⋯];refine iteF ?_;replace hn:=hn hax;subst hn;left;refine oG λC eC=>?_;simp only[iSeq];ext;obtain⟨xs,x1,x2,x3⟩:=(hM.up s1).walk;refine⟨b1,⟨_,x1⟩,λa1 ha1=>?_⟩;refine oT (λj y _=>∃r,rows[j]?=some r/\y=.bl (!decide (r.length=rows.length))) ha1 x1 ⋯ (λ_ _ _ _ r _=>r) ?_ ?_
  ·intro i x H2 zs ex s2 ez Q' hQ';obtain⟨pr,rr,rfl,er,hp⟩:=x3 i x ex;subst eC;show tOp _ _ _ [some (.ref pr),some (.int rows.length)] H2 Q';ext;refine nU (hp.up s2) ?_
   try ext
   refine hQ' _ _ (Same.refl _) ⟨rr,er,?_⟩
   by_cases z:rr.length=rows.length
   ·rw[zK z,zK ⋯]
   ·rw[zN z,zN ⋯]
  ·intro H2 ys s2 e2 hly hr2;have ey:ys=(rows.map λr=>!decide (r.length=rows.length)).map V.bl:=by
    rw[xV];exact oZ ⋯ hr2
   subst ey;refine⟨a1,rfl,_,SqL.of e2,?_⟩
   try ext
   have s02:=s1.trans s2
   by_cases hsq:∀r∈rows,r.length=rows.length
   case neg =>
    have hany:(rows.map λr=>!decide (r.length=rows.length)).any id=true:=by
     rw[List.any_eq_true];obtain⟨r,hr⟩:=Classical.not_forall.mp hsq;obtain⟨hr1,hr2⟩:=Classical.not_imp.mp hr;exact⟨true,qW.mpr ⟨r,hr1,by rw[zN hr2];rfl⟩,rfl⟩
    rw[hany];refine iteT ?_;simp only[jR];ext;exact⟨∅,hE (λg=>hsq g.2.1) _ s02⟩
   have hany:(rows.map λr=>!decide (r.length=rows.length)).any id=false:=by
    rw[uH];intro b hb;obtain⟨r,hr,rfl⟩:=qW.mp hb;rw[zK (hsq r hr)]
    decide
   rw[hany];refine iteF ?_;refine nU (hS.up s02) ?_
   try ext
   by_cases htl:tops.length=rows.length
   case neg =>
    rw[zN ⋯];refine iteT ?_;simp only[jR];ext;exact⟨∅,hE (λg=>htl g.2.2.1) _ s02⟩
   rw[zK ⋯];refine iteF ?_;subst e1;refine st λN1 e1=>?_;simp only[jR];ext;refine ite2 (λz=>⟨∅,hE (λg=>g.2.2.2.1 (yM z)) _ s02⟩) (λz=>?_);have hu:u≠0:=λq=>z (zK q);left;refine bY ⋯ ⋯ (hM.up s02) ⟨rfl,hsq⟩ hB hB1 λH3 s3=>?_
   try ext
   refine⟨by show 2<=sizeLine;decide,λp2 hp2=>?_⟩;have s4:Same H3 (upd H3 p2 (.tup [.int 1,.int (-1)])):=Same.new hp2;refine⟨p2,_,rfl,.inr (SqT.of pV),rfl,rfl,_,rfl,?_⟩;generalize upd H3 p2 (.tup [.int 1,.int (-1)])=H4 at s4;have s04:=(s02.trans s3).trans s4;rw[inV2]
   by_cases hdt:detM rows.length rows=1\/detM rows.length rows=-1
   case neg =>
    rw[zN hdt];refine iteT ?_;simp only[jR];ext;exact⟨∅,hE (λg=>hdt g.2.2.2.2) _ s04⟩
   rw[zK hdt];refine iteF ?_;symm;refine⟨b3,p,tops,u,rfl,hS.up s04,hl2,su,λz=>?_,λ_ _ sp H5 s5 hP=>⟨b1,b2,a,sp,rows,_,_,rfl,hM.up (s04.trans s5),hP,hl1,λq H6 s6 hq=>hQ ⟨hax,hsq,htl,hu,hdt⟩ q H6 ((s04.trans s5).trans s6) hq⟩⟩;rcases z with z|z
   ·exact absurd z hu
   ·rw[z]at htl;simp at htl;omega
def sp_1o(K:Frag):Sp:=λvs H Q _=>E1 λ(d:Nat)=>A3 (vs=[.int d]) ((d=2\/d=3)) (∀q H',Same H H'->nZ K H' q (idM d) (List.replicate d 0) 1->Q (.ref q) H')
theorem iH(ns:LI'):gl 1 ns=1:=Int.eq_one_of_dvd_one (fF 1 ns) (gl_u 1 ns)
theorem Hh{d:Nat}(hd:d=2\/d=3):Cq (idM d) (List.replicate d 0) 1/\nF 1 (idM d):=by
 rcases hd with rfl|rfl
 ·exact⟨⟨.inl rfl,∅,∅,∅,.inl ∅⟩,by intro r hr x hx;revert r x;decide⟩
 ·exact⟨⟨.inr rfl,∅,∅,∅,.inl ∅⟩,by intro r hr x hx;revert r x;decide⟩
theorem Sx:lQ 1:=lR (B:=1) ∅ ∅
theorem ok_1o(T:Txt K mg t):FnOk P w K mg base CX0 8 t.a_1o t.d_1o ["d"] (sp_1o K):=by
 have G_1n:=@ok_1n P w K mg base t T;have G_h:=@ok_h P w K mg base t T;apply T.F_1o.ok sc_1o
 ·obtain⟨d,rfl,hd,hQ⟩:=h;refine⟨_,(pQ (oA (jG G_1n hr.mo rfl T.F_1n.m T.F_1n.kp T.F_1n.b .nil iD (pK (pU G_h hr.mo T.F_h (pK (pq 0) pL)) (pK (pO Me (lG (pK pR pL)) (pq 0)) (pK pR pL)))))),?_⟩;show tRet _ _ [some (.int d)] H;ext;refine⟨d,rfl,⋯,λr H1 _ s1 hR=>?_⟩
  try ext
  refine⟨by show 1<=sizeLine;decide,λl hl=>?_⟩;have s2:Same H1 (upd H1 l (.lst [.int 0])):=Same.new hl;have el:(upd H1 l (.lst [.int 0])) l=some (.lst [.int 0]):=pV;generalize upd H1 l (.lst [.int 0])=H2 at s2 el;refine⟨l,d,_,rfl,rfl,el,⋯,⋯,?_,λl2 hl2=>?_⟩
  ·rw[zS];show 1*d<=sizeLine;have:3<=sizeLine:=∅
   omega
  have s3:Same H2 (upd H2 l2 (.lst (List.replicate (d:Int).toNat [V.int 0]).flatten)):=Same.new hl2;have e3:(upd H2 l2 (.lst (List.replicate (d:Int).toNat [V.int 0]).flatten)) l2=some (.lst ((List.replicate d (0:Int)).map V.int)):=by
   rw[pV,zS];rcases hd with rfl|rfl <;> rfl
  generalize upd H2 l2 (.lst (List.replicate (d:Int).toNat [V.int 0]).flatten)=H3 at s3 e3;obtain⟨g,gb⟩:=Hh hd;have hrs:=Rl (u:=1) ∅ (iH (List.replicate d 0));have e1:redT 1 (List.replicate d 0)=List.replicate d 0:=hrs.1;have e2:redU 1 (List.replicate d 0)=1:=hrs.2;refine⟨false,false,false,r,l2,idM d,List.replicate d 0,1,1,rfl,((hR.up s2).up s3).b,SqB.lst e3,by simp[idM];omega,by simp;omega,gb,∅,Sx,λn=>absurd g n,λ_ q H4 s4 hq=>?_⟩;rw[e1,e2]at hq;exact hQ q H4 ((s1.trans (s2.trans s3)).trans s4) hq
def sp_1p(K:Frag):Sp:=λvs H Q _=>E4 λ(p:Addr)(ts:LI')(u:Int)(d:Nat)=>A7 (vs=[.ref p]) (oI H p ts u) (ts.length=d) ((d=2\/d=3)) (u≠0) (lQ u) (∀q H',Same H H'->nZ K H' q (idM d) (redT u ts) (redU u ts)->Q (.ref q) H')
theorem ok_1p(T:Txt K mg t):FnOk P w K mg base CX0 8 t.a_1p t.d_1p pO' (sp_1p K):=by
 have G_1n:=@ok_1n P w K mg base t T;have G_h:=@ok_h P w K mg base t T;apply T.F_1p.ok sc_1p
 ·obtain⟨p,ts,u,d,rfl,hP,hl,hd,hu,su,hQ⟩:=h;refine⟨_,(pQ (oA (jG G_1n hr.mo rfl T.F_1n.m T.F_1n.kp T.F_1n.b .nil iD (pK (pU G_h hr.mo T.F_h (pK (oS T.z_len (pS (pq 0))) pL)) (pK (pS (pq 0)) (pK (pS (pq 0)) pL)))))),?_⟩;show tRet _ _ [some (.ref p)] H;ext;refine kC hP λx hx=>nU (b:=true) (SqB.tup hx) ?_
  try ext
  rw[hl];refine⟨d,rfl,⋯,λr H1 _ s1 hR=>?_⟩
  try ext
  refine kC (hP.up s1) λx2 hx2=>jD (hP.up s1) ?_;obtain⟨g,gb⟩:=Hh hd;refine⟨false,false,true,r,x2,idM d,ts,u,1,rfl,hR.b,SqB.tup hx2,by simp[idM];omega,⋯,gb,∅,su,λn=>absurd ⟨g.1,g.2.1,by simp[idM,hl],hu,g.2.2.2.2⟩ n,λ_ q H4 s4 hq=>hQ q H4 (s1.trans s4) hq⟩
noncomputable def dF(M:LM)(ts:LI')(u:Int):PyData:=.tuple [matD true true M,kY true ts,.int u]
theorem Sw{M N:LM}{ts ns:LI'}{u v:Int}:dF M ts u=dF N ns v↔(M=N/\ts=ns/\u=v):=by
 unfold dF;simp only[PyData.tuple.injEq,List.cons.injEq,PyData.int.injEq,and_true,Ov,Ak]
theorem Dt.deed{K:Frag}{H:Hp}{p:Addr}{M:LM}{ts:LI'}{u:Int}(h:nZ K H p M ts u):Dt K H (.ref p) (dF M ts u):=by
 obtain⟨pr,pt,h1,h2,h3⟩:=h;exact .tup (SqT.of h1) (.cons (Dt.matB h2) (.cons (Dt.intsB (SqB.tup h3)) (.cons (.int u) .nil)))
abbrev Dd:=LM×List Int×Int
noncomputable def dat(x:Dd):PyData:=dF x.1 x.2.1 x.2.2
theorem bZ{x y:Dd}:dat x=dat y↔x=y:=by
 obtain⟨M,ts,u⟩:=x;obtain⟨N,ns,v⟩:=y;unfold dat;rw[Sw];simp
theorem fI{n:Nat}{ds:List PyData}:tT (n+1) (.tuple ds)=ds.all (tT n):=rfl
theorem mP(x:Dd):tT 4 (dat x)=true:=by
 obtain⟨M,ts,u⟩:=x;have hi:∀(n:Nat)(l:LI'),(l.map PyData.int).all (tT n)=true:=λn l=>by
  rw[vM];intro d hd;obtain⟨i,_,rfl⟩:=qW.mp hd;cases n <;> rfl
 show tT 4 (.tuple [.tuple (M.map λr=>.tuple (r.map PyData.int)),.tuple (ts.map PyData.int),.int u])=true;rw[fI,xC,xC,xC,fI,fI,hi];have:(M.map λr=>PyData.tuple (r.map PyData.int)).all (tT 2)=true:=by
  rw[vM];intro d hd;obtain⟨r,_,rfl⟩:=qW.mp hd;rw[fI];exact hi 1 r
 rw[this];rfl
def DdAt(K:Frag)(H:Hp)(p:Addr)(x:Dd):Prop:=nZ K H p x.1 x.2.1 x.2.2
theorem DdAt.up{K:Frag}{H H':Hp}{p:Addr}{x:Dd}(h:DdAt K H p x)(s:Same H H'):DdAt K H' p x:=nZ.up h s
theorem DdAt.dt{K:Frag}{H:Hp}{p:Addr}{x:Dd}(h:DdAt K H p x):Dt K H (.ref p) (dat x):=Dt.deed h
noncomputable def oB(x:Dd):Dd:=(x.1,oO x.2.2 x.2.1,x.2.2)
noncomputable def behD(d:Nat)(x s:Dd):Dd:=(mulM d s.1 x.1,redT (s.2.2*x.2.2) (movT s.1 s.2.1 s.2.2 x.2.1 x.2.2),redU (s.2.2*x.2.2) (movT s.1 s.2.1 s.2.2 x.2.1 x.2.2))
noncomputable def oK(d:Nat)(x s:Dd):Dd:=oB (behD d x s)
noncomputable def oQ(d:Nat):Dd:=(idM d,List.replicate d 0,1)
abbrev Tb:=List (Dd×List Nat)
noncomputable def nxt(d:Nat)(x:Dd)(w:List Nat)(tb:Tb)(ks:Dd×Nat):Tb:=if oK d x ks.1∈tb.map (·.1) then tb else tb++[(oK d x ks.1,w++[ks.2])]
noncomputable def lU(d:Nat)(ss:List Dd)(tb:Tb)(i:Nat):Tb:=match tb[i]? with
 |none=>tb
 |some xw=>ss.zipIdx.foldl (nxt d xw.1 xw.2) tb
noncomputable def nH(d:Nat)(ss:List Dd):Nat->Nat->Tb->Tb
 |0,_,tb=>tb
 |n+1,i,tb=>if i<tb.length then nH d ss n (i+1) (lU d ss tb i) else tb
theorem Sv(d:Nat)(x:Dd)(w:List Nat)(tb:Tb)(ks:Dd×Nat):∃r,nxt d x w tb ks=tb++r:=by
 unfold nxt;split
 ·exact⟨[],by simp⟩
 ·exact⟨_,rfl⟩
theorem dG(d:Nat)(x:Dd)(w:List Nat):∀(l:List (Dd×Nat))(tb:Tb),∃r,l.foldl (nxt d x w) tb=tb++r
 |[],tb=>⟨[],by simp⟩
 |k:: l,tb=>by
  obtain⟨r1,e1⟩:=Sv d x w tb k;obtain⟨r2,e2⟩:=dG d x w l (nxt d x w tb k);exact⟨r1++r2,by rw[wK,e2,e1,yR]⟩
theorem Hg(d:Nat)(ss:List Dd)(tb:Tb)(i:Nat):∃r,lU d ss tb i=tb++r:=by
 unfold lU;split
 ·exact⟨[],by simp⟩
 ·exact dG ..
theorem aA(d:Nat)(ss:List Dd):∀(n i:Nat)(tb:Tb),∃r,nH d ss n i tb=tb++r
 |0,i,tb=>⟨[],by simp[nH]⟩
 |n+1,i,tb=>by
  unfold nH;split
  ·obtain⟨r1,e1⟩:=Hg d ss tb i;obtain⟨r2,e2⟩:=aA d ss n (i+1) (lU d ss tb i);exact⟨r1++r2,by rw[e2,e1,yR]⟩
  ·exact⟨[],by simp⟩
def mQ(d:Nat)(x:Dd):Prop:=Fine d x.1 x.2.1 x.2.2
def TbAt(H:Hp)(tb:Tb)(kvs:List (PyData×V)):Prop:=Paired (λ(x:Dd×List Nat)(kv:PyData×V)=>kv.1=dat x.1/\∃p,kv.2=.ref p/\H p=some (.lst (x.2.map λn=>V.int (n:Nat)))) tb kvs
def sp_1d(K:Frag):Sp:=λvs H Q _=>E8 λ(b:Bool)(d:Nat)(a:Addr)(ps:LA)(ms:List Dd)(most:Nat)(G:Dd->Prop)(N:Nat)=>A14 (vs=[.int d,.ref a,.int most]) ((d=2\/d=3)) (SqB b K H a (ps.map V.ref)) (Paired (DdAt K H) ps ms) (ms.length<=200) ((∀s∈ms,mQ d s)) ((∀s∈ms,mQ d (oB s))) ((∀x,G x->mQ d x)) (G (oQ d)) ((∀x s,G x->s∈ms->G (oK d x (oB s)))) (most<=200) ((nH d (ms.map oB) N 0 [(oQ d,[])]).length<=most) ((nH d (ms.map oB) N 0 [(oQ d,[])]).length<=N) (∀w kvs H',Same H H'->H w=none->DTr K H' w kvs->TbAt H' (nH d (ms.map oB) N 0 [(oQ d,[])]) kvs->Q (.ref w) H')
def sp_p:Sp:=λvs H Q _=>E1 λ(n:Nat)=>A4 (vs=[.int n]) (1<=n) (n<=200) (Q .non H)
def sp_w(K:Frag):Sp:=λvs H Q _=>E5 λ(b:Bool)(d:Nat)(a:Addr)(ps:LA)(ms:List Dd)=>A6 (vs=[.int d,.ref a]) ((d=2\/d=3)) (SqB b K H a (ps.map V.ref)) (Paired (DdAt K H) ps ms) ((∀s∈ms,s.1.length=d)) (∀H',Same H H'->Q .non H')
theorem Su{prog:Program}{w:World}:∀n,n<=200->eX prog w n:=λn _=>Qr n
theorem Hf{K:Frag}{H:Hp}{a b:Addr}{kvs:List (PyData×V)}{k:PyData}{v:V}{Q:VK}(g:DTr K H a kvs)(t:tT 4 k=true)(d:Dt K H (.ref b) k)(e:vT kvs k=some v)(q:Q v H):Ah K (.ref a) (.ref b) H Q:=⟨a,kvs,b,k,v,rfl,rfl,g,t,d,e,q⟩
theorem Ss{K:Frag}{H:Hp}{a b:Addr}{kvs:List (PyData×V)}{k:PyData}{neg:Bool}{Q:VK}(g:DTr K H a kvs)(t:tT 4 k=true)(d:Dt K H (.ref b) k)(q:Q (.bl (if neg=true then !(vT kvs k).isSome else(vT kvs k).isSome)) H):rInT K neg (.ref b) (.ref a) H Q:=⟨a,kvs,b,k,rfl,rfl,g,t,d,q⟩
theorem lB{α β:Type}{f:α->β}{l:List α}{i:Nat}{y:β}(h:(l.map f)[i]?=some y):∃x,l[i]?=some x/\y=f x:=by
 rw[zC]at h;cases hx:l[i]? with
 |none=>rw[hx]at h;cases h
 |some x=>rw[hx]at h;exact⟨x,rfl,(zR h).symm⟩
structure TK(K:Frag)(H H':Hp):Prop where
 k:∀b xs,H b=some (.tup xs)->H' b=some (.tup xs)
 t:∀b xs,SqT K H b xs->SqT K H' b xs
theorem TK.trans{K:Frag}{H H1 H2:Hp}(a:TK K H H1)(b:TK K H1 H2):TK K H H2:=⟨λc xs e=>b.k _ _ (a.k _ _ e),λc xs e=>b.t _ _ (a.t _ _ e)⟩
theorem TK.off{K:Frag}{H H':Hp}{a:Addr}{o:HO}(e:H a=some o)(hn:∀xs,o≠.tup xs)(hf:∀ob u,o≠.frz ob u)(h:∀c,c≠a->H' c=H c):TK K H H':=by
 have k:∀b xs,H b=some (.tup xs)->H' b=some (.tup xs):=λb xs q=>by
  rw[h b λz=>hn xs (by rw[z,e]at q;exact zR q)];exact q
 refine⟨k,λb xs q=>?_⟩;rcases q with(q|⟨ob,q⟩)|q
 ·exact .inl (.inl (k _ _ q))
 ·exact .inl (.inr ⟨ob,by rw[h b λz=>hf _ _ (by rw[z,e]at q;exact zR q)];exact q⟩)
 ·exact .inr q
theorem MatB.tk{K:Frag}{H H':Hp}{a:Addr}{M:LM}(h:MatB true true K H a M)(s:TK K H H'):MatB true true K H' a M:=let ⟨ps,h1,h2,h3⟩:=h;⟨ps,s.t _ _ h1,h2,λi p r e1 e2=>s.t _ _ (h3 i p r e1 e2)⟩
theorem DdAt.tk{K:Frag}{H H':Hp}{p:Addr}{x:Dd}(h:DdAt K H p x)(s:TK K H H'):DdAt K H' p x:=let ⟨pr,pt,h1,h2,h3⟩:=h;⟨pr,pt,s.k _ _ h1,MatB.tk h2 s,s.k _ _ h3⟩
theorem DTr.tk{K:Frag}{H H':Hp}{a:Addr}{kvs:List (PyData×V)}(h:DTr K H a kvs)(s:TK K H H')(e:H' a=H a):DTr K H' a kvs:=by
 obtain⟨l,y,xs,ea,n,r⟩:=h;exact⟨l,y,xs,e.trans ea,n,r.keeps s.t⟩
structure CI(K:Frag)(H0:Hp)(qs:LA)(ss:List Dd)(as af aw:Addr)(tb:Tb)(H:Hp):Prop where
 s:∀b o,H0 b=some o->H b=some o
 st:H as=some (.lst (qs.map V.ref))/\Paired (DdAt K H) qs ss
 fo:∃fs,H af=some (.lst (fs.map V.ref))/\Paired (λp(x:Dd×List Nat)=>DdAt K H p x.1) fs tb
 wo:∃kvs,DTr K H aw kvs/\Paired (λ(x:Dd×List Nat)(kv:PyData×V)=>kv.1=dat x.1/\∃p,kv.2=.ref p/\p≠af/\H p=some (.lst (x.2.map λn=>V.int (n:Nat)))) tb kvs
 n1:H0 as=none
 n2:H0 af=none
 n3:H0 aw=none
 x1:as≠af
theorem CI.up{K:Frag}{H0 H H':Hp}{qs:LA}{ss:List Dd}{as af aw:Addr}{tb:Tb}(h:CI K H0 qs ss as af aw tb H)(s:Same H H'):CI K H0 qs ss as af aw tb H':=by
 obtain⟨a1,⟨b1,b2⟩,⟨fs,c1,c2⟩,⟨kvs,d1,d2⟩,n1,n2,n3,x1⟩:=h;exact⟨λb o e=>s _ _ (a1 _ _ e),⟨s _ _ b1,Paired.mapP b2 λ_ _ z=>z.up s⟩,⟨fs,s _ _ c1,Paired.mapP c2 λ_ _ z=>z.up s⟩,⟨kvs,d1.up s,Paired.mapP d2 λ_ _ z=>let ⟨z1,p,z2,z3,z4⟩:=z;⟨z1,p,z2,z3,s _ _ z4⟩⟩,n1,n2,n3,x1⟩
theorem He{H:Hp}{af:Addr}{x:Dd}:∀{tb:Tb}{kvs:List (PyData×V)},Paired (λ(x:Dd×List Nat)(kv:PyData×V)=>kv.1=dat x.1/\∃p,kv.2=.ref p/\p≠af/\H p=some (.lst (x.2.map λn=>V.int (n:Nat)))) tb kvs ->
  (x∉tb.map (·.1)/\vT kvs (dat x)=none)\/∃w p,(x,w)∈tb/\vT kvs (dat x)=some (.ref p)/\p≠af/\H p=some (.lst (w.map λn=>V.int (n:Nat))):=by
 intro tb kvs h
 induction h with
 |nil=>exact .inl ⟨by simp,rfl⟩
 | @cons y kv tb kvs hy _ ih =>
  obtain⟨e1,p,e2,e3,e4⟩:=hy
  by_cases z:y.1=x
  ·refine .inr ⟨y.2,p,by rw[←z];exact .head _,?_,e3,e4⟩;rw[eK (by rw[e1,z]),e2]
  ·have ne:¬ kv.1=dat x:=λq=>z (bZ.mp (e1.symm.trans q));rw[gT ne];rcases ih with⟨i1,i2⟩|⟨w,p,i1,i2⟩
   ·exact .inl ⟨by rw[zL,xE,not_or];exact⟨λq=>z q.symm,i1⟩,i2⟩
   ·exact .inr ⟨w,p,.tail _ i1,i2⟩
theorem Hd{d:Nat}{x:Dd}{w:List Nat}{tb:Tb}{ks:Dd×Nat}(h:(tb.map (·.1)).Nodup):((nxt d x w tb ks).map (·.1)).Nodup:=by
 unfold nxt;split
 ·exact h
 ·next q =>
  rw[xD,List.nodup_append];refine⟨h,by simp,λy hy z hz=>?_⟩;simp only[List.map_cons,List.map_nil,List.mem_singleton]at hz;rw[hz];exactλe=>q (e ▸ hy)
theorem Hc{d:Nat}{x:Dd}{w:List Nat}:∀(l:List (Dd×Nat))(tb:Tb),(tb.map (·.1)).Nodup->((l.foldl (nxt d x w) tb).map (·.1)).Nodup
 |[],_,h=>h
 |k:: l,tb,h=>Hc l _ (Hd h)
theorem Hb{d:Nat}{x:Dd}{w:List Nat}{tb:Tb}{ks:Dd×Nat}{G:Dd->Prop}(h:∀y∈tb,G y.1)(hs:G (oK d x ks.1)):∀y∈nxt d x w tb ks,G y.1:=by
 unfold nxt;split
 ·exact h
 ·intro y hy;rcases pH.mp hy with hy|hy
  ·exact h y hy
  ·rw[qV.mp hy];exact hs
theorem Sr{tb:Tb}(h:(tb.map (·.1)).Nodup){i:Nat}{x:Dd}{w w':List Nat}(e:tb[i]?=some (x,w))(m:(x,w')∈tb):w=w':=by
 obtain⟨j,hj⟩:=wF m;have e1:(tb.map (·.1))[i]?=some x:=by rw[zC,e];rfl
 have e2:(tb.map (·.1))[j]?=some x:=by rw[zC,hj];rfl
 have hi:i<(tb.map (·.1)).length:=(zqa e1).1;have:i=j:=(List.getElem?_inj hi h).mp (e1.trans e2.symm);subst this;rw[e]at hj;cases hj;rfl
theorem So{d:Nat}{ss:List Dd}{n i:Nat}{tb:Tb}(h:tb.length<=i):nH d ss n i tb=tb:=by
 cases n with
 |zero=>rfl
 |succ n=>unfold nH;rw[zI ⋯]
theorem Sn{d:Nat}{ss:List Dd}{n i:Nat}{tb:Tb}(h:i<tb.length)(hn:0<n):nH d ss n i tb=nH d ss (n-1) (i+1) (lU d ss tb i):=by
 obtain⟨m,rfl⟩:∃m,n=m+1:=⟨n-1,⋯⟩;show(if i<tb.length then _ else _)=_;rw[zJ h];rfl
theorem Sl{d:Nat}{ss:List Dd}{tb:Tb}{i:Nat}{x:Dd}{w:List Nat}(e:tb[i]?=some (x,w)):lU d ss tb i=ss.zipIdx.foldl (nxt d x w) tb:=by
 unfold lU;rw[e]
noncomputable def part(d:Nat)(x:Dd)(w:List Nat)(ss:List Dd)(tb:Tb)(i:Nat):Tb:=(ss.zipIdx.take i).foldl (nxt d x w) tb
theorem aB{d:Nat}{x s:Dd}{w:List Nat}{ss:List Dd}{tb:Tb}{i:Nat}(e:ss[i]?=some s):part d x w ss tb (i+1)=nxt d x w (part d x w ss tb i) (s,i):=by
 unfold part;rw[tP,sJ,e,uI];simp
theorem Sk{d:Nat}{x:Dd}{w:List Nat}{ss:List Dd}{tb:Tb}:part d x w ss tb ss.length=ss.zipIdx.foldl (nxt d x w) tb:=by
 unfold part;rw[wN (by simp)]
theorem Sj{d:Nat}{x:Dd}{w:List Nat}{ss:List Dd}{tb:Tb}(i:Nat):∃r,part d x w ss tb i=tb++r:=dG ..
theorem Ha{d:Nat}{x:Dd}{w:List Nat}{ss:List Dd}{tb:Tb}(i:Nat):(part d x w ss tb i).length<=(ss.zipIdx.foldl (nxt d x w) tb).length:=by
 have e:ss.zipIdx.foldl (nxt d x w) tb=(ss.zipIdx.drop i).foldl (nxt d x w) (part d x w ss tb i):=by
  unfold part;rw[←uI,xU]
 obtain⟨r,er⟩:=dG d x w (ss.zipIdx.drop i) (part d x w ss tb i);rw[e,er,zX];omega
def ND(tb:Tb):Prop:=(tb.map (·.1)).Nodup/\∀y∈tb,y.2.length<tb.length
theorem Si{d:Nat}{x:Dd}{w:List Nat}{tb:Tb}{ks:Dd×Nat}(h:ND tb)(hm:(x,w)∈tb):ND (nxt d x w tb ks):=by
 refine⟨Hd h.1,?_⟩;have hw:=h.2 _ hm;unfold nxt;split
 ·exact h.2
 ·intro y hy;rw[zX];rcases pH.mp hy with hy|hy
  ·have:=h.2 y hy;simp only[List.length_cons,List.length_nil];omega
  ·rw[qV.mp hy];simp only[List.length_append,List.length_cons,List.length_nil];have hw':w.length<tb.length:=hw;omega
theorem ok_p(T:Txt K mg t):FnOk P w K mg base CX0 2 t.a_p t.d_p ["most"] sp_p:=by
 apply T.F_p.ok sc_p
 ·obtain⟨n,rfl,h1,h2,hQ⟩:=h;refine⟨_,(pQ (oU (PW.pt (jP (oR fS (pq 0) pR (oP _)) (gL (oR fT (pq 0) (Oo (v:=(.int 200)) rfl T.g_MOST_MEMBERS) (oP _)))))
   (pQ kQ)
   oY)),?_⟩
  show tIfS _ _ _ _ [some (.int n)] H;ext;rw[zN (show¬ (n:Int)<1 by omega),zN (show¬ (200:Int)<n by omega)];refine iteF (iteF ?_);exact hQ
theorem lC{α β:Type}{F:α->β->Prop}{xs:List α}{ys:List β}(h:Paired F xs ys):∀{i:Nat}{x:α},xs[i]?=some x->∃y,ys[i]?=some y/\F x y:=by
 induction h with
 |nil=>intro i x e;simp at e
 |cons h1 _ ih =>
  intro i x e;cases i with
  |zero=>cases e;exact⟨_,rfl,h1⟩
  |succ i=>exact ih (by simpa using e)
theorem ok_w(T:Txt K mg t):FnOk P w K mg base CX0 2 t.a_w t.d_w ["d","makers"] (sp_w K):=by
 apply T.F_w.ok sc_w
 ·obtain⟨b,d,a,ps,ms,rfl,hd,hS,hp,hl,hQ⟩:=h;refine⟨_,(pM (oU (oR cG (pq 0) (nJ (pK pR (pK pR pL))) rfl)
   (pQ kQ)
   oY)
   (pQ (mX yS rfl (oH (pq 1)) (oV (i:=2) sc_w.nd rfl (Or.inl rfl))
   (pQ (oU (oR lW (oS T.z_len (pS (pq 2))) (pq 0) (oP _))
   (pQ kQ)
   oY))))),?_⟩
  show tSeq _ _ _ [some (.int d),some (.ref a),none] H;right;refine⟨by show 2<=sizeLine;decide,λp1 hp1=>?_⟩;have s1:Same H (upd H p1 (.tup [.int 2,.int 3])):=Same.new hp1;refine⟨p1,_,rfl,.inr (SqT.of pV),rfl,rfl,_,rfl,?_⟩;generalize upd H p1 (.tup [.int 2,.int 3])=H1 at s1;rw[inV2,zK ⋯];refine iteF ?_;subst e1;refine mZ λB eB=>?_;simp only[iSeq];ext;refine⟨b,⟨_,hS.up s1⟩,?_⟩;refine kI (g:=pY 2) (tb:=B) (nx:=λ_ H'=>Q .non H') (rt:=Q) (λi σ H2=>∃v,σ=[some (.int d),some (.ref a),v]/\Same H H2) ⟨_,rfl,s1⟩ (λi σ H2 _⟨_,_,s2⟩=>hS.up s2) ?_ ?_
  ·rintro i x σ H2 ex ⟨v,rfl,s2⟩;rw[zC]at ex;cases hp':ps[i]? with
   |none=>rw[hp']at ex;cases ex
   |some q =>
    rw[hp']at ex;cases ex;obtain⟨m,em,hm⟩:=lC hp hp';subst eB;show tIfS _ _ _ _ [some (.int d),some (.ref a),some (.ref q)] H2;ext;refine Hj (DdAt.up hm s2) λx hx=>jJ hx ?_
    try ext
    rw[hl m (zqb em),zK rfl];refine iteF ?_;exact s2
  ·rintro σ H2 ⟨v,rfl,s2⟩;exact hQ H2 s2
noncomputable def offH(a:Addr)(H:Hp):Hp:=λb=>if b=a then none else H b
theorem dH{a:Addr}{H:Hp}:Same (offH a H) H:=λb o e=>by
 unfold offH at e
 by_cases z:b=a
 ·rw[zJ z]at e;cases e
 ·rw[zI z]at e;exact e
theorem dI{a:Addr}{H1 H2:Hp}(s:kA a H1 H2):Same (offH a H1) (offH a H2):=λb o e=>by
 unfold offH at e ⊢
 by_cases z:b=a
 ·rw[zJ z]at e;cases e
 ·rw[zI z]at e ⊢;exact s _ _ z e
theorem gE{K:Frag}{a:Addr}{H:Hp}{xs:List V}(e:H a=some (.lst xs)):TK K H (offH a H):=TK.off e (λ_ z=>by cases z) (λ_ _ z=>by cases z) λc hc=>by unfold offH;rw[zI hc]
def DdR(K:Frag)(a:Addr)(ms:List Dd)(j:Nat)(y:V)(H:Hp):Prop:=∃q m,y=.ref q/\ms[j]?=some m/\DdAt K (offH a H) q m
theorem DdR.mono{K:Frag}{a:Addr}{ms:List Dd}(i:Nat)(y:V)(H1 H2:Hp)(h:DdR K a ms i y H1)(s:kA a H1 H2):DdR K a ms i y H2:=let ⟨q,m,e,em,d⟩:=h;⟨q,m,e,em,d.up (dI s)⟩
theorem aC{K:Frag}{a:Addr}{H:Hp}:∀{ms:List Dd}{ys:List V},ys.length=ms.length->(∀j y,ys[j]?=some y->DdR K a ms j y H)->∃qs:LA,ys=qs.map V.ref/\Paired (DdAt K H) qs ms
 |[],[],_,_=>⟨[],rfl,.nil⟩
 | m:: ms,y:: ys,hl,h=>by
  obtain⟨q,m',e,em,d⟩:=h 0 y rfl;cases em;obtain⟨qs,e2,p2⟩:=aC (K:=K) (a:=a) (H:=H) (ms:=ms) (ys:=ys) (by simpa using hl) λj y' ej=>by
   obtain⟨q,m',e,em,d⟩:=h (j+1) y' (by simpa using ej);exact⟨q,m',e,by simpa using em,d⟩
  exact⟨q:: qs,by rw[e,e2];rfl,.cons (d.up dH) p2⟩
theorem gF{H:Hp}{p:Addr}{x:V}{xs:List V}{i:Nat}{I:Int}{Q:VK}(e:H p=some (.lst xs))(ei:xs[i]?=some x)(hi:I=i)(q:Q x H):rIxB K (.ref p) (.int I) H Q:=⟨false,p,_,_,_,rfl,rfl,SqB.lst e,nY ei hi,q⟩
theorem tyL{H:Hp}{p:Addr}{xs:List V}(e:H p=some (.lst xs)):tyV K "list" (.ref p) H:=.inl ⟨rfl,xs,.inl (.inl e)⟩
def CPv(K:Frag)(H0:Hp)(G:Dd->Prop)(qs:LA)(ss:List Dd)(a as af aw:Addr)(d i most:Nat)(f:Nat->Tb)(k:Nat)(σ:St)(H:Hp):Prop:=
 ∃v7 v8 v9,σ=[some (.int d),some (.ref a),some (.int most),some (.ref as),some (.ref af),some (.ref aw),some (.int i),v7,v8,v9]/\CI K H0 qs ss as af aw (f k) H/\ND (f k)/\(∀y∈f k,G y.1)
theorem ok_1d(T:Txt K mg t):FnOk P w K mg base CX0 10 t.a_1d t.d_1d pv' (sp_1d K):=by
 have G_1q:=@ok_1q P w K mg base t T;have G_1o:=@ok_1o P w K mg base t T;have G_1g:=@ok_1g P w K mg base t T;apply T.F_1d.ok sc_1d
 ·have hu:=hr.units;obtain⟨b,d,a,ps,ms,most,G,N,rfl,hd,hS,hp,hm,hf1,hf2,hG,hG0,hGs,h200,hlen,hN,hQ⟩:=h;refine⟨_,(pM (kZ (i:=3) (sc:=pN s_1d) (N:=N_1d) (fr:=[]) (te:=(nL (sp_1q K) [] E0 (pW (tVar 0) tNil))) rfl rfl (nofun) rfl sc_1d.nd rfl rfl (nofun) (oH (pq 1)) (λ_ _ _ hE1=>(pU G_1q hr.mo T.F_1q (pK (pv 0) pL))))
   (pM (pZ (i:=4) sc_1d.nd rfl (Or.inl rfl) (lG (pK (pU G_1o hr.mo T.F_1o (pK (pq 0) pL)) pL)))
   (pM (pZ (i:=5) sc_1d.nd rfl (Or.inr rfl) (Pw hu (pS (pq 4)) (lG pL)))
   (pM (pZ (i:=6) sc_1d.nd rfl (Or.inl rfl) pR)
   (pM (aT yS (oR fS (pq 6) (oS T.z_len (pq 4)) (oP _))
   (pM (mX yS rfl (cN rfl T.z_enumerate (pK (pq 3) pL)) (lE rfl (nB (oV (i:=7) sc_1d.nd rfl (Or.inl rfl)) (nB (oV (i:=8) sc_1d.nd rfl (Or.inl rfl)) lD)))
   (pM (pZ (i:=9) sc_1d.nd rfl (Or.inl rfl) (pU G_1q hr.mo T.F_1q (pK (pU G_1g hr.mo T.F_1g (pK (nD ix_B (pq 4) (pq 6) (λ_ _=>rfl)) (pK (pq 8) pL))) pL)))
   (pM (oU (oR (Ob hu) (pq 9) (pq 5) rfl)
   (pM (jQ (pO cI (nD (ix_T hu) (pq 5) (nD ix_B (pq 4) (pq 6) (λ_ _=>rfl)) (λ_ _=>rfl)) (lG (pK (pq 7) pL))) (aS (pq 5) (pq 9) (Pz hu)))
   (pQ (kP (cH vX vN vQ fX (pq 4) (pK (pq 9) pL)))))
   oY)
   (pQ (oU (oR fT (oS T.z_len (pq 4)) (pq 2) (oP _))
   (pQ kQ)
   oY)))))
   (pQ (Dh (i:=6) sc_1d.nd rfl (Or.inl rfl) pR Dg))))
   (pQ (oA (pq 5)))))))),?_⟩
  show tSeq _ _ _ [some (.int d),some (.ref a),some (.int most),none,none,none,none,none,none,none] H;have hpl:ps.length=ms.length:=nP hp;right;exfalso;refine⟨b,⟨_,hS⟩,λas has=>?_⟩;refine oT (DdR K as (ms.map oB)) has hS (by rw[zqe];omega) DdR.mono ?_ ?_
  ·intro i x H1 zs ex s1 ez Q' hQ';obtain⟨q,hp',rfl⟩:=lB ex;obtain⟨m,em,hdm⟩:=lC hp hp';have fm:=hf1 m (zqb em);subst eB;show nL _ _ _ _ [some (.ref q)] H1 Q';ext;refine⟨q,m.1,m.2.1,m.2.2,rfl,DdAt.up hdm s1,by rw[fm.sq.1];omega,by rw[fm.len];omega,fm.pos,λr H2 s2 hr2=>?_⟩;refine hQ' _ _ s2 ⟨r,oB m,rfl,by rw[zC,em];rfl,?_⟩;exact DdAt.tk (show DdAt K H2 r (oB m) from hr2) (gE (s2 _ _ ez))
  ·intro H1 ys s1 e1' hl1 hr1;obtain⟨qs,rfl,hqs⟩:=aC (by rw[hl1,zqe,zqe];omega) hr1;left;refine⟨d,rfl,hd,λq0 H2 s2 hq0=>⟨by show 1<=sizeLine;decide,λaf haf=>?_⟩⟩;have s3:Same H2 (upd H2 af (.lst [.ref q0])):=Same.new haf;have ef:(upd H2 af (.lst [.ref q0])) af=some (.lst [.ref q0]):=pV;generalize upd H2 af (.lst [.ref q0])=H3 at*
   have hq3:DdAt K H3 q0 (oQ d):=DdAt.up hq0 s3;have es3:=s3 _ _ (s2 _ _ e1');have hqs3:=Paired.mapP hqs λ_ _ z=>z.up (s2.trans s3);have s03:=(s1.trans s2).trans s3;have hfa:H af=none:=by
    cases z:H af with
    |none=>rfl
    |some o=>rw[s2 _ _ (s1 _ _ z)]at haf;cases haf
   have xsf:as≠af:=λz=>by rw[z]at e1';rw[s2 _ _ e1']at haf;cases haf
   subst e1;refine st λN1 e1=>?_;simp only[Gz];ext;intro aw haw;have s4:Same H3 (upd H3 aw (mV aw [])):=Same.new haw;have ew:(upd H3 aw (mV aw [])) aw=some (mV aw []):=pV;have hwa:H aw=none:=by
    cases z:H aw with
    |none=>rfl
    |some o=>rw[s03 _ _ z]at haw;cases haw
   generalize upd H3 aw (mV aw [])=H4 at*;ext;refine gF (i:=0) (s4 _ _ ef) rfl rfl ?_;refine⟨yU _,λp0 hp0=>?_⟩;have s5:Same H4 (upd H4 p0 (.lst [])):=Same.new hp0;have ep:(upd H4 p0 (.lst [])) p0=some (.lst []):=pV;have xp:p0≠af:=λz=>by rw[z,s4 _ _ ef]at hp0;cases hp0
   have xw:p0≠aw:=λz=>by rw[z,ew]at hp0;cases hp0
   generalize upd H4 p0 (.lst [])=H5 at*;refine⟨q0,rfl,dat (oQ d),mP _,(DdAt.up hq3 (s4.trans s5)).dt,s5 _ _ ew,λH6 h6 hD=>?_⟩;have xaw:∀b o,H b=some o->b≠aw:=λb o e z=>by rw[z,hwa]at e;cases e
   have tk6:TK K H5 H6:=TK.off (s5 _ _ ew) (λ_ z=>by cases z) (λ_ _ z=>by cases z) h6;have asw:as≠aw:=λz=>by rw[z]at es3;rw[es3]at haw;cases haw
   have afw:af≠aw:=λz=>by rw[z]at ef;rw[ef]at haw;cases haw
   have ci:CI K H qs (ms.map oB) as af aw [(oQ d,[])] H6:=⟨λb o e=>by rw[h6 b (xaw b o e)];exact s5 _ _ (s4 _ _ (s03 _ _ e)),⟨by rw[h6 _ asw];exact s5 _ _ (s4 _ _ es3),Paired.mapP hqs3 λ_ _ z=>DdAt.tk (z.up (s4.trans s5)) tk6⟩,
    ⟨[q0],by rw[h6 _ afw];exact s5 _ _ (s4 _ _ ef),.cons (DdAt.tk (DdAt.up hq3 (s4.trans s5)) tk6) .nil⟩,⟨_,hD,.cons ⟨rfl,p0,rfl,xp,by rw[h6 _ xw];exact ep⟩ .nil⟩,has,hfa,hwa,xsf⟩
   clear hD tk6 ep xp xw hp0 s5 ew s4 haw hqs3 es3 hq3 ef s3 haf hq0 s2 hqs hr1 hl1 e1' s1 s03 afw asw xaw h6;left;subst e1;refine st λN1 e1=>Fz λB eB=>?_;refine⟨λm σ H'=>∃(i:Nat)(tb:Tb)(v7 v8 v9:Option V),σ=[some (.int d),some (.ref a),some (.int most),some (.ref as),some (.ref af),some (.ref aw),some (.int i),v7,v8,v9]/\CI K H qs (ms.map oB) as af aw tb H'/\nH d (ms.map oB) (N-i) i tb=nH d (ms.map oB) N 0 [(oQ d,[])]/\ND tb/\(∀y∈tb,G y.1)/\m=N-i,
    ⟨N,0,_,none,none,none,rfl,ci,rfl,⟨by simp,λy hy=>by rw[List.mem_singleton.mp hy];exact Nat.zero_lt_one⟩,λy hy=>by rw[qV.mp hy];exact hG0,rfl⟩,?_⟩
   clear ci;rintro m σ H7 ⟨i,tb,v7,v8,v9,rfl,ci,hc,nd,gd,rfl⟩;ext;obtain⟨fs,f1,f2⟩:=ci.fo;have fl:fs.length=tb.length:=nP f2;refine⟨false,af,_,rfl,SqB.lst f1,?_⟩
   try ext
   rw[zqe,fl]
   by_cases hi:i<tb.length
   case neg =>
    rw[zN ⋯];refine iteF ?_;symm;rw[So ⋯]at hc;obtain⟨kvs,d1,d2⟩:=ci.wo;refine hQ aw kvs H7 ci.s ci.n3 d1 ?_;rw[←hc];exact Paired.mapP d2 λ_ _ z=>let ⟨z1,p,z2,_,z4⟩:=z;⟨z1,p,z2,z4⟩
   rw[zK (show(i:Int)<tb.length by omega)];obtain⟨⟨x,wd⟩,ex⟩:∃xw,tb[i]?=some xw:=⟨_,zqd hi⟩;have preF:=aA d (ms.map oB) (N-i) i tb;have hNi:0<N-i:=by
    obtain⟨r,er⟩:=preF;rw[hc]at er;rw[er,zX]at hN;omega
   rw[Sn hi hNi,Sl ex]at hc;have leF:((ms.map oB).zipIdx.foldl (nxt d x wd) tb).length<=most:=by
    obtain⟨r,er⟩:=aA d (ms.map oB) (N-i-1) (i+1) ((ms.map oB).zipIdx.foldl (nxt d x wd) tb);rw[hc]at er;rw[er,zX]at hlen;omega
   refine iteT ⟨λσ' H'=>∃(tb':Tb)(v7 v8 v9:Option V),σ'=[some (.int d),some (.ref a),some (.int most),some (.ref as),some (.ref af),some (.ref aw),some (.int (i+1:Nat)),v7,v8,v9]/\CI K H qs (ms.map oB) as af aw tb' H'/\nH d (ms.map oB) (N-(i+1)) (i+1) tb'=nH d (ms.map oB) N 0 [(oQ d,[])]/\ND tb'/\(∀y∈tb',G y.1),?_,?_⟩
   ·rintro σ' H' ⟨tb',v7,v8,v9,rfl,k1,k2,k3,k4⟩;exact⟨N-(i+1),⋯,i+1,tb',v7,v8,v9,rfl,k1,k2,k3,k4,rfl⟩
   subst eB;refine st λN2 e2=>mZ λB eB=>?_;simp only[eG];ext;refine⟨false,⟨_,SqB.lst ci.st.1⟩,?_⟩;refine Fm (g:=gTup K 2 (nC (pY 7) (nC (pY 8) gNil))) (tb:=B) (CPv K H G qs (ms.map oB) a as af aw d i most (part d x wd (ms.map oB) tb))
    ⟨_,_,_,rfl,ci,nd,gd⟩ (λk σ H' _⟨_,_,_,_,c,_⟩=>SqB.lst c.st.1) ?_ ?_
   ·rintro k y p σ H8 ey ⟨v7,v8,v9,rfl,c8,nd8,gd8⟩ hp8;obtain⟨q,hq',rfl⟩:=lB ey;obtain⟨sd,esd,_⟩:=lC c8.st.2 hq';have sp:=Same.new (o:=.tup [.int (k:Int),.ref q]) hp8;refine⟨p,[.int k,.ref q],rfl,SqT.of pV,rfl,_,[.ref q],rfl,_,[],rfl,rfl,?_⟩;have c9:=c8.up sp;generalize upd H8 p (.tup [.int (k:Int),.ref q])=H9 at*
    clear c8;obtain⟨r0,er0⟩:=Sj (d:=d) (x:=x) (w:=wd) (ss:=ms.map oB) (tb:=tb) k;have exk:(part d x wd (ms.map oB) tb k)[i]?=some (x,wd):=by rw[er0,yT hi];exact ex
    have lek:=Ha (d:=d) (x:=x) (w:=wd) (ss:=ms.map oB) (tb:=tb) k;have lek1:=Ha (d:=d) (x:=x) (w:=wd) (ss:=ms.map oB) (tb:=tb) (k+1);have hnx:∀v7 v8 v9 H',CI K H qs (ms.map oB) as af aw (nxt d x wd (part d x wd (ms.map oB) tb k) (sd,k)) H'->G (oK d x sd)->CPv K H G qs (ms.map oB) a as af aw d i most (part d x wd (ms.map oB) tb) (k+1) [some (.int d),some (.ref a),some (.int most),some (.ref as),some (.ref af),some (.ref aw),some (.int i),v7,v8,v9] H':=λv7 v8 v9 H' c gs=>⟨v7,v8,v9,rfl,by rw[aB esd];exact c,by rw[aB esd];exact Si nd8 (zqb exk),by rw[aB esd];exact Hb gd8 gs⟩;rw[aB esd]at lek1;generalize CPv K H G qs (ms.map oB) a as af aw d i most (part d x wd (ms.map oB) tb) (k+1)=NX at*
    generalize part d x wd (ms.map oB) tb k=tk at*;obtain⟨md,hmd,emd⟩:∃m∈ms,oB m=sd:=by
     have:=zqb esd;obtain⟨m,hm1,hm2⟩:=qW.mp this;exact⟨m,hm1,hm2⟩
    have gx:G x:=gd8 _ (zqb exk);have gs:G (oK d x sd):=by rw[←emd];exact hGs x md gx hmd
    have fx:=hG x gx;have fs':mQ d sd:=by rw[←emd];exact hf2 md hmd
    have fst:=hG _ gs;subst eB;show tSeq _ _ _ [some (.int d),some (.ref a),some (.int most),some (.ref as),some (.ref af),some (.ref aw),some (.int i),some (.int k),some (.ref q),v9] H9;refine st λN3 e3=>?_;ext;obtain⟨fs2,g1,g2⟩:=c9.fo;obtain⟨fp,efp⟩:∃fp,fs2[i]?=some fp:=⟨_,zqd (by rw[nP g2];exact(zqa exk).1)⟩;obtain⟨xw',exw',hfp⟩:=lC g2 efp;rw[exk]at exw';cases exw';obtain⟨sd',esd',hqd⟩:=lC c9.st.2 hq';rw[esd]at esd';cases esd';refine gF (i:=i) g1 (by rw[zC,efp];rfl) rfl ?_;refine⟨fp,q,x.1,sd.1,x.2.1,sd.2.1,x.2.2,sd.2.2,d,rfl,nZ.s hfp,nZ.s hqd,fx,fs',⋯,⋯,λr1 H10 s10 hr1=>?_⟩;have hr1':DdAt K H10 r1 (behD d x sd):=hr1;refine⟨r1,_,_,_,rfl,hr1',?_,?_,fst.pos,λr2 H11 s11 hr2=>?_⟩
    ·have:=fst.sq.1;show(mulM d sd.1 x.1).length<=100;have:(mulM d sd.1 x.1).length=d:=this;omega
    ·have:=fst.len;have e:(oO (behD d x sd).2.2 (behD d x sd).2.1).length=(behD d x sd).2.1.length:=by unfold oO;simp
     have:(oO (behD d x sd).2.2 (behD d x sd).2.1).length=d:=this;omega
    have hr2':DdAt K H11 r2 (oK d x sd):=hr2;have c11:=c9.up (s10.trans s11);subst e3;show tSeq _ _ _ [some (.int d),some (.ref a),some (.int most),some (.ref as),some (.ref af),some (.ref aw),some (.int i),some (.int k),some (.ref q),some (.ref r2)] H11;refine st λN4 e4=>?_;have key:∀H',CI K H qs (ms.map oB) as af aw (nxt d x wd tk (sd,k)) H'->N4 [some (.int d),some (.ref a),some (.int most),some (.ref as),some (.ref af),some (.ref aw),some (.int i),some (.int k),some (.ref q),some (.ref r2)] H':=by
     intro H' c';subst e4;ext;obtain⟨fs3,g3,g4⟩:=c'.fo;refine⟨false,af,_,rfl,SqB.lst g3,?_⟩
     try ext
     rw[zqe,nP g4,zN ⋯];refine iteF ?_;exact hnx _ _ _ H' c' gs
    ext;obtain⟨kvs,d1,d2⟩:=c11.wo;refine Ss d1 (mP _) hr2'.dt ?_;rcases He (x:=oK d x sd) d2 with⟨z1,z2⟩|⟨wd',pw,z1,z2,z3,z4⟩
    case inr =>
     rw[z2]
     try ext
     refine key H11 ?_;have en:nxt d x wd tk (sd,k)=tk:=zJ (qW.mpr ⟨_,z1,rfl⟩);rw[en];exact c11
    rw[z2]
    try ext
    rw[zJ (by rfl)];obtain⟨fs4,g5,g6⟩:=c11.fo;obtain⟨fq,efq⟩:∃fq,fs4[i]?=some fq:=⟨_,zqd (by rw[nP g6];exact(zqa exk).1)⟩;obtain⟨xw2,exw2,hfq⟩:=lC g6 efq;rw[exk]at exw2;cases exw2;refine gF (i:=i) g5 (by rw[zC,efq];rfl) rfl ?_;rcases He (x:=x) d2 with⟨y1,_⟩|⟨wd',pw,y1,y2,y3,y4⟩
    ·exact absurd (qW.mpr ⟨_,zqb exk,rfl⟩) y1
    have ewd:=Sr nd8.1 exk y1;subst ewd;have hwl:wd.length<tk.length:=nd8.2 _ (zqb exk);have klen:tk.length=kvs.length:=nP d2;have hsz:1000<=sizeLine:=∅
    refine Hf d1 (mP _) (DdAt.dt hfq) y2 ?_;refine⟨by show 1<=sizeLine;decide,λp1 hp1=>?_⟩;have s12:Same H11 (upd H11 p1 (.lst [.int k])):=Same.new hp1;have ep1:(upd H11 p1 (.lst [.int k])) p1=some (.lst [.int k]):=pV;generalize upd H11 p1 (.lst [.int k])=H12 at*
    refine⟨pw,p1,_,_,rfl,rfl,s12 _ _ y4,ep1,by rw[zqe];show wd.length+1<=sizeLine;omega,λp2 hp2=>?_⟩;have s13:Same H12 (upd H12 p2 (.lst ((wd.map λn=>V.int (n:Nat))++[.int k]))):=Same.new hp2;have ep2:(upd H12 p2 (.lst ((wd.map λn=>V.int (n:Nat))++[.int k]))) p2=some (.lst ((wd.map λn=>V.int (n:Nat))++[.int k])):=pV;have c13:=c11.up (s12.trans s13);have hp2f:p2≠af:=λz=>by rw[z,s12 _ _ g5]at hp2;cases hp2
    generalize upd H12 p2 (.lst ((wd.map λn=>V.int (n:Nat))++[.int k]))=H13 at*;have t13:=s12.trans s13;have d13:=d1.up t13;have d213:=Paired.mapP d2 λ_ _ z=>(let ⟨z1,p,z2,z3,z4⟩:=z;⟨z1,p,z2,z3,t13 _ _ z4⟩:_/\∃p,_/\p≠af/\H13 p=_);have r13:=DdAt.up hr2' t13;have g513:=t13 _ _ g5;have g613:=Paired.mapP g6 λ_ _ z=>DdAt.up z t13;simp only[gSub];ext;have en:nxt d x wd tk (sd,k)=tk++[(oK d x sd,wd++[k])]:=zI z1;have pn:pT kvs (dat (oK d x sd)) (.ref p2)=kvs++[(dat (oK d x sd),.ref p2)]:=by
     unfold pT;rw[z2];rfl
    obtain⟨xsd,edw,_,_⟩:=d13.ex;have afw:af≠aw:=λz=>by rw[z,edw]at g513;cases g513
    have asw:as≠aw:=λz=>by have:=c13.st.1;rw[z,edw]at this;cases this
    refine⟨aw,kvs,r2,dat (oK d x sd),rfl,rfl,d13,mP _,r13.dt,⋯,λH14 _ k14 D14=>?_⟩;rw[pn]at D14;have D14':DTr K H14 aw (kvs++[(dat (oK d x sd),V.ref p2)]):=D14;have tk1:TK K H13 H14:=TK.off edw (λ_ z=>by cases z) (λ_ _ z=>by cases z) k14;have e14:H14 af=some (.lst (fs4.map V.ref)):=by rw[k14 af afw];exact g513
    refine⟨tyL e14,af,_,_,rfl,rfl,e14,by rw[zqe,nP g6];omega,key _ ?_⟩;rw[en];have k15:∀c,c≠af->upd H14 af (.lst (fs4.map V.ref++[.ref r2])) c=H14 c:=λc hc=>oE hc;have e15:upd H14 af (.lst (fs4.map V.ref++[.ref r2])) af=some (.lst (fs4.map V.ref++[.ref r2])):=pV;generalize upd H14 af (.lst (fs4.map V.ref++[.ref r2]))=H15 at*
    have tk2:TK K H14 H15:=TK.off e14 (λ_ z=>by cases z) (λ_ _ z=>by cases z) k15;have tk3:=tk1.trans tk2;have hlw:∀p xs,H13 p=some (.lst xs)->p≠aw:=λp xs e z=>by rw[z,edw]at e;cases e
    refine⟨λb o e=>?_,⟨?_,Paired.mapP c13.st.2 λ_ _ z=>DdAt.tk z tk3⟩,⟨fs4++[r2],by rw[e15];simp,tY (Paired.mapP g613 λ_ _ z=>DdAt.tk z tk3) (DdAt.tk r13 tk3)⟩,⟨kvs++[(dat (oK d x sd),V.ref p2)],DTr.tk D14' tk2 (k15 aw (yE afw)),tY (Paired.mapP d213 λ_ _ z=>?_) ⟨rfl,p2,rfl,hp2f,?_⟩⟩,c13.n1,c13.n2,c13.n3,c13.x1⟩
    ·have b1:b≠af:=λz=>by rw[z,c13.n2]at e;cases e
     have b2:b≠aw:=λz=>by rw[z,c13.n3]at e;cases e
     rw[k15 b b1,k14 b b2];exact c13.s b o e
    ·rw[k15 as c13.x1,k14 as asw];exact c13.st.1
    ·obtain⟨w1,p,w2,w3,w4⟩:=z;refine⟨w1,p,w2,w3,?_⟩;rw[k15 p w3,k14 p (hlw _ _ w4)];exact w4
    ·rw[k15 p2 hp2f,k14 p2 (hlw _ _ ep2),ep2];simp
   ·rintro σ H8 ⟨v7,v8,v9,rfl,c8,nd8,gd8⟩;have hql:(qs.map V.ref).length=(ms.map oB).length:=by rw[zqe];exact nP c8.st.2
    rw[hql,Sk]at c8 nd8 gd8;subst e2;refine⟨.int i,rfl,?_⟩;unfold tC ipI;refine⟨i,1,rfl,rfl,?_⟩;refine⟨_,v7,v8,v9,rfl,c8,?_,nd8,gd8⟩;rw[show N-(i+1)=N-i-1 by omega];exact hc
theorem Cp:∀{l l':LI'},l.length=l'.length->smA (l.map PyData.int) (l'.map PyData.int)=true
 |[],[],_=>rfl
 |_:: l,_:: l',h=>by
  show(sm (.int _) (.int _) && smA (l.map PyData.int) (l'.map PyData.int))=true;rw[Cp (by simpa using h)];rfl
theorem Iz{d:Nat}:∀{M M':LM},M.length=M'.length->(∀r∈M,r.length=d)->(∀r∈M',r.length=d)->smA (M.map λr=>PyData.tuple (r.map PyData.int)) (M'.map λr=>PyData.tuple (r.map PyData.int))=true
 |[],[],_,_,_=>rfl
 |r:: M,r':: M',h,h1,h2=>by
  show(smA (r.map PyData.int) (r'.map PyData.int) && smA (M.map λr=>PyData.tuple (r.map PyData.int)) (M'.map λr=>PyData.tuple (r.map PyData.int)))=true;rw[Cp ((h1 r (.head _)).trans (h2 r' (.head _)).symm),Iz (by simpa using h) (λx hx=>h1 x (.tail _ hx)) λx hx=>h2 x (.tail _ hx)];rfl
theorem Sh{d:Nat}{x y:Dd}(h1:mQ d x)(h2:mQ d y):sm (dat x) (dat y)=true:=by
 show(smA (x.1.map λr=>PyData.tuple (r.map PyData.int)) (y.1.map λr=>PyData.tuple (r.map PyData.int)) && (smA (x.2.1.map PyData.int) (y.2.1.map PyData.int) && (sm (.int _) (.int _) && true)))=true;rw[Iz (h1.sq.1.trans h2.sq.1.symm) h1.sq.2 h2.sq.2,Cp (h1.len.trans h2.len.symm)];rfl
noncomputable def Sg(d:Nat)(lg lo ls ln:Addr):List (Str×V):=[(Str.ofString "dimension",.int d),(Str.ofString "given",.ref lg),(Str.ofString "ordered",.ref lo),(Str.ofString "shortest",.ref ls),(Str.ofString "numbers",.ref ln)]
noncomputable abbrev fG1(d:Nat):List (Str×V):=[(Str.ofString "dimension",.int d)]
noncomputable abbrev fG2(d:Nat)(lg:Addr):List (Str×V):=[(Str.ofString "dimension",.int d),(Str.ofString "given",.ref lg)]
noncomputable abbrev fG3(d:Nat)(lg lo:Addr):List (Str×V):=[(Str.ofString "dimension",.int d),(Str.ofString "given",.ref lg),(Str.ofString "ordered",.ref lo)]
noncomputable abbrev fG4(d:Nat)(lg lo ls:Addr):List (Str×V):=[(Str.ofString "dimension",.int d),(Str.ofString "given",.ref lg),(Str.ofString "ordered",.ref lo),(Str.ofString "shortest",.ref ls)]
noncomputable abbrev fG5(d:Nat)(lg lo ls ln:Addr):List (Str×V):=[(Str.ofString "dimension",.int d),(Str.ofString "given",.ref lg),(Str.ofString "ordered",.ref lo),(Str.ofString "shortest",.ref ls),(Str.ofString "numbers",.ref ln)]
noncomputable def numT(srt:Tb)(n:Nat):List (PyData×V):=(srt.zipIdx n).map λp=>(dat p.1.1,V.int ((p.2:Nat):Int))
structure GrpF(K:Frag)(t:Adr)(H:Hp)(g:Addr)(d:Nat)(ms:List Dd)(srt:Tb):Prop where
 ex:∃dx lg lo ls ln,H g=some (.ins t.a_d dx (Sg d lg lo ls ln))/\(∃gs:LA,H lg=some (.lst (gs.map V.ref))/\Paired (DdAt K H) gs ms) /\
  (∃os:LA,H lo=some (.lst (os.map V.ref))/\Paired (λp x=>Dt K H (.ref p) (dat x.1)) os srt) /\
  (∃ws:LA,H ls=some (.lst (ws.map V.ref))/\Paired (λp(x:Dd×List Nat)=>H p=some (.lst (x.2.map λn=>V.int (n:Nat)))) ws srt)/\DTr K H ln (numT srt 0)
def Iy(K:Frag)(t:Adr):Sp:=λvs H Q _=>E9 λ(b:Bool)(d:Nat)(a x dx:Addr)(ps:LA)(ms:List Dd)(G:Dd->Prop)(N:Nat)=>A16 (vs=[.ref x,.int d,.ref a,.int 200]) (H x=some (.ins t.a_d dx [])) ((d=2\/d=3)) (SqB b K H a (ps.map V.ref)) (Paired (DdAt K H) ps ms) (ms.length<=200) ((∀s∈ms,mQ d s)) ((∀s∈ms,mQ d (oB s))) ((∀x,G x->mQ d x)) (G (oQ d)) ((∀x s,G x->s∈ms->G (oK d x (oB s)))) ((nH d (ms.map oB) N 0 [(oQ d,[])]).length<=200) ((nH d (ms.map oB) N 0 [(oQ d,[])]).length<=N) ((∀y∈nH d (ms.map oB) N 0 [(oQ d,[])],mQ d y.1)) (((nH d (ms.map oB) N 0 [(oQ d,[])]).map (·.1)).Nodup) (∀srt H',(∀b o,b≠x->H b=some o->H' b=some o)->GrpF K t H' x d ms srt->srt.Perm (nH d (ms.map oB) N 0 [(oQ d,[])])->Q .non H')
theorem Ix{α β:Type}{f:α->β}:∀{l:List β}{tb:List α},l.Perm (tb.map f)->∃srt:List α,srt.Perm tb/\srt.map f=l
 |[],tb,h=>by
  have:=h.length_eq;rw[zqe]at this;exact⟨[],by rw[List.length_eq_zero_iff.mp this.symm],rfl⟩
 | b:: l,tb,h=>by
  obtain⟨a,ha,e⟩:=qW.mp (h.mem_iff.mp (zU));obtain⟨s,r,rfl⟩:=List.append_of_mem ha;have h2:(b:: l).Perm (b:: (s++r).map f):=by
   refine h.trans ?_;rw[xD,zL,e,xD];exact List.perm_middle
  obtain⟨srt,p,q⟩:=Ix (List.Perm.cons_inv h2);exact⟨a:: srt,(List.Perm.cons a p).trans List.perm_middle.symm,by rw[zL,e,q]⟩
def KX(x:Addr)(H H':Hp):Prop:=∀b o,b≠x->H b=some o->H' b=some o
theorem KX.same{x:Addr}{H H':Hp}(s:Same H H'):KX x H H':=λb o _ e=>s b o e
theorem KX.put{x:Addr}{H:Hp}{o:HO}:KX x H (upd H x o):=λb o' hb e=>by rw[oE hb];exact e
theorem KX.trans{x:Addr}{H H1 H2:Hp}(a:KX x H H1)(b:KX x H1 H2):KX x H H2:=λc o hc e=>b c o hc (a c o hc e)
theorem KX.tk{K:Frag}{x C dx:Addr}{fs:List (Str×V)}{H H':Hp}(k:KX x H H')(e:H x=some (.ins C dx fs)):TK K H H':=by
 have hk:∀b xs,H b=some (.tup xs)->H' b=some (.tup xs):=λb xs q=>k b _ (λz=>by rw[z,e]at q;cases q) q;refine⟨hk,λb xs q=>?_⟩;rcases q with(q|⟨ob,q⟩)|q
 ·exact .inl (.inl (hk _ _ q))
 ·exact .inl (.inr ⟨ob,k b _ (λz=>by rw[z,e]at q;cases q) q⟩)
 ·exact .inr q
theorem Sf{H:Hp}{x:Dd}{w:List Nat}{p:Addr}:∀{tb:Tb}{kvs:List (PyData×V)},TbAt H tb kvs->(tb.map (·.1)).Nodup->(x,w)∈tb->vT kvs (dat x)=some (.ref p)->H p=some (.lst (w.map λn=>V.int (n:Nat))):=by
 intro tb kvs h
 induction h with
 |nil=>intro _ hm;cases hm
 |@cons y kv tb kvs hy _ ih =>
  intro nd hm e;obtain⟨e1,q,e2,e3⟩:=hy;rw[zL,sZ]at nd;rcases xE.mp hm with hm|hm
  ·rw[←hm]at e1 e3;rw[eK e1,e2]at e;cases e;exact e3
  ·have ne:¬ kv.1=dat x:=λq=>nd.1 (by rw[bZ.mp (e1.symm.trans q)];exact qW.mpr ⟨_,hm,rfl⟩);rw[gT ne]at e;exact ih nd.2 hm e
theorem Se{K:Frag}{H:Hp}{C x dx a:Addr}{fs:List (Str×V)}{o:HO}{b:Bool}{xs:List V}(e:H x=some (.ins C dx fs))(h:SqB b K H a xs):SqB b K (upd H x o) a xs:=by
 cases b with
 |false =>
  rcases(show SqL K H a xs from h) with(h|⟨ob,h⟩)|h
  ·exact(.inl (.inl (by rw[oE (λz=>by rw[z,e]at h;cases h)];exact h)):SqL K (upd H x o) a xs)
  ·exact(.inl (.inr ⟨ob,by rw[oE (λz=>by rw[z,e]at h;cases h)];exact h⟩):SqL K (upd H x o) a xs)
  ·exact(.inr h:SqL K (upd H x o) a xs)
 |true =>
  rcases(show SqT K H a xs from h) with(h|⟨ob,h⟩)|h
  ·exact(.inl (.inl (by rw[oE (λz=>by rw[z,e]at h;cases h)];exact h)):SqT K (upd H x o) a xs)
  ·exact(.inl (.inr ⟨ob,by rw[oE (λz=>by rw[z,e]at h;cases h)];exact h⟩):SqT K (upd H x o) a xs)
  ·exact(.inr h:SqT K (upd H x o) a xs)
theorem Sd{H:Hp}{v:V}{ds:List PyData}(h:Dt K H v (.tuple ds)):∃q,v=V.ref q:=by
 cases h;exact⟨_,rfl⟩
theorem fJ{H:Hp}{σ:St}{i:Nat}{C x dx:Addr}{fs:List (Str×V)}{f:Str}{v:V}{Q:VK}(hσ:σ[i]?=some (some (V.ref x)))(e:H x=some (.ins C dx fs))(c:Cls K C)(n:iP K C f)(l:fs.lookup f=some v)(q:Q v H):tFld K (tVar i) f σ H Q:=⟨_,hσ,x,C,dx,fs,v,rfl,e,c,n,l,q⟩
theorem Sc{H:Hp}:∀{tb:Tb}{kvs:List (PyData×V)},TbAt H tb kvs->∀y∈tb,∃p,vT kvs (dat y.1)=some (V.ref p):=by
 intro tb kvs h
 induction h with
 |nil=>intro y hy;cases hy
 | @cons z kv tb kvs hz _ ih =>
  intro y hy;obtain⟨e1,p,e2,_⟩:=hz
  by_cases q:kv.1=dat y.1
  ·exact⟨p,by rw[eK q,e2]⟩
  ·rw[gT q];rcases xE.mp hy with hy|hy
   ·exact absurd (by rw[e1,hy]) q
   ·exact ih y hy
theorem Iw{K:Frag}{H:Hp}:∀{ps:List (V×PyData)}{zs:List V}{n:Nat},zs.length=ps.length->(∀p∈ps,tT 4 p.2=true/\Dt K H p.1 p.2/\∃q,p.1=V.ref q)->(∀j y,zs[j]?=some y->∃p m,y=V.ref p/\ps[j]?=some m/\H p=some (.tup [m.1,.int ((n+j:Nat):Int)])) ->
  ∃ts:List (Addr×PyData×Addr×V),zs=ts.map (λt=>V.ref t.1)/\(ts.map (·.2.1)=ps.map (·.2)/\ts.map (λt=>(t.2.1,t.2.2.2))=(ps.zipIdx n).map λp=>(p.1.2,V.int ((p.2:Nat):Int)))/\∀t∈ts,SqT K H t.1 [.ref t.2.2.1,t.2.2.2]/\tT 4 t.2.1=true/\Dt K H (.ref t.2.2.1) t.2.1
 |[],[],_,_,_,_=>⟨[],rfl,⟨rfl,rfl⟩,λ_ h=>nomatch h⟩
 | p:: ps,z:: zs,n,hl,hp,hz=>by
  obtain⟨a,m,e1,e2,e3⟩:=hz 0 z rfl;cases e2;obtain⟨h1,h2,q,eq⟩:=hp p (.head _);obtain⟨ts,i1,⟨i2,i2'⟩,i3⟩:=Iw (K:=K) (H:=H) (ps:=ps) (zs:=zs) (n:=n+1) (by simpa using hl) (λx hx=>hp x (.tail _ hx)) λj y ej=>by
   obtain⟨p',m',f1,f2,f3⟩:=hz (j+1) y (by simpa using ej);exact⟨p',m',f1,by simpa using f2,by rw[f3,show n+(j+1)=n+1+j by omega]⟩
  rw[eq]at e3 h2;refine⟨(a,p.2,q,.int ((n+0:Nat):Int)):: ts,by rw[e1,i1];rfl,⟨by rw[zL,zL,i2],by rw[zL,vV,zL,i2'];rfl⟩,λt ht=>?_⟩;rcases xE.mp ht with ht|ht
  ·rw[ht];exact⟨SqT.of e3,h1,h2⟩
  ·exact i3 t ht
theorem ord_of{K:Frag}{H:Hp}:∀{ps:List (V×PyData)}{srt:Tb},(srt.map λy=>dat y.1)=ps.map (·.2)->(∀p∈ps,Dt K H p.1 p.2/\(∃q,p.1=V.ref q))->∃os:LA,ps.map (·.1)=os.map V.ref/\Paired (λp(x:Dd×List Nat)=>Dt K H (.ref p) (dat x.1)) os srt
 |[],[],_,_=>⟨[],rfl,.nil⟩
 |[],_:: _,h,_=>by simp at h
 |_:: _,[],h,_=>by simp at h
 |p:: ps,y:: srt,e,h=>by
  rw[zL,zL,yI]at e;obtain⟨os,e1,e3⟩:=ord_of (ps:=ps) (srt:=srt) e.2 λx hx=>h x (.tail _ hx);obtain⟨h1,q,eq⟩:=h p (.head _);rw[eq,←e.1]at h1;exact⟨q:: os,by rw[zL,zL,e1,eq],.cons h1 e3⟩
theorem Iv{H:Hp}{kvs:List (PyData×V)}:∀{srt:Tb}{ys:List V},ys.length=srt.length->(∀(j:Nat) y,ys[j]?=some y->∃p m,y=V.ref p/\srt[j]?=some m/\vT kvs (dat m.1)=some (V.ref p)) ->
  (∀m∈srt,∀p,vT kvs (dat m.1)=some (V.ref p)->H p=some (.lst (m.2.map λn=>V.int (n:Nat))))->∃ws:LA,ys=ws.map V.ref/\Paired (λp(x:Dd×List Nat)=>H p=some (.lst (x.2.map λn=>V.int (n:Nat)))) ws srt
 |[],[],_,_,_=>⟨[],rfl,.nil⟩
 | m:: srt,y:: ys,hl,h,hw=>by
  obtain⟨p,m',e1,e2,e3⟩:=h 0 y rfl;cases e2;obtain⟨ws,w1,w2⟩:=Iv (srt:=srt) (ys:=ys) (by simpa using hl) (λj y' ej=>by
   obtain⟨p,m',f1,f2,f3⟩:=h (j+1) y' (by simpa using ej);exact⟨p,m',f1,by simpa using f2,f3⟩) λm' hm' p' e=>hw m' (.tail _ hm') p' e
  exact⟨p:: ws,by rw[e1,w1];rfl,.cons (hw m (.head _) p e3) w2⟩
theorem Iu:∀{srt:Tb}{ps:List (V×PyData)},(srt.map λy=>dat y.1)=ps.map (·.2)->∀n,((srt.zipIdx n).map λp=>(dat p.1.1,V.int ((p.2:Nat):Int)))=(ps.zipIdx n).map λp=>(p.1.2,V.int ((p.2:Nat):Int))
 |[],[],_,_=>rfl
 |[],_:: _,h,_=>by simp at h
 |_:: _,[],h,_=>by simp at h
 |y:: srt,p:: ps,e,n=>by
  rw[zL,zL,yI]at e;rw[vV,vV,zL,zL,Iu e.2 (n+1),e.1]
structure GI(K:Frag)(H0:Hp)(C x dx wd:Addr)(fs:List (Str×V))(tb:Tb)(kvs:List (PyData×V))(H:Hp):Prop where
 hx:H x=some (.ins C dx fs)
 s:∀b o,b≠x->H0 b=some o->H b=some o
 D:DTr K H wd kvs
 T:TbAt H tb kvs
theorem GI.up{K:Frag}{H0 H H':Hp}{C x dx wd:Addr}{fs:List (Str×V)}{tb:Tb}{kvs:List (PyData×V)}(h:GI K H0 C x dx wd fs tb kvs H)(s:Same H H'):GI K H0 C x dx wd fs tb kvs H':=
 ⟨s _ _ h.hx,λb o hb e=>s _ _ (h.s b o hb e),h.D.up s,Paired.mapP h.T λ_ _ z=>let ⟨z1,p,z2,z3⟩:=z;⟨z1,p,z2,s _ _ z3⟩⟩
theorem aD{K:Frag}{H:Hp}{C x dx:Addr}{fs fs':List (Str×V)}(e:H x=some (.ins C dx fs)):TK K H (upd H x (.ins C dx fs')):=TK.off e (λ_ z=>by cases z) (λ_ _ z=>by cases z) λ_ hc=>oE hc
theorem GI.put{K:Frag}{H0 H:Hp}{C x dx wd:Addr}{fs:List (Str×V)}{tb:Tb}{kvs:List (PyData×V)}(h:GI K H0 C x dx wd fs tb kvs H)(fs':List (Str×V)):GI K H0 C x dx wd fs' tb kvs (upd H x (.ins C dx fs')):=by
 have xw:wd≠x:=λz=>by
  obtain⟨_,_,xs,e,_⟩:=h.D;rw[z,h.hx]at e;cases e
 refine⟨pV,λb o hb e=>?_,DTr.tk h.D (aD h.hx) (oE xw),Paired.mapP h.T λ_ _ z=>?_⟩
 ·rw[oE hb];exact h.s b o hb e
 ·obtain⟨z1,p,z2,z3⟩:=z;have:p≠x:=λq=>by rw[q,h.hx]at z3;cases z3
  exact⟨z1,p,z2,by rw[oE this];exact z3⟩
theorem ok_0(T:Txt K mg t):FnOk P w K mg base CX0 12 t.a_0 t.d_0 pi' (Iy K t):=by
 have G_p:=@ok_p P w K mg base t T;have G_w:=@ok_w P w K mg base t T;have G_1d:=@ok_1d P w K mg base t T;apply T.F_0.ok sc_0
 ·have hu:=hr.units;obtain⟨b,d,a,x,dx,ps,ms,G,N,rfl,hx,hd,hS,hp,hm,hf1,hf2,hG,hG0,hGs,h63,hN,hfin,hnd,hQ⟩:=h;refine⟨_,(pM (kP (pU G_p hr.mo T.F_p (pK (pv 3) pL)))
   (pM (kP (pU G_w hr.mo T.F_w (pK (pv 1) (pK (pv 2) pL))))
   (pM (pZ (i:=4) sc_0.nd rfl (Or.inr rfl) (pU G_1d hr.mo T.F_1d (pK (pv 1) (pK (pv 2) (pK (pv 3) pL)))))
   (pM (fV (pv 0) (pv 1) rfl)
   (pM (fV (pv 0) (nS iS rfl T.z_list (nofun) (pK (pv 2) pL)) rfl)
   (pM (fV (pv 0) (mJ (Qb (N:=200) Su hu rfl) rfl T.z_sorted (nofun) (pK (pv 4) pL)) rfl)
   (pM (fV (pv 0) (oX (sc:=pN s_0) (N:=N_0) (fr:=[("words",4)]) (te:=(tOp (Ah K) (tVar 1) (tVar 0))) rfl rfl (nofun) rfl (nofun) (oH (gP (pv 0) rfl)) (λ_ _ _ hE1=>(nD (ix_T hu) (pv 1) (pv 0) (λ_ _=>rfl)))) rfl)
   (pQ (fV (pv 0) (nS (Rr hu rfl) rfl T.z_dict (nofun) (pK (lY (xs:=["number","member"]) (fr:=[]) (g:=(gTup K 2 (nC (pY 0) (nC (pY 1) gNil)))) (tt:=(tEl (tTup (pW (tVar 1) (pW (tVar 0) tNil))))) (mF (sc:=pN s_0) (N:=N_0) rfl rfl (nofun)) rfl (cN rfl T.z_enumerate (pK (gP (pv 0) rfl) pL)) (λ_ _ _ hE1=>(lE rfl (nB (lZ (N:=["number","member"]) (i:=0) hE1 rfl (nofun)) (nB (lZ (N:=["number","member"]) (i:=1) hE1 rfl (nofun)) lD)))) (λ_ _ _ hE1=>(mK (nJ (pK (pv 1) (pK (pv 0) pL)))))) pL)) rfl))))))))),?_⟩
  show tSeq _ _ _ [some (.ref x),some (.int d),some (.ref a),some (.int 200),none] H;right;refine⟨200,rfl,∅,∅,?_⟩;left;refine⟨b,d,a,ps,ms,rfl,hd,hS,hp,λs hs=>(hf1 s hs).sq.1,λH1 s1=>?_⟩;left;refine⟨b,d,a,ps,ms,200,G,N,rfl,hd,hS.up s1,Paired.mapP hp λ_ _ z=>z.up s1,hm,hf1,hf2,hG,hG0,hGs,zG _,⋯,hN,λwd kvs H2 s2 hw hD hT=>?_⟩;generalize nH d (ms.map oB) N 0 [(oQ d,[])]=tb at*
  have s02:=s1.trans s2;have hx2:=s02 _ _ hx;subst e1;refine st λN1 e1=>?_;simp only[sFld];ext;have g2:GI K H t.a_d x dx wd [] tb kvs H2:=⟨hx2,λb o _ e=>s02 _ _ e,hD,hT⟩;refine⟨_,_,_,hx2,T.cl_d,T.h_3,∅,?_⟩;have g3:=g2.put (fG1 d);have sq3:SqB b K (upd H2 x (.ins t.a_d dx (fG1 d))) a (ps.map V.ref):=Se hx2 (hS.up s02);show N1 _ (upd H2 x (.ins t.a_d dx (fG1 d)));generalize upd H2 x (.ins t.a_d dx (fG1 d))=H3 at*
  clear g2;subst e1;refine st λN1 e1=>?_;simp only[sFld];ext;refine⟨b,a,_,rfl,sq3,λlg hlg=>?_⟩;have s4:Same H3 (upd H3 lg (.lst (ps.map V.ref))):=Same.new hlg;have elg:(upd H3 lg (.lst (ps.map V.ref))) lg=some (.lst (ps.map V.ref)):=pV;have xlg:lg≠x:=λz=>by rw[z,g3.hx]at hlg;cases hlg
  have g4:=g3.up s4;generalize upd H3 lg (.lst (ps.map V.ref))=H4 at*
  refine⟨_,_,_,g4.hx,T.cl_d,T.h_c,by show 1<1000;decide,?_⟩;have g5:=g4.put (fG2 d lg);have kx5:KX x H4 (upd H4 x (.ins t.a_d dx (fG2 d lg))):=KX.put;show N1 _ (upd H4 x (.ins t.a_d dx (fG2 d lg)));generalize upd H4 x (.ins t.a_d dx (fG2 d lg))=H5 at*
  subst e1;refine st λN1 e1=>?_;simp only[sFld];ext;have kl:tb.length=kvs.length:=nP g5.T;have kkey:∀kv∈kvs,∃y∈tb,kv.1=dat y.1:=λkv hkv=>by
   obtain⟨y,hy,z⟩:=Bn g5.T kv hkv;exact⟨y,hy,z.1⟩
  have fst:=hG _ hG0;refine⟨wd,kvs,[.tuple ((List.replicate d (0:Int)).map PyData.int),.int 1],(idM d).map (λr=>PyData.tuple (r.map PyData.int)),rfl,⋯,g5.D,λkv hkv=>?_,λlo ps' H6 s6 hlo elo hps pm asc=>?_⟩
  ·obtain⟨y,hy,e⟩:=kkey kv hkv;rw[e];exact Sh fst (hfin y hy)
  have g6:=g5.up s6;have kx6:=kx5.trans (KX.same s6);refine⟨_,_,_,g6.hx,T.cl_d,T.h_6,by show 2<1000;decide,?_⟩;have pl:ps'.length<=200:=by
   have:=pm.length_eq;rw[zqe,zqe]at this;omega
  have elo6:=elo;have g7:=g6.put (fG3 d lg lo);have xlo:lo≠x:=λz=>by rw[z,g6.hx]at elo;cases elo
  have kx7:KX x H4 (upd H6 x (.ins t.a_d dx (fG3 d lg lo))):=kx6.trans KX.put;have elo7:(upd H6 x (.ins t.a_d dx (fG3 d lg lo))) lo=some (.lst (ps'.map (·.1))):=by rw[oE xlo];exact elo
  have hps7:∀p∈ps',tT 4 p.2=true/\Dt K (upd H6 x (.ins t.a_d dx (fG3 d lg lo))) p.1 p.2:=λp hp'=>⟨(hps p hp').1,mC (aD g6.hx).t 4 (hps p hp').1 (mC (nM s6) 4 (hps p hp').1 (hps p hp').2)⟩;show N1 _ (upd H6 x (.ins t.a_d dx (fG3 d lg lo)));generalize upd H6 x (.ins t.a_d dx (fG3 d lg lo))=H7 at*
  -- every member is a reference to one of the dict's keys
  have mem:∀p∈ps',∃y∈tb,p.2=dat y.1:=λp hp'=>by
   have:p.2∈kvs.map (·.1):=pm.mem_iff.mp (qW.mpr ⟨p,hp',rfl⟩);obtain⟨kv,hkv,e⟩:=qW.mp this;obtain⟨y,hy,e2⟩:=kkey kv hkv;exact⟨y,hy,by rw[←e,e2]⟩
  have kf:kvs.map (·.1)=tb.map λy=>dat y.1:=by
   have:∀{H':Hp}{tb:Tb}{kvs:List (PyData×V)},TbAt H' tb kvs->kvs.map (·.1)=tb.map λy=>dat y.1:=by
    intro H' tb kvs h
    induction h with
    |nil=>rfl
    |cons hz _ ih=>rw[zL,zL,ih,hz.1]
   exact this g7.T
  obtain⟨srt,ps1,ps2⟩:=Ix (f:=λy:Dd×List Nat=>dat y.1) (l:=ps'.map (·.2)) (tb:=tb) (by rw[←kf];exact pm);have psl:srt.length=ps'.length:=by have:=wC List.length ps2;simpa using this
  have isref:∀p∈ps',∃q,p.1=V.ref q:=λp hp'=>by
   obtain⟨y,_,e⟩:=mem p hp';have hD':=(hps7 p hp').2;rw[e]at hD';exact Sd hD'
  subst e1;refine st λN1 e1=>?_;simp only[sFld];refine oG λB eB=>?_;simp only[iSeq];refine fJ rfl g7.hx T.cl_d T.h_6 rfl ?_;refine⟨false,lo,rfl,⟨_,SqB.lst elo7⟩,λls hls=>?_⟩;refine oT (λj y _=>∃(p:Addr)(m:Dd×List Nat),y=V.ref p/\srt[j]?=some m/\vT kvs (dat m.1)=some (V.ref p)) hls (SqB.lst elo7) (by rw[zqe];omega) (λ_ _ _ _ h _=>h) ?_ ?_
  ·intro i y H8 zs ey s8 ez Q' hQ';obtain⟨p,hp',rfl⟩:=lB ey;have hm':=zqb hp';obtain⟨q,eq⟩:=isref p hm';obtain⟨yy,hyy,ey2⟩:=mem p hm';obtain⟨t1,t2⟩:=hps7 p hm';subst eB;show tOp _ _ _ [some p.1,some (.ref wd)] H8 Q';ext;rw[eq]at t2 ⊢;have g8:=g7.up s8;obtain⟨p2,ep2⟩:=Sc g8.T yy hyy;rw[←ey2]at ep2;refine Hf g8.D t1 (mC (nM s8) 4 t1 t2) ep2 ?_;have hsm:∃m,srt[i]?=some m/\dat m.1=p.2:=by
    have e:=wC (λl=>l[i]?) ps2;simp only[List.getElem?_map,hp',Option.map_some]at e;cases hm2:srt[i]? with
    |none=>rw[hm2]at e;cases e
    |some m=>rw[hm2]at e;exact⟨m,rfl,zR e⟩
   obtain⟨m,em,edm⟩:=hsm;exact hQ' _ _ (Same.refl _) ⟨p2,m,rfl,em,by rw[edm];exact ep2⟩
  ·intro H8 ys s8 e8 hl8 hr8;have g8:=g7.up s8;have xls:ls≠x:=λz=>by rw[z,g7.hx]at hls;cases hls
   have kx8:=kx7.trans (KX.same s8);have kx9:KX x H4 (upd H8 x (.ins t.a_d dx (fG4 d lg lo ls))):=kx8.trans KX.put;have els9:(upd H8 x (.ins t.a_d dx (fG4 d lg lo ls))) ls=some (.lst ys):=by rw[oE xls];exact e8
   refine⟨.ref x,rfl,x,_,_,_,rfl,g8.hx,T.cl_d,T.h_4,by show 3<1000;decide,?_⟩;have g9:=g8.put (fG4 d lg lo ls);have elo9:(upd H8 x (.ins t.a_d dx (fG4 d lg lo ls))) lo=some (.lst (ps'.map (·.1))):=by rw[oE xlo];exact s8 _ _ elo7
   have hps9:∀p∈ps',tT 4 p.2=true/\Dt K (upd H8 x (.ins t.a_d dx (fG4 d lg lo ls))) p.1 p.2:=λp hp'=>⟨(hps7 p hp').1,mC (aD g8.hx).t 4 (hps7 p hp').1 (mC (nM s8) 4 (hps7 p hp').1 (hps7 p hp').2)⟩;show N1 _ (upd H8 x (.ins t.a_d dx (fG4 d lg lo ls)));generalize upd H8 x (.ins t.a_d dx (fG4 d lg lo ls))=H9 at*
   subst e1;simp only[sFld];ext;refine oG λB eB=>?_;simp only[eG];ext;refine fJ rfl g9.hx T.cl_d T.h_6 rfl ?_;refine⟨false,lo,rfl,⟨_,SqB.lst elo9⟩,λlp hlp=>?_⟩;refine Ox (λj y H=>∃p m,y=V.ref p/\p≠lp/\ps'[j]?=some m/\H p=some (.tup [m.1,.int (j:Int)])) hlp (SqB.lst elo9) (by rw[zqe];omega) (λ_ _ _ _⟨p,m,e,n,em,h⟩sx=>⟨p,m,e,n,em,sx _ _ n h⟩) ?_ ?_
   ·intro i y H10 zs ey s10 ez Q' hQ';obtain⟨p,hp',rfl⟩:=lB ey;subst eB;show tTup _ [some (.int i),some p.1] H10 Q';ext;refine⟨by show 2<=sizeLine;decide,λq hq=>?_⟩;refine hQ' _ _ (Same.new hq) ⟨q,p,rfl,(λz=>by rw[z,ez]at hq;cases hq),hp',pV⟩
   ·intro H10 zs s10 e10 hlz hz;obtain⟨ts,i1,⟨i2,i2'⟩,i3⟩:=Iw (K:=K) (H:=H10) (ps:=ps') (zs:=zs) (n:=0) (by rw[hlz,zqe]) (λp hp'=>⟨(hps9 p hp').1,mC (nM s10) 4 (hps9 p hp').1 (hps9 p hp').2,isref p hp'⟩) λj y ej=>by
     obtain⟨p,m,f1,_,f2,f3⟩:=hz j y ej;exact⟨p,m,f1,f2,by rw[wM];exact f3⟩
    have g10:=g9.up s10;have nds:(ps'.map (·.2)).Nodup:=pm.nodup_iff.mpr (by
     rw[kf,show(tb.map λy=>dat y.1)=(tb.map (·.1)).map dat by rw[xV];rfl];exact List.Pairwise.map dat (λa b h e=>h (bZ.mp e)) hnd)
    refine⟨lp,ts,rfl,by rw[←i1];exact .inl (.inl e10),i3,by rw[i2];exact nds,λln H11 s11 _ hDn=>?_⟩;have g11:=g10.up s11;refine⟨_,_,_,g11.hx,T.cl_d,T.h_7,by show 4<1000;decide,?_⟩;have t11:=s10.trans s11;have tkx:=aD (K:=K) (fs':=(fG5 d lg lo ls ln)) g11.hx;have g12:=g11.put (fG5 d lg lo ls ln);show Q .non (upd H11 x (.ins t.a_d dx (fG5 d lg lo ls ln)));have kxl:KX x H11 (upd H11 x (.ins t.a_d dx (fG5 d lg lo ls ln))):=KX.put;have els12:(upd H11 x (.ins t.a_d dx (fG5 d lg lo ls ln))) ls=some (.lst ys):=by rw[oE xls];exact t11 _ _ els9
    have xln:ln≠x:=λz=>by
     obtain⟨_,_,xs,e,_⟩:=hDn;rw[z,g11.hx]at e;cases e
    have hDn12:=DTr.tk hDn tkx (oE xln);have elo12:(upd H11 x (.ins t.a_d dx (fG5 d lg lo ls ln))) lo=some (.lst (ps'.map (·.1))):=by rw[oE xlo];exact t11 _ _ elo9
    generalize upd H11 x (.ins t.a_d dx (fG5 d lg lo ls ln))=H12 at*;have kx12:KX x H4 H12:=((kx9.trans (KX.same t11)).trans kxl);have tk12:TK K H H12:=KX.tk (λb o hb e=>g12.s b o hb e) hx;refine hQ srt H12 g12.s ⟨dx,lg,lo,ls,ln,g12.hx,⟨ps,kx12 _ _ xlg elg,Paired.mapP hp λ_ _ z=>DdAt.tk z tk12⟩,?_,?_,?_⟩ ps1
    ·obtain⟨os,j1,j3⟩:=ord_of (K:=K) (H:=H12) (ps:=ps') (srt:=srt) ps2 λp hp'=>⟨mC tkx.t 4 (hps9 p hp').1 (mC (nM t11) 4 (hps9 p hp').1 (hps9 p hp').2),isref p hp'⟩;exact⟨os,by rw[elo12,j1],j3⟩
    ·obtain⟨ws,w1,w2⟩:=Iv (H:=H12) (srt:=srt) (kvs:=kvs) (ys:=ys) (by rw[hl8,zqe,psl]) hr8 λm hm p e=>Sf (x:=m.1) (w:=m.2) g12.T hnd (ps1.mem_iff.mp hm) e;exact⟨ws,by rw[←w1];exact els12,w2⟩
    ·have e2:numT srt 0=ts.map λt=>(t.2.1,t.2.2.2):=by
      rw[i2'];unfold numT;exact Iu ps2 0
     rw[e2];exact hDn12
theorem GrpF.up{H H':Hp}{g:Addr}{d:Nat}{ms:List Dd}{srt:Tb}(h:GrpF K t H g d ms srt)(s:Same H H'):GrpF K t H' g d ms srt:=by
 obtain⟨dx,lg,lo,ls,ln,h1,⟨gs,h2,h3⟩,⟨os,h4,h5⟩,⟨ws,h6,h7⟩,h8⟩:=h;exact⟨dx,lg,lo,ls,ln,s _ _ h1,⟨gs,s _ _ h2,Paired.mapP h3 λ_ _ z=>z.up s⟩,⟨os,s _ _ h4,Paired.mapP h5 λ_ x z=>mC (nM s) 4 (mP x.1) z⟩,⟨ws,s _ _ h6,Paired.mapP h7 λ_ _ z=>s _ _ z⟩,h8.up s⟩
def sp_2(K:Frag)(t:Adr):Sp:=λvs H Q _=>E4 λ(g:Addr)(d:Nat)(ms:List Dd)(srt:Tb)=>A3 (vs=[.ref g]) (GrpF K t H g d ms srt) (∀l os H',Same H H'->H l=none->H' l=some (.lst (os.map V.ref))->Paired (λp x=>Dt K H' (.ref p) (dat x.1)) os srt->Q (.ref l) H')
theorem ok_2(T:Txt K mg t):FnOk P w K mg base CX0 2 t.a_2 t.d_2 pN' (sp_2 K t):=by
 apply T.F_2.ok sc_2
 ·obtain⟨g,d,ms,srt,rfl,⟨dx,lg,lo,ls,ln,h1,_,⟨os,h4,h5⟩,_⟩,hQ⟩:=h;refine⟨_,(pQ (oA (nS iS rfl T.z_list (nofun) (pK (gP (pv 0) rfl) pL)))),?_⟩;show tRet _ _ [some (.ref g)] H;simp only[tRet,tCB,pW,tNil];refine fJ rfl h1 T.cl_d T.h_6 rfl ?_;refine⟨false,lo,_,rfl,SqB.lst h4,λl hl=>?_⟩;exact hQ l os _ (Same.new hl) hl pV (Paired.mapP h5 λ_ x z=>mC (nM (Same.new hl)) 4 (mP x.1) z)
def sp_g(K:Frag)(t:Adr):Sp:=λvs H Q _=>E4 λ(g:Addr)(d:Nat)(ms:List Dd)(srt:Tb)=>A3 (vs=[.ref g]) (GrpF K t H g d ms srt) (Q (.int d) H)
def sp_c(K:Frag)(t:Adr):Sp:=λvs H Q _=>E4 λ(g:Addr)(d:Nat)(ms:List Dd)(srt:Tb)=>A3 (vs=[.ref g]) (GrpF K t H g d ms srt) (∀l gs H',Same H H'->H l=none->H' l=some (.lst (gs.map V.ref))->Paired (DdAt K H') gs ms->Q (.ref l) H')
def sp_u(K:Frag)(t:Adr):Sp:=λvs H Q _=>E6 λ(g p:Addr)(d:Nat)(ms:List Dd)(srt:Tb)(x:Dd)=>A7 (vs=[.ref g,.ref p]) (GrpF K t H g d ms srt) (DdAt K H p x) (x.1.length<=100) (x.2.1.length<=100) (0<x.2.2) (∀H',Same H H'->Q ((vT (numT srt 0) (dat (oB x))).getD .non) H')
theorem ok_g(T:Txt K mg t):FnOk P w K mg base CX0 2 t.a_g t.d_g pN' (sp_g K t):=by
 apply T.F_g.ok sc_g
 ·obtain⟨g,d,ms,srt,rfl,⟨dx,lg,lo,ls,ln,h1,_⟩,hQ⟩:=h;refine⟨_,(pQ (oA (gP (pv 0) rfl))),?_⟩;show tRet _ _ [some (.ref g)] H;simp only[tRet];exact fJ rfl h1 T.cl_d T.h_3 rfl hQ
theorem ok_c(T:Txt K mg t):FnOk P w K mg base CX0 2 t.a_c t.d_c pN' (sp_c K t):=by
 apply T.F_c.ok sc_c
 ·obtain⟨g,d,ms,srt,rfl,⟨dx,lg,lo,ls,ln,h1,⟨gs,h2,h3⟩,_⟩,hQ⟩:=h;refine⟨_,(pQ (oA (nS iS rfl T.z_list (nofun) (pK (gP (pv 0) rfl) pL)))),?_⟩;show tRet _ _ [some (.ref g)] H;simp only[tRet,tCB,pW,tNil];refine fJ rfl h1 T.cl_d T.h_c rfl ?_;refine⟨false,lg,_,rfl,SqB.lst h2,λl hl=>?_⟩;exact hQ l gs _ (Same.new hl) hl pV (Paired.mapP h3 λ_ _ z=>z.up (Same.new hl))
theorem ok_u(T:Txt K mg t):FnOk P w K mg base CX0 3 t.a_u t.d_u pH' (sp_u K t):=by
 have G_1q:=@ok_1q P w K mg base t T;apply T.F_u.ok sc_u
 ·have hu:=hr.units;obtain⟨g,p,d,ms,srt,x,rfl,⟨dx,lg,lo,ls,ln,h1,_,_,_,h8⟩,hx,hx1,hx2,hx3,hQ⟩:=h;refine⟨_,(pQ (oA (Pt (T:= "") PySem.F.plainAttrs_dict PySem.F.slot_dict_get PySem.F.type_dict_get (Pr hu) (gP (pv 0) rfl) (pK (pU G_1q hr.mo T.F_1q (pK (pv 1) pL)) pL)))),?_⟩;show tRet _ _ [some (.ref g),some (.ref p)] H;simp only[tRet,tBMR];refine fJ rfl h1 T.cl_d T.h_7 rfl ?_;refine⟨⟨ln,_,rfl,h8⟩,?_⟩;ext;refine⟨p,x.1,x.2.1,x.2.2,rfl,hx,hx1,hx2,hx3,λr H2 s2 hr2=>?_⟩;have hr2':DdAt K H2 r (oB x):=hr2;exact⟨ln,_,r,dat (oB x),rfl,rfl,h8.up s2,mP _,hr2'.dt,hQ H2 s2⟩
theorem sq1{rows:LM}(h:Sq 1 rows):∃a,rows=[[a]]:=by
 obtain⟨hl,hr⟩:=h
 match rows,hl with
 |[r],_ =>
  have:=hr r (by simp)
  match r,this with
  |[a],_=>exact⟨a,rfl⟩
theorem len2{r:LI'}(h:r.length=2):∃a b,r=[a,b]:=by match r,h with|[a,b],_=>exact⟨a,b,rfl⟩
theorem len3{r:LI'}(h:r.length=3):∃a b c,r=[a,b,c]:=by match r,h with|[a,b,c],_=>exact⟨a,b,c,rfl⟩
theorem len4{r:LI'}(h:r.length=4):∃a b c d,r=[a,b,c,d]:=by match r,h with|[a,b,c,d],_=>exact⟨a,b,c,d,rfl⟩
theorem sq2{rows:LM}(h:Sq 2 rows):∃a b c d,rows=[[a,b],[c,d]]:=by
 obtain⟨hl,hr⟩:=h
 match rows,hl with
 |[r,s],_ =>
  obtain⟨a,b,rfl⟩:=len2 (hr r (by simp));obtain⟨c,d,rfl⟩:=len2 (hr s (by simp));exact⟨a,b,c,d,rfl⟩
theorem sq3{rows:LM}(h:Sq 3 rows):∃a b c d e f g i j,rows=[[a,b,c],[d,e,f],[g,i,j]]:=by
 obtain⟨hl,hr⟩:=h
 match rows,hl with
 |[r,s,t],_ =>
  obtain⟨a,b,c,rfl⟩:=len3 (hr r (by simp));obtain⟨d,e,f,rfl⟩:=len3 (hr s (by simp));obtain⟨g,i,j,rfl⟩:=len3 (hr t (by simp));exact⟨a,b,c,d,e,f,g,i,j,rfl⟩
theorem sq4{rows:LM}(h:Sq 4 rows):∃a b c d e f g i j k l m n o p q,rows=[[a,b,c,d],[e,f,g,i],[j,k,l,m],[n,o,p,q]]:=by
 obtain⟨hl,hr⟩:=h
 match rows,hl with
 |[r,s,t,u],_ =>
  obtain⟨a,b,c,d,rfl⟩:=len4 (hr r (by simp));obtain⟨e,f,g,i,rfl⟩:=len4 (hr s (by simp));obtain⟨j,k,l,m,rfl⟩:=len4 (hr t (by simp));obtain⟨n,o,p,q,rfl⟩:=len4 (hr u (by simp));exact⟨a,b,c,d,e,f,g,i,j,k,l,m,n,o,p,q,rfl⟩
theorem id2:idM 2=[[1,0],[0,1]]:=nofun
theorem id3:idM 3=[[1,0,0],[0,1,0],[0,0,1]]:=nofun
theorem Sb(a b v:Int)(hv:0<v):gcdI (a*v) (b*v)=gcdI a b*v:=by
 unfold gcdI;rw[Int.gcd_mul_right];have:((v.natAbs:Nat):Int)=v:=⋯
 rw[Int.natCast_mul,this]
theorem Ir{u v:Int}(hv:0<v)(ts:LI'):gl (u*v) (ts.map (·*v))=gl u ts*v:=by
 have h0:∀(ts:LI')(a:Int),(ts.map (·*v)).foldl gcdI (a*v)=ts.foldl gcdI a*v:=by
  intro ts
  induction ts with
  |nil=>intro a;rfl
  |cons t r ih=>intro a;rw[zL,wK,wK,Sb _ _ _ hv,ih]
 unfold gl;have:absI (u*v)=absI u*v:=by
  unfold absI;rcases Int.lt_or_le u 0 with l|l
  ·have h2:u*v<0:=Int.mul_neg_of_neg_of_pos l hv;rw[zJ l,zJ h2,qM]
  ·have h2:0<=u*v:=Int.mul_nonneg l (vC hv);rw[zI ⋯,zI ⋯]
 rw[this,h0]
def Cong(u:Int)(xs ys:LI'):Prop:=xs.length=ys.length/\∀(i:Nat)(x y:Int),xs[i]?=some x->ys[i]?=some y->u∣x-y
theorem Co{u x y:Int}(hu:0<u)(h:u∣x-y):x.fmod u=y.fmod u:=by
 rw[xP _ (vC hu),xP _ (vC hu)];exact Int.emod_eq_emod_iff_emod_sub_eq_zero.mpr (Int.emod_eq_zero_of_dvd h)
theorem Cong.rest{u:Int}(hu:0<u)(ns:LI'):Cong u ns (oO u ns):=by
 refine⟨by simp[oO],λi x y e1 e2=>?_⟩;unfold oO at e2;rw[zC,e1]at e2;cases zR e2;have:=Rj hu x;have h2:=xP (x.fmod u-x) (vC hu);rw[h2]at this;have h3:=Int.dvd_of_emod_eq_zero this;have:=qX.mpr h3
 rwa[Int.neg_sub]at this
theorem Cong.gl{u:Int}{xs ys:LI'}(h:Cong u xs ys):Cw.gl u xs=Cw.gl u ys:=by
 have half:∀{xs ys:LI'}{d:Int},Cong u xs ys->d∣u->(∀t∈xs,d∣t)->∀t∈ys,d∣t:=λ{xs ys d}h hd hx t ht=>by
  obtain⟨i,hi,e⟩:=xT ht;have hix:i<xs.length:=by rw[h.1];exact hi
  have h1:=h.2 i xs[i] t (by simp[hix]) (by simp[hi,e]);have h2:=hx _ (xL hix);have h3:=qQ h2 (Int.dvd_trans hd h1)
  rwa[show xs[i]-(xs[i]-t)=t by omega]at h3
 have sym:Cong u ys xs:=⟨h.1.symm,λi x y e1 e2=>by
  have:=qX.mpr (h.2 i y x e2 e1)
  rwa[Int.neg_sub]at this⟩
 exact Hx λd=>⟨λ⟨h1,h2⟩=>⟨h1,half h h1 h2⟩,λ⟨h1,h2⟩=>⟨h1,half sym h1 h2⟩⟩
theorem Cong.red{u:Int}{xs ys:LI'}(hu:0<u)(h:Cong u xs ys):redU u xs=redU u ys/\oO (redU u xs) (redT u xs)=oO (redU u ys) (redT u ys):=by
 have hg:=h.gl;have hc:cs u xs=cs u ys:=by unfold cs;rw[hg]
 have hne:=fG xs (show u≠0 by omega);have hU:redU u xs=redU u ys:=by unfold redU;rw[hc]
 refine⟨hU,?_⟩;have hpos:0<redU u xs:=Cv xs ⋯;have eU:redU u xs*cs u xs=u:=jB hne (jA (gl_u u xs));rw[←hU];unfold oO redT;refine xM (by simp[h.1]) λi h1 h2=>?_;simp at h1 h2;simp only[List.getElem_map];have hx:=h.2 i xs[i] ys[i] (by simp[h1]) (by simp[h2]);have key:∀x y:Int,u∣x-y->cs u xs∣x->cs u ys∣y->redU u xs∣x.fdiv (cs u xs)-y.fdiv (cs u ys):=λx y hxy d1 d2=>by
  have e1:x.fdiv (cs u xs)*cs u xs=x:=jB hne d1;rw[←hc]at d2 ⊢;have e2:y.fdiv (cs u xs)*cs u xs=y:=jB hne d2;refine Int.dvd_of_mul_dvd_mul_right hne ?_;rw[eU,Int.sub_mul,e1,e2];exact hxy
 exact Co hpos (key _ _ hx (jA (dD (xL h1))) (jA (dD (xL h2))))
theorem Cn{u:Int}:∀(r ts ts':LI'),Cong u ts ts'->u∣dotI r ts-dotI r ts'
 |[],ts,ts',_=>by simp[dotI]
 |x:: r,[],ts',h=>by
  have:ts'=[]:=List.eq_nil_of_length_eq_zero h.1.symm;subst this;simp[dotI]
 |x:: r,t:: ts,[],h=>by have:=h.1;simp at this
 |x:: r,t:: ts,t':: ts',h=>by
  have ih:=Cn r ts ts' ⟨by have:=h.1;simpa using this,λi a b e1 e2=>h.2 (i+1) a b (by simpa using e1) (by simpa using e2)⟩;have h0:=h.2 0 t t' rfl rfl;have e1:dotI (x:: r) (t:: ts)=x*t+dotI r ts:=by simp[dotI]
  have e2:dotI (x:: r) (t':: ts')=x*t'+dotI r ts':=by simp[dotI]
  rw[e1,e2,show x*t+dotI r ts-(x*t'+dotI r ts')=x*(t-t')+(dotI r ts-dotI r ts') by rw[qO];omega];exact qN (Int.dvd_mul_of_dvd_right h0) ih
theorem Sa{N:LM}{ns ts ns' ts':LI'}{v u:Int}(h1:Cong v ns ns')(h2:Cong u ts ts'):Cong (v*u) (movT N ns v ts u) (movT N ns' v ts' u):=by
 refine⟨by unfold movT;rw[yH,yH,h1.1],λi x y e1 e2=>?_⟩;unfold movT at e1 e2;rw[yK]at e1 e2;cases en:N[i]? with
 |none=>rw[en]at e1;cases e1
 | some r =>
  rw[en]at e1 e2;cases e3:ns[i]? with
  |none=>rw[e3]at e1;cases e1
  | some n =>
   cases e4:ns'[i]? with
   |none=>rw[e4]at e2;cases e2
   |some n' =>
    rw[e3]at e1;rw[e4]at e2;cases zR e1;cases zR e2;obtain⟨k,hk⟩:=Cn r ts ts' h2;obtain⟨m,hm⟩:=h1.2 i n n' e3 e4;refine⟨k+m,?_⟩;have a1:dotI r ts=dotI r ts'+u*k:=⋯
    have a2:n=n'+v*m:=⋯
    rw[a1,a2];grind
theorem Cong.rest_eq{u:Int}{xs ys:LI'}(hu:0<u)(h:Cong u xs ys):oO u xs=oO u ys:=by
 unfold oO;refine xM (by simp[h.1]) λi h1 h2=>?_;simp at h1 h2;simp only[List.getElem_map];exact Co hu (h.2 i xs[i] ys[i] (by simp[h1]) (by simp[h2]))
theorem Sq.mul{n:Nat}{A B:LM}(hA:Sq n A):Sq n (mulM n A B):=by
 refine⟨by simp[mulM,hA.1],λr hr=>?_⟩;obtain⟨z,_,rfl⟩:=qW.mp hr;simp
theorem oN{d:Nat}:Sq d (idM d):=⟨by simp[idM],λr hr=>by
 obtain⟨i,_,rfl⟩:=qW.mp hr;simp⟩
theorem mul2(a b c d a' b' c' d':Int):mulM 2 [[a,b],[c,d]] [[a',b'],[c',d']]=[[a*a'+b*c',a*b'+b*d'],[c*a'+d*c',c*b'+d*d']]:=by simp[mulM,dotI,colI,List.range,List.range.loop]
theorem mul3(a b c d e f g i j a' b' c' d' e' f' g' i' j':Int):mulM 3 [[a,b,c],[d,e,f],[g,i,j]] [[a',b',c'],[d',e',f'],[g',i',j']]=[[a*a'+(b*d'+c*g'),a*b'+(b*e'+c*i'),a*c'+(b*f'+c*j')],[d*a'+(e*d'+f*g'),d*b'+(e*e'+f*i'),d*c'+(e*f'+f*j')],[g*a'+(i*d'+j*g'),g*b'+(i*e'+j*i'),g*c'+(i*f'+j*j')]]:=by
 simp[mulM,dotI,colI,List.range,List.range.loop]
theorem mul_assoc{d:Nat}(hd:d=2\/d=3){A B C:LM}(hA:Sq d A)(hB:Sq d B)(hC:Sq d C):mulM d (mulM d A B) C=mulM d A (mulM d B C):=by
 rcases hd with e|e <;> subst e
 ·obtain⟨a,b,c,d,rfl⟩:=sq2 hA;obtain⟨a',b',c',d',rfl⟩:=sq2 hB;obtain⟨a2,b2,c2,d2,rfl⟩:=sq2 hC;simp only[mul2,List.cons.injEq,and_true];refine⟨⟨?_,?_⟩,?_,?_⟩ <;> grind
 ·obtain⟨a,b,c,d,e,f,g,i,j,rfl⟩:=sq3 hA;obtain⟨a',b',c',d',e',f',g',i',j',rfl⟩:=sq3 hB;obtain⟨a2,b2,c2,d2,e2,f2,g2,i2,j2,rfl⟩:=sq3 hC;simp only[mul3,List.cons.injEq,and_true];refine⟨⟨?_,?_,?_⟩,⟨?_,?_,?_⟩,?_,?_,?_⟩ <;> grind
theorem lJ{d:Nat}(hd:d=2\/d=3){A:LM}(hA:Sq d A):mulM d (idM d) A=A/\mulM d A (idM d)=A:=by
 rcases hd with e|e <;> subst e
 ·obtain⟨a,b,c,d,rfl⟩:=sq2 hA;rw[id2,mul2,mul2];simp
 ·obtain⟨a,b,c,d,e,f,g,i,j,rfl⟩:=sq3 hA;rw[id3,mul3,mul3];simp
theorem v2{v:LI'}(h:v.length=2):∃x y,v=[x,y]:=len2 h
theorem v3{v:LI'}(h:v.length=3):∃x y z,v=[x,y,z]:=len3 h
noncomputable def mv(M:LM)(v:LI'):LI':=M.map λr=>dotI r v
noncomputable def va(v w:LI'):LI':=List.zipWith (·+·) v w
theorem mB{d:Nat}{A:LM}{v:LI'}(h:Sq d A):(mv A v).length=d:=by unfold mv;rw[zqe];exact h.1
theorem mv2(a b c e x y:Int):mv [[a,b],[c,e]] [x,y]=[a*x+b*y,c*x+e*y]:=by simp[mv,dotI]
theorem mv3(a b c a' b' c' a'' b'' c'' x y z:Int):mv [[a,b,c],[a',b',c'],[a'',b'',c'']] [x,y,z]=[a*x+(b*y+c*z),a'*x+(b'*y+c'*z),a''*x+(b''*y+c''*z)]:=by simp[mv,dotI]
theorem va2(a b c e:Int):va [a,b] [c,e]=[a+c,b+e]:=rfl
theorem va3(a b c x y z:Int):va [a,b,c] [x,y,z]=[a+x,b+y,c+z]:=rfl
theorem dJ{d:Nat}(hd:d=2\/d=3){A B:LM}(hA:Sq d A)(hB:Sq d B){v:LI'}(hv:v.length=d):mv (mulM d A B) v=mv A (mv B v):=by
 rcases hd with rfl|rfl
 ·obtain⟨a,b,c,e,rfl⟩:=sq2 hA;obtain⟨a',b',c',e',rfl⟩:=sq2 hB;obtain⟨x,y,rfl⟩:=v2 hv;rw[mul2,mv2,mv2,mv2];simp only[List.cons.injEq,and_true];refine⟨?_,?_⟩ <;> grind
 ·obtain⟨a1,a2,a3,a4,a5,a6,a7,a8,a9,rfl⟩:=sq3 hA;obtain⟨b1,b2,b3,b4,b5,b6,b7,b8,b9,rfl⟩:=sq3 hB;obtain⟨x,y,z,rfl⟩:=v3 hv;rw[mul3,mv3,mv3,mv3];simp only[List.cons.injEq,and_true];refine⟨?_,?_,?_⟩ <;> grind
theorem Iq{d:Nat}(hd:d=2\/d=3){A:LM}(hA:Sq d A){v w:LI'}(hv:v.length=d)(hw:w.length=d):mv A (va v w)=va (mv A v) (mv A w):=by
 rcases hd with rfl|rfl
 ·obtain⟨a,b,c,e,rfl⟩:=sq2 hA;obtain⟨x,y,rfl⟩:=v2 hv;obtain⟨x',y',rfl⟩:=v2 hw;rw[va2,mv2,mv2,mv2,va2];simp only[List.cons.injEq,and_true];refine⟨?_,?_⟩ <;> grind
 ·obtain⟨a1,a2,a3,a4,a5,a6,a7,a8,a9,rfl⟩:=sq3 hA;obtain⟨x,y,z,rfl⟩:=v3 hv;obtain⟨x',y',z',rfl⟩:=v3 hw;rw[va3,mv3,mv3,mv3,va3];simp only[List.cons.injEq,and_true];refine⟨?_,?_,?_⟩ <;> grind
theorem dL{d:Nat}(hd:d=2\/d=3){v:LI'}(hv:v.length=d):mv (idM d) v=v:=by
 rcases hd with rfl|rfl
 ·obtain⟨x,y,rfl⟩:=v2 hv;rw[id2,mv2];simp
 ·obtain⟨x,y,z,rfl⟩:=v3 hv;rw[id3,mv3];simp
noncomputable def smul(k:Int)(T:LI'):LI':=T.map λt=>k*t
theorem kD{k:Int}{T:LI'}:(smul k T).length=T.length:=by unfold smul;rw[zqe]
theorem Ip(c a b:Int):smul c [a,b]=[c*a,c*b]:=rfl
theorem Io(c a b e:Int):smul c [a,b,e]=[c*a,c*b,c*e]:=rfl
theorem dM{d:Nat}(hd:d=2\/d=3){A:LM}(hA:Sq d A){v:LI'}(hv:v.length=d)(c:Int):mv A (smul c v)=smul c (mv A v):=by
 rcases hd with rfl|rfl
 ·obtain⟨a,b,c,e,rfl⟩:=sq2 hA;obtain⟨x,y,rfl⟩:=v2 hv;rw[Ip,mv2,mv2,Ip];simp only[List.cons.injEq,and_true];refine⟨?_,?_⟩ <;> grind
 ·obtain⟨a1,a2,a3,a4,a5,a6,a7,a8,a9,rfl⟩:=sq3 hA;obtain⟨x,y,z,rfl⟩:=v3 hv;rw[Io,mv3,mv3,Io];simp only[List.cons.injEq,and_true];refine⟨?_,?_,?_⟩ <;> grind
structure Chg(d:Nat)(P P':LM):Prop where
 p:Sq d P
 q:Sq d P'
 l:mulM d P' P=idM d
 r:mulM d P P'=idM d
theorem Chg.id{d:Nat}(hd:d=2\/d=3):Chg d (idM d) (idM d):=⟨oN,oN,(lJ hd oN).1,(lJ hd oN).1⟩
theorem Chg.then{d:Nat}(hd:d=2\/d=3){P P' R R':LM}(h:Chg d P P')(g:Chg d R R'):Chg d (mulM d R P) (mulM d P' R'):=by
 refine⟨g.p.mul,h.q.mul,?_,?_⟩
 ·rw[mul_assoc hd h.q g.q g.p.mul,←mul_assoc hd g.q g.p h.p,g.l,(lJ hd h.p).1,h.l]
 ·rw[mul_assoc hd g.p h.p h.q.mul,←mul_assoc hd h.p h.q g.q,h.r,(lJ hd g.q).1,g.r]
noncomputable def cjM(d:Nat)(P P' M:LM):LM:=mulM d (mulM d P M) P'
theorem iI{d:Nat}{P P':LM}(h:Chg d P P')(M:LM):Sq d (cjM d P P' M):=h.p.mul.mul
theorem Tz{d:Nat}(hd:d=2\/d=3){P P' R R' M:LM}(h:Chg d P P')(g:Chg d R R')(hM:Sq d M):cjM d R R' (cjM d P P' M)=cjM d (mulM d R P) (mulM d P' R') M:=by
 unfold cjM;rw[mul_assoc hd g.p h.p hM,←mul_assoc hd (g.p.mul) h.q g.q,mul_assoc hd g.p (h.p.mul) h.q]
theorem Ty{d:Nat}(hd:d=2\/d=3){P P' M:LM}(h:Chg d P P')(hM:Sq d M){v:LI'}(hv:v.length=d):mv (cjM d P P' M) (mv P v)=mv P (mv M v):=by
 unfold cjM;rw[←dJ hd (h.p.mul.mul) h.p hv,mul_assoc hd h.p.mul h.q h.p,h.l,(lJ hd h.p.mul).2,dJ hd h.p hM hv]
noncomputable def vs(v w:LI'):LI':=List.zipWith (· - ·) v w
theorem vs2(a b c e:Int):vs [a,b] [c,e]=[a-c,b-e]:=rfl
theorem vs3(a b c x y z:Int):vs [a,b,c] [x,y,z]=[a-x,b-y,c-z]:=rfl
theorem Cm{d:Nat}{v w:LI'}(hv:v.length=d)(hw:w.length=d):(va v w).length=d:=by unfold va;rw[yH,hv,hw,wT]
theorem Tx{d:Nat}{v w:LI'}(hv:v.length=d)(hw:w.length=d):(vs v w).length=d:=by unfold vs;rw[yH,hv,hw,wT]
theorem Tw{d:Nat}(hd:d=2\/d=3){A:LM}(hA:Sq d A){v w:LI'}(hv:v.length=d)(hw:w.length=d):mv A (vs v w)=vs (mv A v) (mv A w):=by
 rcases hd with rfl|rfl
 ·obtain⟨a,b,c,e,rfl⟩:=sq2 hA;obtain⟨x,y,rfl⟩:=v2 hv;obtain⟨p,q,rfl⟩:=v2 hw;rw[vs2,mv2,mv2,mv2,vs2];congr 1
  ·grind
  ·congr 1;grind
 ·obtain⟨a,b,c,a',b',c',a'',b'',c'',rfl⟩:=sq3 hA;obtain⟨x,y,z,rfl⟩:=v3 hv;obtain⟨p,q,r,rfl⟩:=v3 hw;rw[vs3,mv3,mv3,mv3,vs3];congr 1
  ·grind
  ·congr 1
   ·grind
   ·congr 1;grind
noncomputable def cjT(d:Nat)(P P' M:LM)(ts S:LI'):LI':=vs (va (mv P ts) S) (mv (cjM d P P' M) S)
theorem Cl{d:Nat}{P P' M:LM}(h:Chg d P P'){ts S:LI'}(hS:S.length=d):(cjT d P P' M ts S).length=d:=Tx (Cm (mB h.p) hS) (mB h.p.mul.mul)
theorem Im{d:Nat}(hd:d=2\/d=3){P P' A B:LM}(h:Chg d P P')(hA:Sq d A)(hB:Sq d B):mulM d (cjM d P P' B) (cjM d P P' A)=cjM d P P' (mulM d B A):=by
 unfold cjM;rw[mul_assoc hd h.p.mul h.q h.p.mul.mul,mul_assoc hd h.p hA h.q,←mul_assoc hd h.q h.p hA.mul,h.l,(lJ hd hA.mul).1,←mul_assoc hd h.p.mul hA h.q,mul_assoc hd h.p hB hA]
noncomputable def stM(d i j:Nat)(m:Int):LM:=(List.range d).map λa=>(List.range d).map λb=>if a=b then 1 else if a=i/\b=j then m else 0
noncomputable def vst(i j:Nat)(m:Int)(v:LI'):LI':=v.set i (v.getD i 0+m*v.getD j 0)
noncomputable def mixR(d:Nat)(x y:LI')(m:Int):LI':=(List.range d).map λk=>x.getD k 0+m*y.getD k 0
noncomputable def colR(d i j:Nat)(m:Int)(row:LI'):LI':=(List.range d).map λk=>row.getD k 0-(if k=j then 1 else 0)*m*row.getD i 0
noncomputable def lV(d i j:Nat)(m:Int)(A:LM):LM:=(A.set i (mixR d (A.getD i []) (A.getD j []) m)).map (colR d i j m)
theorem iJ{d i j:Nat}{m:Int}:Sq d (stM d i j m):=⟨by simp[stM],λr hr=>by
 obtain⟨a,_,rfl⟩:=qW.mp hr;simp⟩
theorem st3{i j:Nat}{m:Int}{F:Int->LM}(e:∀m,stM 3 i j m=F m)(h1:∀m:Int,mulM 3 (F (-m)) (F m)=idM 3)(h2:∀x y z:Int,mv (F m) [x,y,z]=vst i j m [x,y,z])(h3:∀a b c d e f g h k:Int,lV 3 i j m [[a,b,c],[d,e,f],[g,h,k]]=mulM 3 (mulM 3 (F m) [[a,b,c],[d,e,f],[g,h,k]]) (F (-m))):
  Chg 3 (stM 3 i j m) (stM 3 i j (-m))/\(∀v:LI',v.length=3->mv (stM 3 i j m) v=vst i j m v)/\∀A,Sq 3 A->lV 3 i j m A=cjM 3 (stM 3 i j m) (stM 3 i j (-m)) A:=by
 refine⟨⟨iJ,iJ,by rw[e,e];exact h1 m,?_⟩,λv hv=>?_,λA hA=>?_⟩
 ·have:=h1 (-m);rw[Int.neg_neg]at this;rw[e,e];exact this
 ·obtain⟨x,y,z,rfl⟩:=v3 hv;rw[e];exact h2 x y z
 ·obtain⟨a,b,c,d,e',f,g,h,k,rfl⟩:=sq3 hA;unfold cjM;rw[e,e];exact h3 ..
theorem Ck{d i j:Nat}{m:Int}(hd:d=2\/d=3)(hi:i<d)(hj:j<d)(hij:i≠j):Chg d (stM d i j m) (stM d i j (-m))/\(∀v:LI',v.length=d->mv (stM d i j m) v=vst i j m v)/\∀A,Sq d A->lV d i j m A=cjM d (stM d i j m) (stM d i j (-m)) A:=by
 rcases hd with e|e <;> subst e
 ·rcases(show(i=0/\j=1)\/(i=1/\j=0) by omega) with⟨e1,e2⟩|⟨e1,e2⟩ <;> subst e1 e2
  ·have e:∀m:Int,stM 2 0 1 m=[[1,m],[0,1]]:=λm=>rfl;refine⟨⟨iJ,iJ,by rw[e,e,mul2,id2];simp;omega,by rw[e,e,mul2,id2];simp;omega⟩,λv hv=>?_,λA hA=>?_⟩
   ·obtain⟨x,y,rfl⟩:=v2 hv;rw[e,mv2];simp[vst]
   ·obtain⟨a,b,c,d,rfl⟩:=sq2 hA;unfold cjM;rw[e,e,mul2,mul2];simp[lV,mixR,colR,List.range,List.range.loop];grind
  ·have e:∀m:Int,stM 2 1 0 m=[[1,0],[m,1]]:=λm=>rfl;refine⟨⟨iJ,iJ,by rw[e,e,mul2,id2];simp;omega,by rw[e,e,mul2,id2];simp;omega⟩,λv hv=>?_,λA hA=>?_⟩
   ·obtain⟨x,y,rfl⟩:=v2 hv;rw[e,mv2];simp[vst];omega
   ·obtain⟨a,b,c,d,rfl⟩:=sq2 hA;unfold cjM;rw[e,e,mul2,mul2];simp[lV,mixR,colR,List.range,List.range.loop];grind
 ·rcases(show(i=0/\j=1)\/(i=0/\j=2)\/(i=1/\j=0)\/(i=1/\j=2)\/(i=2/\j=0)\/(i=2/\j=1) by omega) with⟨e1,e2⟩|⟨e1,e2⟩|⟨e1,e2⟩|⟨e1,e2⟩|⟨e1,e2⟩|⟨e1,e2⟩ <;> subst e1 e2
  ·exact st3 (F:=λm=>[[1,m,0],[0,1,0],[0,0,1]]) (λ_=>rfl) (λ_=>by rw[mul3,id3];simp;try omega) (λ_ _ _=>by rw[mv3];simp[vst];try omega) λ_ _ _ _ _ _ _ _ _=>by rw[mul3,mul3];simp[lV,mixR,colR,List.range,List.range.loop];grind
  ·exact st3 (F:=λm=>[[1,0,m],[0,1,0],[0,0,1]]) (λ_=>rfl) (λ_=>by rw[mul3,id3];simp;try omega) (λ_ _ _=>by rw[mv3];simp[vst];try omega) λ_ _ _ _ _ _ _ _ _=>by rw[mul3,mul3];simp[lV,mixR,colR,List.range,List.range.loop];grind
  ·exact st3 (F:=λm=>[[1,0,0],[m,1,0],[0,0,1]]) (λ_=>rfl) (λ_=>by rw[mul3,id3];simp;try omega) (λ_ _ _=>by rw[mv3];simp[vst];try omega) λ_ _ _ _ _ _ _ _ _=>by rw[mul3,mul3];simp[lV,mixR,colR,List.range,List.range.loop];grind
  ·exact st3 (F:=λm=>[[1,0,0],[0,1,m],[0,0,1]]) (λ_=>rfl) (λ_=>by rw[mul3,id3];simp;try omega) (λ_ _ _=>by rw[mv3];simp[vst];try omega) λ_ _ _ _ _ _ _ _ _=>by rw[mul3,mul3];simp[lV,mixR,colR,List.range,List.range.loop];grind
  ·exact st3 (F:=λm=>[[1,0,0],[0,1,0],[m,0,1]]) (λ_=>rfl) (λ_=>by rw[mul3,id3];simp;try omega) (λ_ _ _=>by rw[mv3];simp[vst];try omega) λ_ _ _ _ _ _ _ _ _=>by rw[mul3,mul3];simp[lV,mixR,colR,List.range,List.range.loop];grind
  ·exact st3 (F:=λm=>[[1,0,0],[0,1,0],[0,m,1]]) (λ_=>rfl) (λ_=>by rw[mul3,id3];simp;try omega) (λ_ _ _=>by rw[mv3];simp[vst];try omega) λ_ _ _ _ _ _ _ _ _=>by rw[mul3,mul3];simp[lV,mixR,colR,List.range,List.range.loop];grind
structure Stp where
 i:Nat
 j:Nat
 m:Int
structure Stp.Ok(d:Nat)(s:Stp):Prop where
 hi:s.i<d
 hj:s.j<d
 ne:s.i≠s.j
 m2:s.m.natAbs<=2
noncomputable def chP(d:Nat):List Stp->LM
 |[]=>idM d
 |s:: L=>mulM d (stM d s.i s.j s.m) (chP d L)
noncomputable def chQ(d:Nat):List Stp->LM
 |[]=>idM d
 |s:: L=>mulM d (chQ d L) (stM d s.i s.j (-s.m))
theorem kK{d:Nat}(hd:d=2\/d=3):∀{L:List Stp},(∀s∈L,s.Ok d)->Chg d (chP d L) (chQ d L)
 |[],_=>Chg.id hd
 |s:: L,h=>by
  have o:=h s (zU ..);exact(kK hd λz hz=>h z (zM _ hz)).then hd (Ck hd o.hi o.hj o.ne).1
theorem Tv{d:Nat}(hd:d=2\/d=3){L:List Stp}(h:∀s∈L,s.Ok d){s:Stp}(o:s.Ok d){A:LM}(hA:Sq d A):lV d s.i s.j s.m (cjM d (chP d L) (chQ d L) A)=cjM d (chP d (s:: L)) (chQ d (s:: L)) A:=by
 have g:=(Ck (m:=s.m) hd o.hi o.hj o.ne);rw[g.2.2 _ (iI (kK hd h) A),Tz hd (kK hd h) g.1 hA];rfl
theorem Tu{d:Nat}(hd:d=2\/d=3){L:List Stp}(h:∀s∈L,s.Ok d){s:Stp}(o:s.Ok d){v:LI'}(hv:v.length=d):vst s.i s.j s.m (mv (chP d L) v)=mv (chP d (s:: L)) v:=by
 have g:=(Ck (m:=s.m) hd o.hi o.hj o.ne);have c:=kK hd h;rw[←g.2.1 _ (mB c.p),←dJ hd iJ c.p hv];rfl
theorem Il{d:Nat}(hd:d=2\/d=3){A:LM}(hA:Sq d A){v:LI'}(hv:v.length=d):cjM d (chP d []) (chQ d []) A=A/\mv (chP d []) v=v:=by
 refine⟨?_,dL hd hv⟩;unfold chP chQ cjM;rw[(lJ hd hA).1,(lJ hd hA).2]
def LeM(N:Nat)(A:LM):Prop:=∀r∈A,∀z∈r,z.natAbs<=N
theorem Ik{d i j:Nat}{m:Int}{N:Nat}(h:m.natAbs<=N)(hN:1<=N):LeM N (stM d i j m):=λr hr z hz=>by
 obtain⟨a,_,rfl⟩:=qW.mp hr;obtain⟨b,_,rfl⟩:=qW.mp hz;split
 ·exact hN
 ·split
  ·exact h
  ·omega
theorem Cj{A B:Nat}:∀(r ns:LI'),(∀z∈r,z.natAbs<=A)->(∀z∈ns,z.natAbs<=B)->(dotI r ns).natAbs<=r.length*(A*B)
 |[],ns,_,_=>by simp[dotI]
 |_:: _,[],_,_=>by simp[dotI]
 |a:: r,b:: ns,h1,h2=>by
  have ih:=Cj r ns (λz hz=>h1 z (zM _ hz)) λz hz=>h2 z (zM _ hz);unfold dotI at ih ⊢;rw[yV,List.sum_cons,zY,rA];have e1:(a*b).natAbs<=A*B:=by rw[xA];exact wG (h1 a zU) (h2 b zU)
  have e2:=uJ (a*b) (List.zipWith (λx1 x2=>x1*x2) r ns).sum;omega
theorem Tt{N:Nat}{A:LM}(h:LeM N A)(k:Nat):∀z∈colI k A,z.natAbs<=N:=λz hz=>by
 unfold colI at hz;obtain⟨r,hr,rfl⟩:=qW.mp hz;rw[zqc];cases e:r[k]? with
 |none=>exact yU _
 |some y=>exact h r hr y (zqb e)
theorem aE{d A B:Nat}{M N:LM}(sM:Sq d M)(hM:LeM A M)(hN:LeM B N):LeM (d*(A*B)) (mulM d M N):=λr hr z hz=>by
 obtain⟨x,hx,rfl⟩:=qW.mp hr;obtain⟨k,_,rfl⟩:=qW.mp hz;have:=Cj x (colI k N) (hM x hx) (Tt hN k);rw[sM.2 x hx]at this;exact this
theorem Ij{c:Int}:∀{r v:LI'},dotI r (smul c v)=c*dotI r v
 |[],v=>by simp[dotI]
 |_:: _,[]=>by simp[dotI,smul]
 |a:: r,x:: v=>by
  have:=Ij (c:=c) (r:=r) (v:=v);unfold dotI smul at this ⊢;simp only[List.map_cons,List.zipWith_cons_cons,List.sum_cons];rw[this];grind
noncomputable def canD(M:LM)(ts:LI')(U:Int):Dd:=(M,oO (redU U ts) (redT U ts),redU U ts)
theorem Ii{M:LM}{ts ts':LI'}{U:Int}(hU:0<U)(h:Cong U ts ts'):canD M ts U=canD M ts' U:=by
 obtain⟨h1,h2⟩:=h.red hU;unfold canD;rw[h1,←h1,h2,h1]
theorem aF{U:Int}{ts:LI'}(hU:0<U):cs U ts=gl U ts/\0<cs U ts:=by
 have:=bX ts (show U≠0 by omega);unfold cs;rw[zI ⋯];exact⟨rfl,this⟩
theorem aG{U:Int}{ts:LI'}(hU:0<U):∃c,0<c/\ts=smul c (redT U ts)/\U=c*redU U ts/\0<redU U ts:=by
 obtain⟨h1,h2⟩:=aF (ts:=ts) hU;refine⟨cs U ts,h2,?_,?_,Cv ts ⋯⟩
 ·unfold smul redT;rw[xV]
  conv=>lhs;rw[←rF ts]
  refine wX λt ht=>?_;show t=cs U ts*t.fdiv (cs U ts);rw[wR];exact(jB ⋯ (jA (dD ht))).symm
 ·rw[wR];exact(jB ⋯ (jA (gl_u U ts))).symm
theorem Ci{U k:Int}{ts:LI'}(hU:0<U)(hk:0<k):redT (k*U) (smul k ts)=redT U ts/\redU (k*U) (smul k ts)=redU U ts:=by
 have hkU:0<k*U:=yX hk hU;have hg:cs (k*U) (smul k ts)=k*cs U ts:=by
  rw[(aF hkU).1,(aF hU).1,wR k U,wR k (gl U ts),←Ir hk];unfold smul;congr 1;exact wX λt _=>wR k t
 have hc:=(aF (ts:=ts) hU).2;refine⟨?_,?_⟩
 ·unfold redT;rw[hg];unfold smul;rw[xV];exact wX λt ht=>by
   show(k*t).fdiv (k*cs U ts)=_;exact Int.mul_fdiv_mul_of_pos _ _ hk
 ·unfold redU;rw[hg];exact Int.mul_fdiv_mul_of_pos _ _ hk
theorem Cg{M:LM}{U k:Int}{ts:LI'}(hU:0<U)(hk:0<k):canD M (smul k ts) (k*U)=canD M ts U:=by
 obtain⟨h1,h2⟩:=Ci (ts:=ts) hU hk;unfold canD;rw[h1,h2]
theorem Ts{N:LM}{ns ts:LI'}{c e u v:Int}:movT N (smul e ns) (e*v) (smul c ts) (c*u)=smul (e*c) (movT N ns v ts u):=by
 unfold movT
 induction N generalizing ns with
 |nil=>rfl
 | cons r N ih =>
  cases ns with
  |nil=>rfl
  |cons n ns =>
   have:=ih (ns:=ns);unfold smul at this ⊢;rw[zL,yV,yV,zL,this];have hd:=Ij (c:=c) (r:=r) (v:=ts);unfold smul at hd;rw[hd];congr 1;grind
theorem iK{d:Nat}{M N:LM}{ts ns:LI'}{U V:Int}(hU:0<U)(hV:0<V):oK d (canD M ts U) (canD N ns V)=canD (mulM d N M) (movT N ns V ts U) (V*U):=by
 obtain⟨c,hc,e1,e2,hu⟩:=aG (ts:=ts) hU;obtain⟨e,he,e3,e4,hv⟩:=aG (ts:=ns) hV;have k1:canD (mulM d N M) (movT N ns V ts U) (V*U)=canD (mulM d N M) (movT N (redT V ns) (redU V ns) (redT U ts) (redU U ts)) (redU V ns*redU U ts):=by
  have hh:V*U=(e*c)*(redU V ns*redU U ts):=by
   conv=>lhs;rw[e2,e4]
   grind
  have hm:movT N ns V ts U=smul (e*c) (movT N (redT V ns) (redU V ns) (redT U ts) (redU U ts)):=by
   rw[←Ts,←e1,←e2,←e3,←e4]
  rw[hh,hm,Cg (yX hv hu) (yX he hc)]
 rw[k1];exact Ii (yX hv hu) (Sa (Cong.rest hv _) (Cong.rest hu _)) |>.symm
noncomputable def frD(d:Nat)(P P':LM)(s:LI')(su p:Int)(R:LM)(t:LI'):Dd:=canD (cjM d P P' R) (cjT d P P' R (smul su t) (smul p s)) (p*su)
theorem Tr{d:Nat}(hd:d=2\/d=3){A B C D S:LI'}(hA:A.length=d)(hB:B.length=d)(hC:C.length=d)(hD:D.length=d)(hS:S.length=d):va (vs (va A B) C) (vs (va D S) B)=vs (va (va A D) S) C:=by
 rcases hd with rfl|rfl
 ·obtain⟨a,a',rfl⟩:=v2 hA;obtain⟨b,b',rfl⟩:=v2 hB;obtain⟨c,c',rfl⟩:=v2 hC;obtain⟨e,e',rfl⟩:=v2 hD;obtain⟨f,f',rfl⟩:=v2 hS;simp only[va2,vs2,List.cons.injEq,and_true];omega
 ·obtain⟨a,a',a2,rfl⟩:=v3 hA;obtain⟨b,b',b2,rfl⟩:=v3 hB;obtain⟨c,c',c2,rfl⟩:=v3 hC;obtain⟨e,e',e2,rfl⟩:=v3 hD;obtain⟨f,f',f2,rfl⟩:=v3 hS;simp only[va3,vs3,List.cons.injEq,and_true];omega
theorem Tq{N:LM}{ns ts:LI'}{U:Int}:movT N ns U ts U=smul U (va (mv N ts) ns):=by
 unfold movT va mv
 induction N generalizing ns with
 |nil=>rfl
 | cons r N ih =>
  cases ns with
  |nil=>rfl
  |cons n ns =>
   have:=ih (ns:=ns);unfold smul at this ⊢;rw[yV,zL,yV,zL,this];congr 1;grind
theorem Ih{c:Int}:∀{v w:LI'},smul c (va v w)=va (smul c v) (smul c w)
 |[],_=>by simp[smul,va]
 |_:: _,[]=>by simp[smul,va]
 |a:: v,b:: w=>by
  have:=Ih (c:=c) (v:=v) (w:=w);unfold smul va at this ⊢;simp only[List.map_cons,List.zipWith_cons_cons];rw[this,Int.mul_add]
theorem fr_step{d:Nat}(hd:d=2\/d=3){P P':LM}(h:Chg d P P'){s:LI'}(hs:s.length=d){su p:Int}(hu:0<su)(hp:0<p){R1 R2:LM}(h1:Sq d R1)(h2:Sq d R2){t1 t2:LI'}(l1:t1.length=d)(l2:t2.length=d):
  oK d (frD d P P' s su p R1 t1) (frD d P P' s su p R2 t2)=frD d P P' s su p (mulM d R2 R1) (va (mv R2 t1) t2):=by
 have hU:0<p*su:=yX hp hu;have lS:(smul p s).length=d:=by rw[kD];exact hs
 have la:(smul su t1).length=d:=by rw[kD];exact l1
 have lb:(smul su t2).length=d:=by rw[kD];exact l2
 have s1:=iI h R1;have s2:=iI h R2;unfold frD;rw[iK hU hU,Tq,Cg hU hU,Im hd h h1 h2];congr 1;unfold cjT;rw[Tw hd s2 (Cm (mB h.p) lS) (mB s1),Iq hd s2 (mB h.p) lS,Ty hd h h2 la,Tr hd (mB h.p) (mB s2) (mB s2) (mB h.p) lS,←dJ hd s2 s1 lS,Im hd h h1 h2,Ih,Iq hd h.p (by rw[kD];exact mB h2) lb,dM hd h2 l1]
theorem To{u:Int}{a a' b b':LI'}(h1:Cong u a a')(h2:Cong u b b'):Cong u (va a b) (va a' b'):=by
 refine⟨by unfold va;rw[yH,yH,h1.1,h2.1],λi x y ex ey=>?_⟩;unfold va at ex ey;rw[yK]at ex ey;cases ea:a[i]? <;> cases eb:b[i]? <;> simp[ea,eb]at ex;cases ea':a'[i]? <;> cases eb':b'[i]? <;> simp[ea',eb']at ey;rename_i p q p' q';have g1:=h1.2 i _ _ ea ea';have g2:=h2.2 i _ _ eb eb';rw[←ex,←ey,show p+q-(p'+q')=(p-p')+(q-q') by omega];exact qN g1 g2
theorem Tn{u:Int}{a a' b b':LI'}(h1:Cong u a a')(h2:Cong u b b'):Cong u (vs a b) (vs a' b'):=by
 refine⟨by unfold vs;rw[yH,yH,h1.1,h2.1],λi x y ex ey=>?_⟩;unfold vs at ex ey;rw[yK]at ex ey;cases ea:a[i]? <;> cases eb:b[i]? <;> simp[ea,eb]at ex;cases ea':a'[i]? <;> cases eb':b'[i]? <;> simp[ea',eb']at ey;rename_i p q p' q';have g1:=h1.2 i _ _ ea ea';have g2:=h2.2 i _ _ eb eb';rw[←ex,←ey,show p-q-(p'-q')=(p-p')-(q-q') by omega];exact qQ g1 g2
theorem Ig{u:Int}(a:LI'):Cong u a a:=⟨rfl,λi x y ex ey=>by rw[ex]at ey;cases ey;rw[Int.sub_self];exact Int.dvd_zero u⟩
theorem Tm{u:Int}{M:LM}{a a':LI'}(h:Cong u a a'):Cong u (mv M a) (mv M a'):=by
 refine⟨by unfold mv;rw[zqe,zqe],λi x y ex ey=>?_⟩;unfold mv at ex ey;rw[zC]at ex ey;cases e:M[i]? <;> simp[e]at ex ey;rw[←ex,←ey];exact Cn _ _ _ h
theorem Tl{u c:Int}{a a':LI'}(h:Cong u a a'):Cong (u*c) (smul c a) (smul c a'):=by
 refine⟨by rw[kD,kD,h.1],λi x y ex ey=>?_⟩;unfold smul at ex ey;rw[zC]at ex ey;cases e:a[i]? <;> simp[e]at ex;cases e':a'[i]? <;> simp[e']at ey;rw[←ex,←ey,←qO,wR c];exact qD (h.2 i _ _ e e') (vP c)
theorem Tk{d:Nat}{P P':LM}{s:LI'}{su p:Int}(hu:0<su)(hp:0<p){R:LM}{t t':LI'}(h:Cong p t t'):frD d P P' s su p R t=frD d P P' s su p R t':=
 Ii (yX hp hu) (Tn (To (Tm (Tl h)) (Ig _)) (Ig _))
theorem Cf{α:Type}:∀{l L:List α},l.Nodup->(∀x∈l,x∈L)->l.length<=L.length
 |[],L,_,_=>yU _
 | a:: l,L,nd,h=>by
  obtain⟨s,t,e⟩:=List.append_of_mem (h a zU);have nd':=sZ.mp nd;have:=Cf (L:=s++t) nd'.2 λx hx=>by
   have hm:=h x (zM _ hx);rw[e]at hm;rcases pH.mp hm with hm|hm
   ·exact wA _ hm
   ·rcases xE.mp hm with rfl|hm
    ·exact absurd hx nd'.1
    ·exact yJ _ hm
  rw[e];simp only[List.length_append,List.length_cons]at this ⊢;omega
theorem Ie{d:Nat}{x:Dd}{w:List Nat}{G:Dd->Prop}:∀(l:List (Dd×Nat))(tb:Tb),(∀k∈l,G (oK d x k.1))->(∀y∈tb,G y.1)->∀y∈l.foldl (nxt d x w) tb,G y.1
 |[],_,_,h=>h
 |k:: l,tb,hs,h=>Ie l _ (λk' hk=>hs k' (zM _ hk)) (Hb h (hs k zU))
theorem Id{ss:List Dd}{k:Dd×Nat}(h:k∈ss.zipIdx):k.1∈ss/\ss[k.2]?=some k.1:=by
 obtain⟨i,hi⟩:=wF h;rw[sJ]at hi;cases e:ss[i]? with
 |none=>rw[e]at hi;cases hi
 |some s =>
  rw[e]at hi;cases hi;exact⟨zqb e,by simpa using e⟩
theorem Tj{d:Nat}{ss:List Dd}{G:Dd->Prop}(hs:∀x,G x->∀s∈ss,G (oK d x s)){tb:Tb}{i:Nat}(h:∀y∈tb,G y.1):∀y∈lU d ss tb i,G y.1:=by
 unfold lU;cases e:tb[i]? with
 |none=>exact h
 |some xw=>exact Ie _ _ (λk hk=>hs _ (h _ (zqb e)) _ (Id hk).1) h
theorem Ic{d:Nat}{ss:List Dd}{G:Dd->Prop}(hs:∀x,G x->∀s∈ss,G (oK d x s)):∀(n i:Nat)(tb:Tb),(∀y∈tb,G y.1)->∀y∈nH d ss n i tb,G y.1
 |0,_,_,h=>h
 |n+1,i,tb,h=>by
  unfold nH;split
  ·exact Ic hs n (i+1) _ (Tj hs h)
  ·exact h
theorem Ti{d:Nat}{ss:List Dd}{tb:Tb}{i:Nat}(h:(tb.map (·.1)).Nodup):((lU d ss tb i).map (·.1)).Nodup:=by
 unfold lU;split
 ·exact h
 ·exact Hc _ _ h
theorem Ib{d:Nat}{ss:List Dd}:∀(n i:Nat)(tb:Tb),(tb.map (·.1)).Nodup->((nH d ss n i tb).map (·.1)).Nodup
 |0,_,_,h=>h
 |n+1,i,tb,h=>by
  unfold nH;split
  ·exact Ib n (i+1) _ (Ti h)
  ·exact h
noncomputable abbrev tab(d:Nat)(ss:List Dd)(N:Nat):Tb:=nH d ss N 0 [(oQ d,[])]
theorem dN{d:Nat}{ss:List Dd}{N:Nat}:((tab d ss N).map (·.1)).Nodup:=Ib N 0 _ (by simp)
theorem aH{d:Nat}{ss:List Dd}{N:Nat}{G:Dd->Prop}(h0:G (oQ d))(hs:∀x,G x->∀s∈ss,G (oK d x s)):∀y∈tab d ss N,G y.1:=Ic hs N 0 _ λy hy=>by rw[qV.mp hy];exact h0
theorem Th{d:Nat}{ss:List Dd}{N:Nat}{G:Dd->Prop}{L:List Dd}(h0:G (oQ d))(hs:∀x,G x->∀s∈ss,G (oK d x s))(hL:∀x,G x->x∈L):(tab d ss N).length<=L.length:=by
 rw[←zqe (f:=(·.1))];exact Cf dN λx hx=>by
  obtain⟨y,hy,rfl⟩:=qW.mp hx;exact hL _ (aH h0 hs y hy)
theorem Ia{d:Nat}{x:Dd}{w:List Nat}:∀(l:List (Dd×Nat))(tb:Tb),∀k∈l,oK d x k.1∈(l.foldl (nxt d x w) tb).map (·.1)
 | k:: l,tb,k',hk=>by
  rw[wK];rcases xE.mp hk with rfl|hk
  ·have h:oK d x k'.1∈(nxt d x w tb k').map (·.1):=by
    unfold nxt;split
    ·assumption
    ·simp
   obtain⟨r,e⟩:=dG d x w l (nxt d x w tb k');rw[e,xD];exact wA _ h
  ·exact Ia l _ k' hk
theorem Tg{d:Nat}{ss:List Dd}{tb:Tb}{i:Nat}{xw:Dd×List Nat}(e:tb[i]?=some xw){s:Dd}(hs:s∈ss):oK d xw.1 s∈(lU d ss tb i).map (·.1):=by
 unfold lU;rw[e];obtain⟨j,hj⟩:=wF hs;exact Ia ss.zipIdx tb (s,j) (zqb (i:=j) (by rw[sJ,hj];simp))
theorem Jz{d:Nat}{ss:List Dd}:∀(n i:Nat)(tb:Tb),(∀j,j<i->∀xw,tb[j]?=some xw->∀s∈ss,oK d xw.1 s∈tb.map (·.1))->(nH d ss n i tb).length<=n+i->∀xw∈nH d ss n i tb,∀s∈ss,oK d xw.1 s∈(nH d ss n i tb).map (·.1)
 |0,i,tb,h,hl=>λxw hx s hs=>by
  obtain⟨j,hj⟩:=wF hx;have:=(zqa hj).1;unfold nH at hl this hj ⊢;exact h j ⋯ _ hj s hs
 | n+1,i,tb,h,hl=>by
  unfold nH at hl ⊢;split
  ·next q =>
   rw[zJ q]at hl;obtain⟨r,er⟩:=Hg d ss tb i;refine Jz n (i+1) _ (λj hj xw e s hs=>?_) ⋯;rcases uL j i with l|l
   ·rw[er,yT ⋯]at e;rw[er,xD];exact wA _ (h j l xw e s hs)
   ·have:j=i:=⋯
    subst this;rw[er,yT ⋯]at e;exact Tg e hs
  ·next q =>
   intro xw hx s hs;obtain⟨j,hj⟩:=wF hx;have:=(zqa hj).1;exact h j ⋯ _ hj s hs
theorem Ce{d:Nat}{ss:List Dd}{N:Nat}(h:(tab d ss N).length<=N):∀xw∈tab d ss N,∀s∈ss,oK d xw.1 s∈(tab d ss N).map (·.1):=Jz N 0 _ (λj hj=>absurd hj (rZ j)) h
theorem fK{d:Nat}{ss:List Dd}{N:Nat}:(oQ d,[])∈tab d ss N:=by
 obtain⟨r,e⟩:=aA d ss N 0 [(oQ d,[])];unfold tab;rw[e];simp
noncomputable def aI(d:Nat)(ss:List Dd)(w:List Nat):Dd:=w.foldl (λx k=>oK d x (ss.getD k (oQ d))) (oQ d)
def WdOk(d:Nat)(ss:List Dd)(y:Dd×List Nat):Prop:=y.1=aI d ss y.2/\∀k∈y.2,k<ss.length
theorem Jy{d:Nat}{ss:List Dd}{x:Dd}{w:List Nat}(hx:WdOk d ss (x,w)):∀(l:List (Dd×Nat))(tb:Tb),(∀k∈l,ss[k.2]?=some k.1)->(∀y∈tb,WdOk d ss y)->∀y∈l.foldl (nxt d x w) tb,WdOk d ss y
 |[],_,_,h=>h
 | k :: l,tb,hl,h=>by
  refine Jy hx l _ (λk' hk=>hl k' (zM _ hk)) λy hy=>?_;unfold nxt at hy;split at hy
  ·exact h y hy
  ·rcases pH.mp hy with hy|hy
   ·exact h y hy
   ·rw[qV.mp hy];have e:=hl k zU;refine⟨?_,λj hj=>?_⟩
    ·show oK d x k.1=aI d ss (w++[k.2]);unfold aI;rw[uI,wK,List.foldl_nil];show _=oK d (aI d ss w) _;rw[←hx.1,zqc,e];rfl
    ·rcases pH.mp hj with hj|hj
     ·exact hx.2 j hj
     ·rw[qV.mp hj];exact(zqa e).1
theorem Jx{d:Nat}{ss:List Dd}:∀(n i:Nat)(tb:Tb),(∀y∈tb,WdOk d ss y)->∀y∈nH d ss n i tb,WdOk d ss y
 |0,_,_,h=>h
 | n+1,i,tb,h=>by
  unfold nH;split
  ·refine Jx n (i+1) _ ?_;unfold lU;cases e:tb[i]? with
   |none=>exact h
   |some xw=>exact Jy (h _ (zqb e)) _ _ (λk hk=>(Id hk).2) h
  ·exact h
theorem Tf{d:Nat}{ss:List Dd}{N:Nat}:∀y∈tab d ss N,WdOk d ss y:=Jx N 0 _ λy hy=>by rw[qV.mp hy];exact⟨rfl,λk hk=>by cases hk⟩
theorem fms(x y:Int)(h:0<y):0<=x.fmod y/\x.fmod y<y:=⟨uC x h,tH x h⟩
theorem nA.le{B C:Nat}{ts:LI'}(h:nA B ts)(hc:B<=C):nA C ts:=λx hx=>zE (h x hx) (zW ∅ hc)
def iL(H:Hp)(l:Addr)(L:List Stp):Prop:=∃ps:LA,H l=some (.lst (ps.map V.ref))/\ps.length=L.length/\∀(k:Nat) p s,ps[k]?=some p->L[k]?=some s->H p=some (.tup [.int s.i,.int s.j,.int s.m])
theorem iL.up{H H':Hp}{l:Addr}{L:List Stp}(h:iL H l L)(s:Same H H'):iL H' l L:=by
 obtain⟨ps,h1,h2,h3⟩:=h;exact⟨ps,s _ _ h1,h2,λk p x e1 e2=>s _ _ (h3 k p x e1 e2)⟩
def sp_b:Sp:=λvs H Q _=>E3 λ(c b:Int)(m:Nat)=>A5 (vs=[.int c,.int b,.int m]) (1<=b) (b<=10000000000) (m<=40) (∀r H'(ns:LI'),Same H H'->H r=none->H' r=some (.lst (ns.map V.int))->ns.length=m->(∀x∈ns,0<=x/\x<b)->Q (.ref r) H')
def sp_x:Sp:=λvs H Q _=>E2 λ(a b:Int)=>A3 (vs=[.int a,.int b]) (0<=a) (Q (.int (gcdI a b)) H)
def sp_f(K:Frag):Sp:=λvs H Q _=>E4 λ(b:Bool)(a:Addr)(ns:LI')(u:Int)=>A6 (vs=[.ref a,.int u]) (SqB b K H a (ns.map V.int)) (ns.length<=100) (0<u) (lQ u) (∀p H',Same H H'->oI H' p (redT u ns) (redU u ns)->Q (.ref p) H')
def sp_1a(K:Frag):Sp:=λvs H Q _=>E8 λ(b1 b2 b3:Bool)(a l:Addr)(A:LM)(ns:LI')(d:Nat)=>A9 (vs=[.ref a,.ref l]) (MatB b1 b2 K H a A) (SqB b3 K H l (ns.map V.int)) (Sq d A) ((d=2\/d=3)) (ns.length=d) (nF 1700 A) (nA 9000000 ns) (∀r H',Same H H'->H r=none->H' r=some (.lst ((mv A ns).map V.int))->Q (.ref r) H')
def sp_17:Sp:=λvs H Q _=>E2 λ(c:Int)(d:Nat)=>A3 (vs=[.int c,.int d]) ((d=2\/d=3)) (∀r H'(s:Stp),Same H H'->H' r=some (.tup [.int s.i,.int s.j,.int s.m])->s.Ok d->Q (.ref r) H')
def sp_6(K:Frag):Sp:=λvs H Q _=>E7 λ(b:Bool)(a l:Addr)(ns:LI')(L:List Stp)(d C:Nat)=>A10 (vs=[.ref a,.ref l]) (SqB b K H a (ns.map V.int)) (iL H l L) (ns.length=d) ((d=2\/d=3)) ((∀s∈L,s.Ok d)) (L.length<=40) (nA C ns) (C<=9000000) (∀r H',Same H H'->H r=none->H' r=some (.lst ((mv (chP d L.reverse) ns).map V.int))->nA (C+2*L.length) (mv (chP d L.reverse) ns)->Q (.ref r) H')
def sp_3(K:Frag):Sp:=λvs H Q _=>E8 λ(b1 b2:Bool)(a l:Addr)(A:LM)(L:List Stp)(d B:Nat)=>A10 (vs=[.ref a,.ref l]) (MatB b1 b2 K H a A) (iL H l L) (Sq d A) ((d=2\/d=3)) ((∀s∈L,s.Ok d)) (L.length<=40) (nF B A) (B<=1000) (∀r H',Same H H'->MatL H' r (cjM d (chP d L.reverse) (chQ d L.reverse) A)->nF (B+4*L.length) (cjM d (chP d L.reverse) (chQ d L.reverse) A)->Q (.ref r) H')
def sp_9(K:Frag):Sp:=λvs H Q _=>E9 λ(b1 b2 b3 b4:Bool)(a b:Addr)(A B:LM)(d:Nat)=>A9 (vs=[.ref a,.ref b]) (MatB b1 b2 K H a A) (MatB b3 b4 K H b B) (Sq d A) (Sq d B) ((d=2\/d=3)) (nF 1000 A) (nF 1000 B) (∀r H',Same H H'->MatL H' r (mulM d A B)->Q (.ref r) H')
def sp_z(K:Frag):Sp:=λvs H Q _=>E3 λ(p:Addr)(ns:LI')(u:Int)=>A5 (vs=[.ref p]) (PlS K H p ns u) (ns.length<=100) (0<u) (∀p' H',Same H H'->oI H' p' (oO u ns) u->Q (.ref p') H')
theorem Te(a b:Int):gcdI (b.fmod a) a=gcdI a b:=by
 unfold gcdI;have:=Hu b a;rw[qI,this,qI]
theorem Td{u:Int}(hu:0<u)(ns:LI'){i:Nat}{n:Int}(h:ns[i]?=some n):gl u (ns.take (i+1))=gcdI (gl u (ns.take i)) n:=by
 unfold gl;rw[Ct h,uI];rfl
theorem ok_x(T:Txt K mg t):FnOk P w K mg base CX0 1 t.a_x t.d_x pj' sp_x:=by
 apply T.F_x.ok sc_x
 ·obtain⟨a,b,rfl,sa,hQ⟩:=h;refine⟨_,(pM (aT yS (oR lW (pq 0) pR (oP _))
   (pQ (Kc (i:=0) (j:=1) rfl sc_x.nd rfl rfl ∅ rfl rfl (pK (pO nN (pq 1) (pq 0)) (pK (pq 0) pL)) rfl)))
   (pQ (oA (mJ gO rfl T.z_abs (nofun) (pK (pq 1) pL))))),?_⟩
  show tSeq _ _ _ [some (.int a),some (.int b)] H;refine st λN1 e1=>Fz λB eB=>?_;refine⟨λm σ H1=>∃x y,σ=[some (.int x),some (.int y)]/\H1=H/\gcdI x y=gcdI a b/\0<=x/\m=x.natAbs,⟨_,a,b,rfl,rfl,rfl,sa,rfl⟩,?_⟩;rintro m σ H1 ⟨x,y,rfl,rfl,e,hx0,rfl⟩;ext
  by_cases z:x=0
  ·rw[zK z];refine iteF ?_;symm;have e2:(if y<0 then -y else y)=gcdI a b:=by
    rw[←e,z];unfold gcdI;rw[Int.gcd_zero_left];split <;> omega
   rw[e2];exact hQ
  ·rw[zN z];refine iteT ⟨λσ' H'=>σ'=[some (.int (y.fmod x)),some (.int x)]/\H'=H1,?_,?_⟩
   ·rintro σ' H' ⟨rfl,rfl⟩;have h1:=uC y (show 0<x by omega);have h2:=tH y (show 0<x by omega);exact⟨(y.fmod x).natAbs,⋯,_,_,rfl,rfl,by rw[Te];exact e,h1,rfl⟩
   ·subst eB;ext;exact z
theorem ok_f(T:Txt K mg t):FnOk P w K mg base CX0 2 t.a_f t.d_f pk' (sp_f K):=by
 have G_x:=@ok_x P w K mg base t T;apply T.F_f.ok sc_f
 ·obtain⟨b,a,ns,u,rfl,hS,hl,hu,su,hQ⟩:=h;refine⟨_,(pM (pZ (i:=2) sc_f.nd rfl (Or.inr rfl) (pq 1))
   (pM (mX yS rfl (oH (pq 0)) (oV (i:=3) sc_f.nd rfl (Or.inl rfl))
   (pQ (pZ (i:=2) sc_f.nd rfl (Or.inr rfl) (pU G_x hr.mo T.F_x (pK (pq 2) (pK (pq 3) pL))))))
   (pQ (oA (nJ (pK (nS lO rfl T.z_tuple (nofun) (pK (oX (sc:=pN bQ) (N:=N_f) (fr:=[("_law_by",2)]) (te:=(tOp (rI lH λi j=>.int (i.fdiv j)) (tVar 0) (tVar 1))) rfl rfl (nofun) rfl (nofun) (oH (pq 0)) (λ_ _ _ hE1=>(pO nX (pv 0) (pv 1)))) pL)) (pK (pO nX (pq 1) (pq 2)) pL))))))),?_⟩
  show tSeq _ _ _ [some (.ref a),some (.int u),none,none] H;have g0:gl u []=u:=by unfold gl absI;rw[zI ⋯];rfl
  right;subst e1;refine st λN1 e1=>mZ λB eB=>?_;simp only[iSeq];ext;refine⟨b,⟨_,hS⟩,?_⟩;refine kI (b:=b) (g:=pY 3) (tb:=B) (λi σ H1=>∃v3,σ=[some (.ref a),some (.int u),some (.int (gl u (ns.take i))),v3]/\H1=H) ⟨none,by rw[tN,g0],rfl⟩ (λi σ H1 _⟨_,_,e⟩=>e ▸ hS) ?_ ?_
  ·rintro i x σ H1 ex ⟨v3,rfl,rfl⟩;obtain⟨n,en,rfl⟩:=nQ ex;subst eB;show tAsg _ _ _ [some (.ref a),some (.int u),some (.int (gl u (ns.take i))),some (.int n)] H1;ext;refine⟨_,_,rfl,fF _ _,?_⟩;rw[Td hu ns en];exact⟨rfl,rfl⟩
  ·rintro σ H1 ⟨v3,rfl,rfl⟩;rw[zqe,vS];have gp:=bX ns (show u≠0 by omega);have ec:cs u ns=gl u ns:=by unfold cs;rw[zI ⋯]
   have cd:∀x,lH x (gl u ns):=λx=>⟨⋯,Hr (Hq su ⋯ (gl_u u ns)) ⋯⟩;symm;refine oG λB2 eB2=>?_;simp only[iSeq];ext;refine⟨b,⟨_,hS⟩,λa1 ha1=>?_⟩;refine oT (λj y _=>∃n,ns[j]?=some n/\y=.int (n.fdiv (gl u ns))) ha1 hS (by rw[zqe];omega) (λ_ _ _ _ r _=>r) ?_ ?_
   ·intro i x H3 zs ex s3 ez Q' hQ';obtain⟨n,en,rfl⟩:=nQ ex;subst eB2;show tOp _ _ _ [some (.int n),some (.int (gl u ns))] H3 Q';ext;exact⟨cd _,hQ' _ _ (Same.refl _) ⟨n,en,rfl⟩⟩
   ·intro H3 zs s3 ez hlz hR;have ez2:zs=(redT u ns).map V.int:=by
     unfold redT;rw[xV,ec];exact oZ (by simpa using hlz) hR
    subst ez2;refine⟨a1,_,rfl,.inl ⟨SqL.of ez,λq hq=>⟨cd _,by show 2<=sizeLine;decide,λp hp=>hQ p _ (s3.trans ((Same.new hq).trans (Same.new hp))) ⟨q,?_,(Same.new hp) _ _ pV⟩⟩⟩⟩;rw[pV];unfold redU;rw[ec]
theorem ok_1a(T:Txt K mg t):FnOk P w K mg base CX0 1 t.a_1a t.d_1a pn' (sp_1a K):=by
 apply T.F_1a.ok sc_1a
 ·obtain⟨b1,b2,b3,a,l,MA,ns,d,rfl,hA,hS,sA,hd,hl,bA,bn,hQ⟩:=h;refine⟨_,(pQ (oA (lY (xs:=["_law_row"]) (fr:=[("_law_tops",1)]) (g:=(pY 0)) (tt:=(tEl (tCB (λxs H Q=>∃(p:Addr)(ns:LI'),xs=[.ref p]/\SqL K H p (ns.map V.int)/\Q (.int ns.sum) H) (pW (nE (nI (pW (tCB (lN K) (pW (tVar 0) tNil)) tNil)) (pY 0) (tEl (tOp (rI (λi j=>IntMulOk i j) λi j=>.int (i*j)) (tOp (rIxB K) (tVar 1) (tVar 0)) (tOp (rIxB K) (tVar 2) (tVar 0)))) 1 [("_law_row",0),("_law_tops",1)]) tNil)))) (mF (sc:=pN s_1a) (N:=N_1a) rfl rfl (nofun)) rfl (oH (pq 0)) (λ_ _ _ hE1=>(kH (N:=["_law_row","_law_tops"]) (i:=0) hE1 rfl (nofun) rfl)) (λ_ _ _ hE1=>(mK (mJ (An rfl) rfl T.z_sum (nofun) (pK (oX (N:=["_law_row","_law_tops"]) (fr:=[("_law_row",0),("_law_tops",1)]) (te:=(tOp (rI (λi j=>IntMulOk i j) λi j=>.int (i*j)) (tOp (rIxB K) (tVar 1) (tVar 0)) (tOp (rIxB K) (tVar 2) (tVar 0)))) hE1 rfl (nofun) rfl (nofun) (nW rfl T.z_range (pK (oS T.z_len (pv 0)) pL)) (λ_ _ _ hE2=>(pO oW (nD ix_B (pv 1) (pv 0) (λ_ _=>rfl)) (nD ix_B (pv 2) (pv 0) (λ_ _=>rfl))))) pL))))))),?_⟩;show tRet _ _ [some (.ref a),some (.ref l)] H;ext;exfalso;obtain⟨xs,x1,x2,x3⟩:=hA.walk;refine⟨b1,⟨_,x1⟩,λa1 ha1=>?_⟩;refine oT (λj y _=>∃r,MA[j]?=some r/\y=.int (dotI r ns)) ha1 x1 (by rw[x2,sA.1];omega) (λ_ _ _ _ r _=>r) ?_ ?_
  ·intro i x H2 zs ex s2 ez Q' hQ';obtain⟨p,r,rfl,er,hp⟩:=x3 i x ex;have hrl:r.length=d:=sA.2 r (zqb er);subst eB;show tCB _ _ [some (.ref p),some (.ref l)] H2 Q';ext;refine oG λB0 eB=>?_;simp only[nI];ext;refine nU (hp.up s2) ⟨_,rfl,⋯,⋯,λa2 ha2=>?_⟩;rw[zS,hrl];refine mG (λk y _=>∃x,(List.zipWith (·*·) r ns)[k]?=some x/\y=.int x) ha2 ⋯ (λ_ _ _ _ r _=>r) ?_ ?_
   ·intro k H3 zs3 hk s3 ez3 Q2 hQ2;have hkr:k<r.length:=⋯
    have hkn:k<ns.length:=⋯
    subst eB;show tOp _ _ _ [some (.int (0+(k:Int))),some (.ref p),some (.ref l)] H3 Q2;ext;refine⟨b2,p,_,_,_,rfl,rfl,(hp.up s2).up s3,nY (mU (getD_at hkr)) ⋯,?_⟩;refine⟨b3,l,_,_,_,rfl,rfl,(hS.up s2).up s3,nY (mU (getD_at hkn)) ⋯,?_⟩
    try ext
    refine⟨yA (oM (bA r (zqb er) _ (L2.getD_mem hkr))) (oM (bn _ (L2.getD_mem hkn))) ∅,hQ2 _ _ (Same.refl _) ⟨_,?_,rfl⟩⟩;rw[yK,L2.getD_at hkr,L2.getD_at hkn]
   ·intro H3 ys s3 e3 hly hr3;have ey:ys=(List.zipWith (·*·) r ns).map V.int:=by
     refine oZ (by simp;omega) λk y e=>?_;obtain⟨x,ex,rfl⟩:=hr3 k y e;exact⟨x,ex,rfl⟩
    subst ey;exact⟨a2,rfl,_,SqL.of e3,hQ' _ _ s3 ⟨r,er,rfl⟩⟩
  ·intro H2 ys s2 e2 hly hr2;have ey:ys=(mv MA ns).map V.int:=by
    unfold mv;rw[xV];exact oZ ⋯ hr2
   subst ey;exact hQ a1 H2 s2 ha1 e2
theorem ok_17(T:Txt K mg t):FnOk P w K mg base CX0 1 t.a_17 t.d_17 pu' sp_17:=by
 apply T.F_17.ok sc_17
 ·obtain⟨c,d,rfl,hd,hQ⟩:=h;refine⟨_,(pM (pZ (i:=2) sc_17.nd rfl (Or.inl rfl) (pO nN (pq 0) (pq 1)))
   (pQ (oA (nJ (pK (pq 2) (pK (pO nN (pO nR (pO nR (pq 2) pR) (pO nN (pO nX (pq 0) (pq 1)) (pO jE (pq 1) pR))) (pq 1)) (pK (pO jE (pO nN (pO nR (pO nX (pq 0) (pO oW (pq 1) (pO jE (pq 1) pR))) pR) pR) pR) pL))))))),?_⟩
  show tSeq _ _ _ [some (.int c),some (.int d),none] H;have dv:∀x y:Int,y≠0->y.natAbs<1073741824->lH x y:=λx y h1 h2=>⟨h1,zE ((tU ⋯).mpr (show y.natAbs<2^30 from h2)) ∅⟩;right;refine⟨⋯,?_⟩;have fi:=fms c d ⋯;obtain⟨i,ei⟩:=xG fi.1;rw[ei]at fi ⊢;symm;refine⟨dv c d ⋯ ⋯,⋯,⋯,?_⟩;have fj0:=fms (c.fdiv d) ((d:Int)-1) ⋯;have fj:=fms ((i:Int)+1+(c.fdiv d).fmod ((d:Int)-1)) d ⋯;have hij:(i:Int)≠((i:Int)+1+(c.fdiv d).fmod ((d:Int)-1)).fmod d:=by
   generalize (c.fdiv d).fmod ((d:Int)-1)=z at fj0 fj;rw[xP _ ⋯]at fj ⊢;rcases hd with e|e <;> subst e <;> omega
  generalize ((i:Int)+1+(c.fdiv d).fmod ((d:Int)-1)).fmod d=jz at fj hij;obtain⟨j,ej⟩:=xG fj.1;subst ej;have hdd:(d:Int)*((d:Int)-1)≠0/\((d:Int)*((d:Int)-1)).natAbs<1073741824:=by rcases hd with e|e <;> subst e <;> decide
  refine⟨xZ (wO ⋯ ⋯),dv c _ hdd.1 hdd.2,∅,?_⟩;have fq:=fms (c.fdiv ((d:Int)*((d:Int)-1))+2) 5 ∅;refine⟨by show 3<=sizeLine;decide,λp hp=>hQ p _ ⟨i,j,_⟩ (Same.new hp) pV ⟨by show i<d;omega,by show j<d;omega,λe=>hij (by rw[show i=j from e]),by show((c.fdiv ((d:Int)*((d:Int)-1))+2).fmod 5-2).natAbs<=2;omega⟩⟩
theorem Jw{n k:Nat}(h:k<n):ixN n (k:Int)=some k:=by
 unfold ixN;rw[zJ ⋯,zJ ⋯];simp
theorem gG{B:Nat}{v:LI'}(h:∀z∈v,z.natAbs<2^B)(k:Nat):(v.getD k 0).natAbs<2^B:=by
 by_cases hk:k<v.length
 ·exact h _ (L2.getD_mem hk)
 ·rw[zqc,vI ⋯];exact vF B
theorem Cd{x y m:Int}{B:Nat}(hx:x.natAbs<2^B)(hy:y.natAbs<2^B)(hm:m.natAbs<=2):(x+m*y).natAbs<2^(B+2):=by
 have h1:=uJ x (m*y);have h2:=wE y.natAbs hm;rw[←xA]at h2;rw[wZ,rW];refine yG h1 ?_;generalize x.natAbs=a at*
 generalize y.natAbs=b at*;generalize (m*y).natAbs=c at*
 generalize 2^B=d at*;clear h1;omega
theorem Tc{i j c:Nat}{m:Int}{v:LI'}(h:nA c v)(hm:m.natAbs<=2):nA (c+2) (vst i j m v):=λx hx=>by
 rcases uY hx with h1|h1
 ·exact zE (h x h1) (zW ∅ ⋯)
 ·rw[h1];exact Cd (gG h i) (gG h j) hm
theorem Jv{L:List Stp}{k:Nat}{s:Stp}(h:L[k]?=some s):(L.take (k+1)).reverse=s:: (L.take k).reverse:=by
 obtain⟨hk,rfl⟩:=zqa h;rw[List.take_succ_eq_append_getElem hk,List.reverse_append];rfl
theorem ok_6(T:Txt K mg t):FnOk P w K mg base CX0 1 t.a_6 t.d_6 pm' (sp_6 K):=by
 apply T.F_6.ok sc_6
 ·obtain⟨b,a,l,ns,L,d,C,rfl,hS,hL,nl,hd,ok,l4,bC,hC,hQ⟩:=h;obtain⟨ps,hp1,hp2,hp3⟩:=hL;refine⟨_,(pM (pZ (i:=0) sc_6.nd rfl (Or.inl rfl) (nS iS rfl T.z_list (nofun) (pK (pq 0) pL)))
   (pM (mX yS rfl (oH (pq 1)) (lE rfl (nB (oV (i:=2) sc_6.nd rfl (Or.inl rfl)) (nB (oV (i:=3) sc_6.nd rfl (Or.inl rfl)) (nB (oV (i:=4) sc_6.nd rfl (Or.inl rfl)) lD))))
   (pQ (jQ (pO nR (nD ix_B (pq 0) (pq 2) (λ_ _=>rfl)) (pO oW (pq 4) (nD ix_B (pq 0) (pq 3) (λ_ _=>rfl)))) (aS (pq 0) (pq 2) En))))
   (pQ (oA (pq 0))))),?_⟩
  show tSeq _ _ _ [some (.ref a),some (.ref l),none,none,none] H;right;refine⟨b,a,_,rfl,hS,λr hr0=>?_⟩;have s1:Same H (upd H r (.lst (ns.map V.int))):=Same.new hr0;have er:(upd H r (.lst (ns.map V.int))) r=some (.lst (ns.map V.int)):=pV;generalize upd H r (.lst (ns.map V.int))=H1 at s1 er;subst e1;refine st λN1 e1=>mZ λB eB=>?_;simp only[iSeq];ext;refine⟨false,⟨_,SqB.lst (s1 _ _ hp1)⟩,?_⟩;have ez:mv (chP d []) ns=ns:=dL hd nl;refine kI (g:=gTup K 3 (nC (pY 2) (nC (pY 3) (nC (pY 4) gNil)))) (tb:=B) (xs:=ps.map V.ref) (λk σ H3=>∃v4 v5 v6,σ=[some (.ref r),some (.ref l),v4,v5,v6]/\Same H H3/\H3 r=some (.lst ((mv (chP d (L.take k).reverse) ns).map V.int))/\nA (C+2*k) (mv (chP d (L.take k).reverse) ns)) ⟨none,none,none,rfl,s1,by rw[tN,sE,ez];exact er,by rw[tN,sE,ez];exact bC⟩ ?_ ?_ ?_
  ·rintro k σ H3 _ ⟨v4,v5,v6,rfl,s3,_,_⟩;exact SqB.lst (s3 _ _ hp1)
  ·rintro k x σ H3 ex ⟨v4,v5,v6,rfl,s3,er3,b3⟩;rw[zC]at ex;cases ep:ps[k]? with
   |none=>rw[ep]at ex;cases ex
   |some p =>
   rw[ep]at ex;cases ex;have hk:k<L.length:=by rw[←hp2];exact(zqa ep).1
   have eL:L[k]?=some L[k]:=zqd hk;generalize L[k]=q at eL;have okq:=ok q (zqb eL);have okT:∀s∈(L.take k).reverse,s.Ok d:=λs hs=>ok s (sV (pE.mp hs));have hq:=s3 _ _ (hp3 k p q ep eL);have cl:(mv (chP d (L.take k).reverse) ns).length=d:=mB (kK hd okT).p;have nx:=Tu hd okT okq nl;rw[←Jv eL]at nx;unfold vst at nx;rw[←nx];generalize mv (chP d (L.take k).reverse) ns=v at er3 b3 cl;refine⟨p,_,rfl,SqT.of hq,rfl,?_⟩;simp only[nC,gNil,pY];subst eB;have hi:=okq.hi;have hj:=okq.hj;refine⟨_,_,rfl,_,_,rfl,_,_,rfl,rfl,?_⟩;show tAsg _ _ _ [some (.ref r),some (.ref l),some (.int q.i),some (.int q.j),some (.int q.m)] H3;simp only[tAsg,gSub,Aw];ext;refine⟨false,r,_,_,_,rfl,rfl,SqB.lst er3,Cr ⋯ ⋯,?_⟩;refine⟨false,r,_,_,_,rfl,rfl,SqB.lst er3,Cr ⋯ ⋯,?_⟩;rw[zS,zS];refine⟨_,_,rfl,rfl,xZ (wO (by have:=okq.m2;omega) (by have:=okq.m2;omega)),?_⟩;refine⟨_,_,rfl,rfl,_,er3,q.i,Jw (by rw[zqe];omega),Same.over hr0 s3,?_,?_⟩
   ·rw[pV,List.map_set]
   ·exact Tc (i:=q.i) (j:=q.j) b3 okq.m2
  ·rintro σ H3 ⟨v4,v5,v6,rfl,s3,er3,b3⟩;symm;rw[zqe,hp2,vS]at er3 b3;exact hQ r H3 s3 hr0 er3 b3
theorem ok_b(T:Txt K mg t):FnOk P w K mg base CX0 1 t.a_b t.d_b pe' sp_b:=by
 apply T.F_b.ok sc_b
 ·obtain⟨c,b,m,rfl,hb,hb2,hm,hQ⟩:=h;refine⟨_,(pM (pZ (i:=3) sc_b.nd rfl (Or.inl rfl) (lG pL))
   (pM (mX yS rfl (nW rfl T.z_range (pK (pq 2) pL)) (oV (i:=4) sc_b.nd rfl (Or.inl rfl))
   (pM (kP (cH vX vN vQ fX (pq 3) (pK (pO nN (pq 0) (pq 1)) pL)))
   (pQ (pZ (i:=0) sc_b.nd rfl (Or.inl rfl) (pO nX (pq 0) (pq 1))))))
   (pQ (oA (pq 3))))),?_⟩
  show tSeq _ _ _ [some (.int c),some (.int b),some (.int m),none,none] H;have dv:∀x,lH x b:=λx=>⟨⋯,zE ((tU ⋯).mpr (show b.natAbs<2^40 by omega)) ∅⟩;right;refine⟨by show 0<=sizeLine;decide,λr hr0=>?_⟩;have s1:Same H (upd H r (.lst [])):=Same.new hr0;have er:(upd H r (.lst [])) r=some (.lst ([]:List V)):=pV;generalize upd H r (.lst [])=H1 at s1 er;subst e1;refine st λN1 e1=>mZ λB eB=>?_;simp only[nI];ext;refine⟨⋯,⋯,?_⟩;rw[zS];refine Fn (g:=pY 4) (tb:=B) (λk σ H2=>∃(x:Int)(ns:LI')(v:Option V),σ=[some (.int x),some (.int b),some (.int m),some (.ref r),v]/\Same H H2/\H2 r=some (.lst (ns.map V.int))/\ns.length=k/\∀y∈ns,0<=y/\y<b) ⟨c,[],none,rfl,s1,er,rfl,λ_ h=>by cases h⟩ ?_ ?_
  ·rintro k σ H2 hk ⟨x,ns,v,rfl,s2,e2,nl,nb⟩;subst eB;show tSeq _ _ _ [some (.int x),some (.int b),some (.int m),some (.ref r),some (.int (0+(k:Int)))] H2;refine st λN2 e3=>?_;ext;refine⟨.inl ⟨rfl,_,SqL.of e2⟩,⋯,r,_,_,rfl,rfl,e2,by rw[zqe];exact yL (show ns.length+1<=1000 by omega) ∅,?_⟩;subst e3;ext;refine⟨dv x,Same.over hr0 s2,ns++[x.fmod b],by rw[pV,xD];rfl,by rw[zX,nl];rfl,λy hy=>?_⟩;rcases pH.mp hy with hy|hy
   ·exact nb y hy
   ·rw[qV.mp hy];exact fms x b ⋯
  ·rintro σ H2 ⟨x,ns,v,rfl,s2,e2,nl,nb⟩;symm;exact hQ r H2 ns s2 hr0 e2 nl nb
theorem ok_9(T:Txt K mg t):FnOk P w K mg base CX0 1 t.a_9 t.d_9 ph' (sp_9 K):=by
 apply T.F_9.ok sc_9
 ·obtain⟨b1,b2,b3,b4,a,b,MA,MB,d,rfl,hA,hB,sA,sB,hd,bA,bB,hQ⟩:=h;refine⟨_,(pQ (oA (lY (xs:=["_law_row"]) (fr:=[("_law_other_here",1)]) (g:=(pY 0)) (tt:=(tEl (nE (nI (pW (tCB (lN K) (pW (tVar 0) tNil)) tNil)) (pY 0) (tEl (tCB (λxs H Q=>∃(p:Addr)(ns:LI'),xs=[.ref p]/\SqL K H p (ns.map V.int)/\Q (.int ns.sum) H) (pW (nE (nI (pW (tCB (lN K) (pW (tVar 1) tNil)) tNil)) (pY 0) (tEl (tOp (rI (λi j=>IntMulOk i j) λi j=>.int (i*j)) (tOp (rIxB K) (tVar 2) (tVar 0)) (tOp (rIxB K) (tOp (rIxB K) (tVar 3) (tVar 0)) (tVar 1)))) 1 [("_law_j",0),("_law_row",1),("_law_other_here",2)]) tNil))) 1 [("_law_row",0),("_law_other_here",1)]))) (mF (sc:=pN s_9) (N:=N_9) rfl rfl (nofun)) rfl (oH (pq 0)) (λ_ _ _ hE1=>(kH (N:=["_law_row","_law_other_here"]) (i:=0) hE1 rfl (nofun) rfl)) (λ_ _ _ hE1=>(mK (lY (xs:=["_law_j"]) (fr:=[("_law_row",0),("_law_other_here",1)]) (g:=(pY 0)) (tt:=(tEl (tCB (λxs H Q=>∃(p:Addr)(ns:LI'),xs=[.ref p]/\SqL K H p (ns.map V.int)/\Q (.int ns.sum) H) (pW (nE (nI (pW (tCB (lN K) (pW (tVar 1) tNil)) tNil)) (pY 0) (tEl (tOp (rI (λi j=>IntMulOk i j) λi j=>.int (i*j)) (tOp (rIxB K) (tVar 2) (tVar 0)) (tOp (rIxB K) (tOp (rIxB K) (tVar 3) (tVar 0)) (tVar 1)))) 1 [("_law_j",0),("_law_row",1),("_law_other_here",2)]) tNil)))) (mF (N:=["_law_row","_law_other_here"]) hE1 rfl (nofun)) rfl (nW rfl T.z_range (pK (oS T.z_len (pv 0)) pL)) (λ_ _ _ hE2=>(kH (N:=["_law_j","_law_row","_law_other_here"]) (i:=0) hE2 rfl (nofun) rfl)) (λ_ _ _ hE2=>(mK (mJ (An rfl) rfl T.z_sum (nofun) (pK (oX (N:=["_law_j","_law_row","_law_other_here"]) (fr:=[("_law_j",0),("_law_row",1),("_law_other_here",2)]) (te:=(tOp (rI (λi j=>IntMulOk i j) λi j=>.int (i*j)) (tOp (rIxB K) (tVar 2) (tVar 0)) (tOp (rIxB K) (tOp (rIxB K) (tVar 3) (tVar 0)) (tVar 1)))) hE2 rfl (nofun) rfl (nofun) (nW rfl T.z_range (pK (oS T.z_len (pv 1)) pL)) (λ_ _ _ hE3=>(pO oW (nD ix_B (pv 2) (pv 0) (λ_ _=>rfl)) (nD ix_B (nD ix_B (pv 3) (pv 0) (λ_ _=>rfl)) (pv 1) (λ_ _=>rfl))))) pL)))))))))),?_⟩;show tRet _ _ [some (.ref a),some (.ref b)] H;ext;refine oG λB0 eB=>?_;simp only[iSeq];ext;obtain⟨xs,x1,x2,x3⟩:=hA.walk;refine⟨b1,⟨_,x1⟩,λa1 ha1=>?_⟩;refine oT (RowR a1 λi=>(List.range d).map λk=>dotI (MA.getD i []) (colI k MB)) ha1 x1 (by rw[x2,sA.1];omega) (RowR.mono (a:=a1)) ?_ ?_
  ·intro i x H2 zs ex s2 ez Q' hQ';obtain⟨p,r,rfl,er,hp⟩:=x3 i x ex;have hrl:r.length=d:=sA.2 r (zqb er);have hp2:=hp.up s2;subst eB;show nE _ _ _ _ _ [some (.ref p),some (.ref b)] H2 Q';refine oG λB1 eB1=>?_;simp only[nI];ext;refine nU hp2 ⟨_,rfl,⋯,⋯,λa2 ha2=>?_⟩;rw[zS,hrl];refine mG (λj y _=>j<d/\y=.int (dotI r (colI j MB))) ha2 ⋯ (λ_ _ _ _ r _=>r) ?_ ?_
   ·intro j H3 zs3 hj s3 ez3 Q2 hQ2;have hp3:=hp2.up s3;subst eB1;show tCB _ _ [some (.int (0+(j:Int))),some (.ref p),some (.ref b)] H3 Q2;ext;refine oG λB2 eB2=>?_;simp only[nI];ext;refine nU hp3 ⟨_,rfl,⋯,⋯,λa3 ha3=>?_⟩;rw[zS,hrl];refine mG (λk y _=>∃x,(List.zipWith (·*·) r (colI j MB))[k]?=some x/\y=.int x) ha3 ⋯ (λ_ _ _ _ r _=>r) ?_ ?_
    ·intro k H4 zs4 hk s4 ez4 Q3 hQ3;have hkr:k<r.length:=⋯
     have ek:MB[k]?=some (MB.getD k []):=by have:=sB.1;simp[show k<MB.length by omega]
     have hkl:(MB.getD k []).length=d:=sB.2 _ (zqb ek);have bk:=bB _ (zqb ek);subst eB2;show tOp _ _ _ [some (.int (0+(k:Int))),some (.int (0+(j:Int))),some (.ref p),some (.ref b)] H4 Q3;ext;refine⟨b2,p,_,_,_,rfl,rfl,hp3.up s4,nY (mU (getD_at hkr)) ⋯,?_⟩;refine cU (((hB.up s2).up s3).up s4) ek (getD_at (k:=j) ⋯) ⋯ ⋯ ?_
     try ext
     refine⟨yA (oM (bA r (zqb er) _ (L2.getD_mem hkr))) (oM (bk _ (L2.getD_mem ⋯))) ∅,hQ3 _ _ (Same.refl _) ⟨_,?_,rfl⟩⟩;unfold colI;rw[yK,L2.getD_at hkr,zC,ek];rfl
    ·intro H4 ys s4 e4 hly hr4;have ey:ys=(List.zipWith (·*·) r (colI j MB)).map V.int:=by
      refine oZ (by have:=sB.1;simp[colI];omega) λk y e=>?_;obtain⟨x,ex,rfl⟩:=hr4 k y e;exact⟨x,ex,rfl⟩
     subst ey;exact⟨a3,rfl,_,SqL.of e4,hQ2 _ _ s4 ⟨hj,rfl⟩⟩
   ·intro H3 ys s3 e3 hly hr3;have ey:ys=((List.range d).map λk=>dotI r (colI k MB)).map V.int:=by
     refine oZ (by rw[hly];simp) λk y e=>?_;obtain⟨hk,rfl⟩:=hr3 k y e;exact⟨_,by rw[zC,yO hk];rfl,rfl⟩
    subst ey;have e5:MA.getD i []=r:=by rw[zqc,er];rfl
    exact hQ' _ _ s3 ⟨a2,rfl,yE (nK ez ha2),by show H3 a2=some (.lst (((List.range d).map λk=>dotI (MA.getD i []) (colI k MB)).map V.int));rw[e5];exact e3⟩
  ·intro H2 ys s2 e2 hly hr2;have hM0:=MatL.of e2 hr2;rw[hly,x2]at hM0;have e6:(List.range MA.length).map (λi=>(List.range d).map λk=>dotI (MA.getD i []) (colI k MB))=mulM d MA MB:=by
    unfold mulM;refine xM (by simp) λi h1 h2=>?_;simp at h1;simp[zqc,h1]
   rw[e6]at hM0;exact hQ a1 H2 s2 hM0
theorem ok_z(T:Txt K mg t):FnOk P w K mg base CX0 1 t.a_z t.d_z pK' (sp_z K):=by
 apply T.F_z.ok sc_z
 ·obtain⟨p,ns,u,rfl,hP,hl,hu,hQ⟩:=h;refine⟨_,(pQ (oA (nJ (pK (nS lO rfl T.z_tuple (nofun) (pK (oX (sc:=pN bV) (N:=N_z) (fr:=[("_law_spot",0)]) (te:=(tOp (rI (λ_ j=>j≠0) λi j=>.int (i.fmod j)) (tVar 0) (tOp (rIxB K) (tVar 1) (tC (.int 1))))) rfl rfl (nofun) rfl (nofun) (oH (pS (pq 0))) (λ_ _ _ hE1=>(pO nN (pv 0) (pS (pv 1))))) pL)) (pK (pS (pq 0)) pL))))),?_⟩;show tRet _ _ [some (.ref p)] H;ext;exfalso;refine jV hP λx hx=>⟨true,x,rfl,⟨_,(hx:SqB true K H x _)⟩,λa1 ha1=>oT (λj y _=>∃n,ns[j]?=some n/\y=.int (n.fmod u)) ha1 (hx:SqB true K H x _) (by rw[zqe];omega) (λ_ _ _ _ r _=>r) ?_ ?_⟩
  ·intro i x H1 zs hx s1 _ Q' hQ';obtain⟨n,hn,rfl⟩:=nQ hx;subst eB;show tOp _ _ _ [some (.int n),some (.ref p)] H1 Q';ext;refine gD (hP.up s1) ?_
   try ext
   exact⟨⋯,hQ' _ H1 (Same.refl _) ⟨n,hn,rfl⟩⟩
  ·intro H1 ys s1 e1 hly hr2;have ey:ys=(oO u ns).map V.int:=by
    unfold oO;rw[xV];exact oZ (by simpa using hly) hr2
   subst ey;refine⟨a1,_,rfl,.inl ⟨SqL.of e1,λl hl1=>?_⟩⟩;refine gD ((hP.up s1).up (Same.new hl1)) ?_;refine⟨(by show 2<=sizeLine;decide),λp' hp'=>hQ p' _ ((s1.trans (Same.new hl1)).trans (Same.new hp')) ⟨l,pV,?_⟩⟩;rw[oE (nK pV hp')];exact pV
noncomputable def sumT(xs:LI')(u:Int)(ys:LI')(v:Int):LI':=List.zipWith (λm n=>m*v+n*u) xs ys
def sp_18(K:Frag):Sp:=λvs H Q _=>E3 λ(p:Addr)(ns:LI')(u:Int)=>A4 (vs=[.ref p]) (oI H p ns u) (ns.length<=100) (∀r H',Same H H'->oI H' r (ns.map (-·)) u->Q (.ref r) H')
def sp_11(K:Frag):Sp:=λvs H Q _=>E7 λ(p q:Addr)(xs ys:LI')(u v:Int)(d:Nat)=>A13 (vs=[.ref p,.ref q]) (oI H p xs u) (oI H q ys v) (xs.length=d) (ys.length=d) ((d=2\/d=3)) (nA 2100 xs) (nA 2100 ys) (0<u) (u<2^400) (0<v) (v<2^400) (∀r H',Same H H'->oI H' r (redT (u*v) (sumT xs u ys v)) (redU (u*v) (sumT xs u ys v))->Q (.ref r) H')
def sp_q(K:Frag):Sp:=λvs H Q _=>E7 λ(p q:Addr)(xs ys:LI')(u v:Int)(d:Nat)=>A13 (vs=[.ref p,.ref q]) (oI H p xs u) (oI H q ys v) (xs.length=d) (ys.length=d) ((d=2\/d=3)) (nA 2100 xs) (nA 2100 ys) (0<u) (u<2^400) (0<v) (v<2^400) (∀r H',Same H H'->oI H' r (redT (u*v) (sumT xs u (ys.map (-·)) v)) (redU (u*v) (sumT xs u (ys.map (-·)) v))->Q (.ref r) H')
theorem oI.upS{H H':Hp}{p:Addr}{ns:LI'}{u:Int}(h:oI H p ns u)(s:Same H H'):oI H' p ns u:=let ⟨q,h1,h2⟩:=h;⟨q,s _ _ h1,s _ _ h2⟩
theorem ok_18(T:Txt K mg t):FnOk P w K mg base CX0 1 t.a_18 t.d_18 pO' (sp_18 K):=by
 apply T.F_18.ok sc_18
 ·obtain⟨p,ns,u,rfl,hx,hl,hQ⟩:=h;refine⟨_,(pQ (oA (nJ (pK (nS lO rfl T.z_tuple (nofun) (pK (oX (sc:=pN s_18) (N:=N_18) (fr:=[]) (te:=(tUn (rU λi=>.int (-i)) (tVar 0))) rfl rfl (nofun) rfl (nofun) (oH (pS (pq 0))) (λ_ _ _ hE1=>(gM gN (pv 0)))) pL)) (pK (pS (pq 0)) pL))))),?_⟩;show tRet _ _ [some (.ref p)] H
  try ext
  refine oG λB eB=>?_;simp only[iSeq]
  try ext
  refine kC hx λx1 hx1=>⟨true,x1,rfl,⟨_,SqB.tup hx1⟩,λa1 ha1=>oT (λj y _=>∃n,ns[j]?=some n/\y=.int (-n)) ha1 (SqB.tup hx1) (by rw[zqe];omega) (λ_ _ _ _ r _=>r) ?_ ?_⟩
  ·intro i v H1 zs hv _ _ Q' hQ';obtain⟨n,hn,rfl⟩:=nQ hv;subst eB;show tUn _ _ [some (.int n)] H1 Q'
   try ext
   exact hQ' _ H1 (Same.refl _) ⟨n,hn,rfl⟩
  ·intro H1 ys s1 e1 hly hr2;have ey:ys=(ns.map (-·)).map V.int:=by
    rw[xV];exact oZ (by simpa using hly) hr2
   subst ey;refine⟨a1,_,rfl,.inl ⟨SqL.of e1,λl hl1=>?_⟩⟩
   try ext
   have s2:Same H1 (upd H1 l (.tup ((ns.map (-·)).map V.int))):=Same.new hl1;refine jD (hx.upS (s1.trans s2)) ?_;refine⟨(by show 2<=sizeLine;decide),λp' hp'=>hQ p' _ ((s1.trans s2).trans (Same.new hp')) ⟨l,pV,?_⟩⟩;rw[oE (nK pV hp')];exact pV
theorem ok_11(T:Txt K mg t):FnOk P w K mg base CX0 3 t.a_11 t.d_11 pC' (sp_11 K):=by
 have G_10:=@ok_10 P w K mg base t T;apply T.F_11.ok sc_11
 ·obtain⟨p,q,xs,ys,u,v,d,rfl,hx,hy,lx,ly,hd,bx,byy,u0,u1,v0,v1,hQ⟩:=h;refine⟨_,(pM (iR (i:=2) (xs:=["left","right"]) (fr:=[("one",0),("other",1)]) (g:=(gTup K 2 (nC (pY 0) (nC (pY 1) gNil)))) (tt:=(tEl (tOp (rI0 λi j=>.int (i+j)) (tOp (rI (λi j=>IntMulOk i j) λi j=>.int (i*j)) (tVar 0) (tOp (rIxB K) (tVar 3) (tC (.int 1)))) (tOp (rI (λi j=>IntMulOk i j) λi j=>.int (i*j)) (tVar 1) (tOp (rIxB K) (tVar 2) (tC (.int 1))))))) (mF (sc:=pN s_11) (N:=N_11) rfl rfl (nofun)) rfl sc_11.nd rfl rfl (Ao rfl T.z_zip (pK (pS (pq 0)) (pK (pS (pq 1)) pL))) (λ_ _ _ hE1=>(lE rfl (nB (lZ (N:=["left","right","one","other"]) (i:=0) hE1 rfl (nofun)) (nB (lZ (N:=["left","right","one","other"]) (i:=1) hE1 rfl (nofun)) lD)))) (λ_ _ _ hE1=>(mK (pO nR (pO oW (pv 0) (pS (pv 3))) (pO oW (pv 1) (pS (pv 2)))))))
   (pQ (oA (jG G_10 hr.mo rfl T.F_10.m T.F_10.kp T.F_10.b .nil iD (pK (pq 2) (pK (pO oW (pS (pq 0)) (pS (pq 1))) pL)))))),?_⟩
  show tSeq _ _ _ [some (.ref p),some (.ref q),none] H;have nu:u.natAbs<2^400:=⋯
  have nv:v.natAbs<2^400:=⋯
  refine st λN1 e1=>?_
  try ext
  refine oG λB eB=>?_;simp only[iZip]
  try ext
  refine kC hx λx1 hx1=>?_
  try ext
  refine kC hy λy1 hy1=>?_
  try ext
  have hX:SqB true K H x1 (xs.map V.int):=SqB.tup hx1;have hY:SqB true K H y1 (ys.map V.int):=SqB.tup hy1;refine⟨true,⟨_,hX⟩,true,⟨_,hY⟩,λa ha=>?_⟩;refine Am (λj z _=>∃m n,xs[j]?=some m/\ys[j]?=some n/\z=.int (m*v+n*u)) ha hX hY (by simp[lx,ly]) (by simp[lx];omega) (λ_ _ _ _ r _=>r) ?_ ?_
  ·intro i v1 v2 H1 zs ex ey s1 ez Q' hQ';obtain⟨m,em,rfl⟩:=nQ ex;obtain⟨n,en,rfl⟩:=nQ ey;subst eB;show tOp _ _ _ [some (.int m),some (.int n),some (.ref p),some (.ref q)] H1 Q'
   try ext
   refine jD (hy.upS s1) ?_
   try ext
   refine⟨yA (oM (bx m (zqb em))) (oM nv) ∅,jD (hx.upS s1) ?_⟩
   try ext
   exact⟨yA (oM (byy n (zqb en))) (oM nu) ∅,hQ' _ _ (Same.refl _) ⟨m,n,em,en,rfl⟩⟩
  ·intro H1 zs s1 ez hlz hr';have ey:zs=(sumT xs u ys v).map V.int:=by
    unfold sumT;refine oZ (by simp at hlz ⊢;omega) λj z e=>?_;obtain⟨m,n,em,en,rfl⟩:=hr' j z e;exact⟨_,by rw[yK,em,en],rfl⟩
   subst ey;subst e1
   try ext
   refine jD (hx.upS s1) ?_
   try ext
   refine jD (hy.upS s1) ?_
   try ext
   have hu:0<u*v:=yX u0 v0;have hl:(sumT xs u ys v).length=d:=by unfold sumT;rw[yH,lx,ly,wT]
   have sm:lQ (u*v):=lR (B:=800) (by rw[xA];exact zE (sF nu nv) (by rw[←wZ];exact zG _)) ∅;refine⟨yA (oM nu) (oM nv) ∅,?_⟩;refine⟨false,a,_,u*v,rfl,SqB.lst ez,⋯,sm,λz=>?_,λ_ _ r H2 s2 hP=>?_⟩
   ·rcases z with z|z
    ·omega
    ·rw[z]at hl;simp at hl;omega
   ·exact hQ r H2 (s1.trans s2) hP
theorem ok_q(T:Txt K mg t):FnOk P w K mg base CX0 4 t.a_q t.d_q pC' (sp_q K):=by
 have G_11:=@ok_11 P w K mg base t T;have G_18:=@ok_18 P w K mg base t T;apply T.F_q.ok sc_q
 ·obtain⟨p,q,xs,ys,u,v,d,rfl,hx,hy,lx,ly,hd,bx,byy,u0,u1,v0,v1,hQ⟩:=h;refine⟨_,(pQ (oA (pU G_11 hr.mo T.F_11 (pK (pq 0) (pK (pU G_18 hr.mo T.F_18 (pK (pq 1) pL)) pL))))),?_⟩;show tRet _ _ [some (.ref p),some (.ref q)] H
  try ext
  refine⟨q,ys,v,rfl,hy,⋯,λr H1 s1 hr1=>?_⟩;refine⟨p,r,xs,ys.map (-·),u,v,d,rfl,hx.upS s1,hr1,lx,by rw[zqe];exact ly,hd,bx,λz hz=>?_,u0,u1,v0,v1,λr2 H2 s2 hz=>hQ r2 H2 (s1.trans s2) hz⟩;obtain⟨y,hy',rfl⟩:=qW.mp hz;rw[qF];exact byy y hy'
theorem Ta{H H4:Hp}{r a2:Addr}{C:LM}{x:LI'}{i:Nat}(h:MatL H r C)(s:Same H H4)(ha:a2≠r)(e:H4 a2=some (.lst (x.map V.int))):∃zs,H4 r=some (.lst zs)/\zs.length=C.length/\MatL (upd H4 r (.lst (zs.set i (.ref a2)))) r (C.set i x):=by
 obtain⟨ps,h1,h2,h3⟩:=h;refine⟨_,s _ _ h1,by rw[zqe,h2],ps.set i a2,by rw[pV,List.map_set],by simp[h2],λj p row ep er=>?_⟩;rw[List.getElem?_set]at ep er
 by_cases hj:i=j
 ·subst hj;rw[zJ rfl]at ep er;split at ep
  ·cases ep;split at er
   ·cases er;exact⟨ha,by rw[oE ha];exact e⟩
   ·cases er
  ·cases ep
 ·rw[zI hj]at ep er;obtain⟨g1,g2⟩:=h3 j p row ep er;exact⟨g1,by rw[oE g1];exact s _ _ g2⟩
theorem Uz{d B:Nat}{x y:LI'}{m:Int}(bx:∀z∈x,z.natAbs<2^B)(by':∀z∈y,z.natAbs<2^B)(hm:m.natAbs<=2):∀z∈mixR d x y m,z.natAbs<2^(B+2):=λz hz=>by
 obtain⟨t,_,rfl⟩:=qW.mp hz;exact Cd (gG bx t) (gG by' t) hm
theorem Uy{d i j B:Nat}{m:Int}{x:LI'}(bx:∀z∈x,z.natAbs<2^B)(hm:m.natAbs<=2):∀z∈colR d i j m x,z.natAbs<2^(B+2):=λz hz=>by
 obtain⟨t,_,rfl⟩:=qW.mp hz;split
 ·rw[uB,Int.sub_eq_add_neg,←qM];exact Cd (gG bx t) (gG bx i) (by rw[qF];exact hm)
 ·rw[tF,tF,Int.sub_zero];exact zE (gG bx t) (zW ∅ ⋯)
theorem Ux{d i j k:Nat}{m:Int}{x:LI'}(hk:k<d):(colR d i j m x)[k]?=some (x.getD k 0-(if k=j then 1 else 0)*m*x.getD i 0):=by
 unfold colR;rw[zC,yO hk];rfl
theorem ok_3(T:Txt K mg t):FnOk P w K mg base CX0 1 t.a_3 t.d_3 pl' (sp_3 K):=by
 apply T.F_3.ok sc_3
 ·obtain⟨b1,b2,a,l,MA,L,d,B,rfl,hA,hL,sA,hd,ok,l4,bB,hB,hQ⟩:=h;obtain⟨ps,hp1,hp2,hp3⟩:=hL;refine⟨_,(pM (pZ (i:=0) sc_3.nd rfl (Or.inr rfl) (oX (sc:=pN s_3) (N:=N_3) (fr:=[]) (te:=(tCB (eH K) (pW (tVar 0) tNil))) rfl rfl (nofun) rfl (nofun) (oH (pq 0)) (λ_ _ _ hE1=>(nS iS rfl T.z_list (nofun) (pK (pv 0) pL)))))
   (pM (mX yS rfl (oH (pq 1)) (lE rfl (nB (oV (i:=2) sc_3.nd rfl (Or.inr rfl)) (nB (oV (i:=3) sc_3.nd rfl (Or.inr rfl)) (nB (oV (i:=4) sc_3.nd rfl (Or.inr rfl)) lD))))
   (pM (jQ (oX (sc:=pN s_3) (N:=N_3) (fr:=[("_law_rows",0),("_law_i",2),("_law_j",3),("_law_many",4)]) (te:=(tOp (rI0 λi j=>.int (i+j)) (tOp (rIxB K) (tOp (rIxB K) (tVar 1) (tVar 2)) (tVar 0)) (tOp (rI (λi j=>IntMulOk i j) λi j=>.int (i*j)) (tVar 4) (tOp (rIxB K) (tOp (rIxB K) (tVar 1) (tVar 3)) (tVar 0))))) rfl rfl (nofun) rfl (nofun) (nW rfl T.z_range (pK (oS T.z_len (pq 0)) pL)) (λ_ _ _ hE1=>(pO nR (nD ix_B (nD ix_B (pv 1) (pv 2) (λ_ _=>rfl)) (pv 0) (λ_ _=>rfl)) (pO oW (pv 4) (nD ix_B (nD ix_B (pv 1) (pv 3) (λ_ _=>rfl)) (pv 0) (λ_ _=>rfl)))))) (aS (pq 0) (pq 2) En))
   (pQ (pZ (i:=0) sc_3.nd rfl (Or.inr rfl) (lY (xs:=["_law_row"]) (fr:=[("_law_i",2),("_law_j",3),("_law_many",4)]) (g:=(pY 0)) (tt:=(tEl (nE (nI (pW (tCB (lN K) (pW (tVar 0) tNil)) tNil)) (pY 0) (tEl (tOp (rI0 λi j=>.int (i-j)) (tOp (rIxB K) (tVar 1) (tVar 0)) (tOp (rI (λi j=>IntMulOk i j) λi j=>.int (i*j)) (tOp (rI (λi j=>IntMulOk i j) λi j=>.int (i*j)) (tCB (λxs H Q=>(∃i,xs=[.int i]/\Q (.int i) H)\/∃k,xs=[.bl k]/\Q (.int (if k then 1 else 0)) H) (pW (tOp (rI0 λi j=>.bl (decide (i=j))) (tVar 0) (tVar 3)) tNil)) (tVar 4)) (tOp (rIxB K) (tVar 1) (tVar 2))))) 1 [("_law_row",0),("_law_i",1),("_law_j",2),("_law_many",3)]))) (mF (sc:=pN s_3) (N:=N_3) rfl rfl (nofun)) rfl (oH (pq 0)) (λ_ _ _ hE1=>(kH (N:=["_law_row","_law_i","_law_j","_law_many"]) (i:=0) hE1 rfl (nofun) rfl)) (λ_ _ _ hE1=>(mK (oX (N:=["_law_row","_law_i","_law_j","_law_many"]) (fr:=[("_law_row",0),("_law_i",1),("_law_j",2),("_law_many",3)]) (te:=(tOp (rI0 λi j=>.int (i-j)) (tOp (rIxB K) (tVar 1) (tVar 0)) (tOp (rI (λi j=>IntMulOk i j) λi j=>.int (i*j)) (tOp (rI (λi j=>IntMulOk i j) λi j=>.int (i*j)) (tCB (λxs H Q=>(∃i,xs=[.int i]/\Q (.int i) H)\/∃k,xs=[.bl k]/\Q (.int (if k then 1 else 0)) H) (pW (tOp (rI0 λi j=>.bl (decide (i=j))) (tVar 0) (tVar 3)) tNil)) (tVar 4)) (tOp (rIxB K) (tVar 1) (tVar 2))))) hE1 rfl (nofun) rfl (nofun) (nW rfl T.z_range (pK (oS T.z_len (pv 0)) pL)) (λ_ _ _ hE2=>(pO jE (nD ix_B (pv 1) (pv 0) (λ_ _=>rfl)) (pO oW (pO oW (nS aW rfl T.z_int (nofun) (pK (jZ mS (pv 0) (pv 3) (oP _)) pL)) (pv 4)) (nD ix_B (pv 1) (pv 2) (λ_ _=>rfl)))))))))))))
   (pQ (oA (pq 0))))),?_⟩
  show tSeq _ _ _ [some (.ref a),some (.ref l),none,none,none] H;have d3:d<=3:=⋯
  right;refine oG λB0 eB=>?_;simp only[iSeq];ext;obtain⟨xs,x1,x2,x3⟩:=hA.walk;refine⟨b1,⟨_,x1⟩,λr hr0=>?_⟩;subst eB;refine On hA (by rw[sA.1];omega) hr0 λH1 s1 hD=>?_;subst e1;refine st λN1 e1=>mZ λB1 eB=>?_;simp only[iSeq];ext;refine⟨false,⟨_,SqB.lst (s1 _ _ hp1)⟩,?_⟩;refine kI (g:=gTup K 3 (nC (pY 2) (nC (pY 3) (nC (pY 4) gNil)))) (tb:=B1) (xs:=ps.map V.ref) (λk σ H3=>∃r v5 v6 v7,σ=[some (.ref r),some (.ref l),v5,v6,v7]/\Same H H3/\H r=none/\MatL H3 r (cjM d (chP d (L.take k).reverse) (chQ d (L.take k).reverse) MA)/\nF (B+4*k) (cjM d (chP d (L.take k).reverse) (chQ d (L.take k).reverse) MA)) ⟨r,none,none,none,rfl,s1,hr0,?_,?_⟩ ?_ ?_ ?_
  ·rw[tN,sE,(Il hd sA (v:=List.replicate d 0) (by simp)).1];exact hD.l
  ·rw[tN,sE,(Il hd sA (v:=List.replicate d 0) (by simp)).1];exact bB
  ·rintro k σ H3 _ ⟨r,v5,v6,v7,rfl,s3,_⟩;exact SqB.lst (s3 _ _ hp1)
  ·rintro k x σ H3 ex ⟨r,v5,v6,v7,rfl,s3,hr0,hM,b3⟩;rw[zC]at ex;cases ep:ps[k]? with
   |none=>rw[ep]at ex;cases ex
   |some p =>
   rw[ep]at ex;cases ex;have hk:k<L.length:=by rw[←hp2];exact(zqa ep).1
   have eL:L[k]?=some L[k]:=zqd hk;generalize L[k]=q at eL;have okq:=ok q (zqb eL);have okT:∀s∈(L.take k).reverse,s.Ok d:=λs hs=>ok s (sV (pE.mp hs));have hq:=s3 _ _ (hp3 k p q ep eL);have nx:=Tv hd okT okq sA;rw[←Jv eL]at nx;rw[←nx];have sC:Sq d (cjM d (chP d (L.take k).reverse) (chQ d (L.take k).reverse) MA):=iI (kK hd okT) MA;clear nx;generalize cjM d (chP d (L.take k).reverse) (chQ d (L.take k).reverse) MA=C at hM b3 sC;obtain⟨qi,qj,qm⟩:=q;obtain⟨hi,hj,hne,hm2⟩:=okq;replace hi:qi<d:=hi;replace hj:qj<d:=hj;replace hm2:qm.natAbs<=2:=hm2;refine⟨p,_,rfl,SqT.of hq,rfl,?_⟩;simp only[nC,gNil,pY];refine⟨_,_,rfl,_,_,rfl,_,_,rfl,rfl,?_⟩;subst eB;show tSeq _ _ _ [some (.ref r),some (.ref l),some (.int qi),some (.int qj),some (.int qm)] H3;refine st λN2 e2=>?_;have eri:C[qi]?=some (C.getD qi []):=by have:=sC.1;simp[show qi<C.length by omega]
   have erj:C[qj]?=some (C.getD qj []):=by have:=sC.1;simp[show qj<C.length by omega]
   generalize hx:C.getD qi []=x at eri;generalize hy:C.getD qj []=y at erj;have hxl:x.length=d:=sC.2 x (zqb eri);have hyl:y.length=d:=sC.2 y (zqb erj);have bx:∀z∈x,z.natAbs<2^(B+4*k):=b3 x (zqb eri);have by':∀z∈y,z.natAbs<2^(B+4*k):=b3 y (zqb erj);ext;refine oG λB2 eB2=>?_;simp only[nI];ext;refine jJ (hM.b (K:=K)) ?_;rw[sC.1];refine⟨_,rfl,⋯,⋯,λa2 ha2=>?_⟩;rw[zS];have hmz1:qm.natAbs<2^20:=by have:(2:Nat)^20=1048576:=rfl;omega
   have hMr:∃o,H3 r=some o:=let ⟨_,h,_⟩:=hM;⟨_,h⟩
   have na2:a2≠r:=λe=>by obtain⟨o,ho⟩:=hMr;rw[e,ho]at ha2;cases ha2
   refine mG (λj z _=>j<d/\z=.int (x.getD j 0+qm*y.getD j 0)) ha2 ⋯ (λ_ _ _ _ r _=>r) ?_ ?_
   ·intro j H4 zs4 hj s4 ez4 Q2 hQ2;subst eB2;have hMb:MatB false false K H4 r C:=hM.b.up s4;show tOp _ _ _ [some (.int (0+(j:Int))),some (.ref r),some (.int qi),some (.int qj),some (.int qm)] H4 Q2;ext;refine cU hMb eri (getD_at (k:=j) ⋯) rfl ⋯ ?_;refine cU hMb erj (getD_at (k:=j) ⋯) rfl ⋯ ?_;ext;exact⟨yA (oM hmz1) (oM (by' _ (L2.getD_mem ⋯))) ⋯,hQ2 _ _ (Same.refl _) ⟨hj,rfl⟩⟩
   ·intro H4 ys s4 e4 hly hr4;have ey:ys=(mixR d x y qm).map V.int:=by
     refine oZ (by rw[hly];simp[mixR]) λj z e=>?_;obtain⟨hj,rfl⟩:=hr4 j z e;exact⟨_,by unfold mixR;rw[zC,yO hj];rfl,rfl⟩
    subst ey;obtain⟨zs,hz,hzl,hM5⟩:=Ta (i:=qi) hM s4 na2 e4;have s5:Same H (upd H4 r (.lst (zs.set qi (.ref a2)))):=Same.over hr0 (s3.trans s4);simp only[gSub,Aw];ext;refine⟨_,hz,qi,Jw (by rw[hzl,sC.1];exact hi),?_⟩;generalize upd H4 r (.lst (zs.set qi (.ref a2)))=H5 at s5 hM5;have sR:Sq d (C.set qi (mixR d x y qm)):=by
     refine⟨by simp[sC.1],λz hz=>?_⟩;rcases uY hz with h|h
     ·exact sC.2 z h
     ·rw[h];simp[mixR]
    have bR:nF (B+4*k+2) (C.set qi (mixR d x y qm)):=by
     intro z hz;rcases uY hz with h|h
     ·exactλu hu=>zE (b3 z h u hu) (zW ∅ ⋯)
     ·rw[h];exact Uz bx by' hm2
    have eS:lV d qi qj qm C=(C.set qi (mixR d x y qm)).map (colR d qi qj qm):=by unfold lV;rw[hx,hy]
    generalize C.set qi (mixR d x y qm)=R at hM5 sR bR eS;subst e2;ext;refine oG λB3 eB3=>?_;simp only[iSeq];ext;obtain⟨ws,w1,w2,w3⟩:=(hM5.b (K:=K)).walk;refine⟨false,⟨_,w1⟩,λr2 hr2=>?_⟩;have hH2:H r2=none:=by
     cases h:H r2 with
     |none=>rfl
     |some o=>have:=s5 _ _ h;rw[hr2]at this;cases this
    refine oT (RowR r2 λi=>colR d qi qj qm (R.getD i [])) hr2 w1 (by rw[w2,sR.1];omega) (RowR.mono (a:=r2)) ?_ ?_
    ·intro i x H6 zs6 ex s6 ez6 Q' hQ';obtain⟨p',rt,rfl,er,hp⟩:=w3 i x ex;have hrl:rt.length=d:=sR.2 rt (zqb er);have brt:=bR rt (zqb er);subst eB3;show nE _ _ _ _ _ [some (.ref p'),some (.int qi),some (.int qj),some (.int qm)] H6 Q';refine oG λB4 eB4=>?_;simp only[nI];ext;refine nU (hp.up s6) ⟨_,rfl,⋯,⋯,λa4 ha4=>?_⟩;rw[zS,hrl];refine mG (λj z _=>∃n,(colR d qi qj qm rt)[j]?=some n/\z=.int n) ha4 ⋯ (λ_ _ _ _ r _=>r) ?_ ?_
     ·intro j H7 zs7 hj s7 ez7 Q2 hQ2;subst eB4;have hp7:=(hp.up s6).up s7;show tOp _ _ _ [some (.int (0+(j:Int))),some (.ref p'),some (.int qi),some (.int qj),some (.int qm)] H7 Q2;ext;refine⟨false,p',_,_,_,rfl,rfl,hp7,nY (mU (getD_at (k:=j) ⋯)) ⋯,?_⟩;refine .inr ⟨xZ (wO (by split <;> omega) (by split <;> omega)),?_⟩;refine⟨false,p',_,_,_,rfl,rfl,hp7,nY (mU (getD_at (k:=qi) ⋯)) rfl,?_⟩;ext;have sm:(((if 0+(j:Int)=(qj:Int) then(1:Int) else 0)*qm)).natAbs<2^20:=by
       have:(2:Nat)^20=1048576:=rfl;split <;> omega
      have smb:=oM sm;have brb:=oM (brt _ (L2.getD_mem (show qi<rt.length by omega)));have key:IntMulOk ((if 0+(j:Int)=(qj:Int) then(1:Int) else 0)*qm) (rt.getD qi 0):=yA smb brb ⋯;refine⟨by first|exact key|simpa using key,hQ2 _ _ (Same.refl _) ⟨_,Ux hj,?_⟩⟩;have ej:(0+(j:Int)=(qj:Int))↔j=qj:=⋯
      by_cases q:j=qj
      ·rw[zJ q,zJ (zK (ej.mpr q))]
      ·rw[zI q,zI λh=>q (ej.mp (yM h))]
     ·intro H7 zs s7 e7 hlz hr7;have ez:zs=(colR d qi qj qm rt).map V.int:=oZ (by rw[hlz];simp[colR]) hr7;subst ez;have e5:R.getD i []=rt:=by rw[zqc,er];rfl
      exact hQ' _ _ s7 ⟨a4,rfl,yE (nK ez6 ha4),by show H7 a4=some (.lst ((colR d qi qj qm (R.getD i [])).map V.int));rw[e5];exact e7⟩
    ·intro H6 zs s6 e6 hlz hr6;have hM6:=MatL.of e6 hr6;rw[hlz,w2]at hM6;have e8:(List.range R.length).map (λi=>colR d qi qj qm (R.getD i []))=R.map (colR d qi qj qm):=by
      refine xM (by simp) λi h1 h2=>?_;simp at h1;simp[zqc,h1]
     rw[e8]at hM6;refine⟨r2,rfl,s5.trans s6,hH2,by rw[eS];exact hM6,?_⟩;rw[eS];intro z hz;obtain⟨rt,hrt,rfl⟩:=qW.mp hz;exact Uy (bR rt hrt) hm2
  ·rintro σ H3 ⟨r,v5,v6,v7,rfl,s3,hr0,hM,b3⟩;symm;rw[zqe,hp2,vS]at hM b3;exact hQ r H3 s3 hM b3
abbrev DdS(K:Frag)(H:Hp)(p:Addr)(x:Dd):Prop:=kJ K H p x.1 x.2.1 x.2.2
theorem DdS.up{H H':Hp}{p:Addr}{x:Dd}(h:DdS K H p x)(s:Same H H'):DdS K H' p x:=kJ.up h s
def sp_8(K:Frag):Sp:=λvs H Q _=>E6 λ(p q:Addr)(x:Dd)(ns:LI')(v:Int)(d:Nat)=>A15 (vs=[.ref p,.ref q]) (DdS K H p x) (PlS K H q ns v) (Sq d x.1) ((d=2\/d=3)) (x.2.1.length=d) (ns.length=d) (nF 1000 x.1) (nA 1000 x.2.1) (nA 1000 ns) (0<x.2.2) (x.2.2<2^150) (0<v) (v<2^150) (∀r H',Same H H'->oI H' r (redT (x.2.2*v) (movT x.1 x.2.1 x.2.2 ns v)) (redU (x.2.2*v) (movT x.1 x.2.1 x.2.2 ns v))->Q (.ref r) H')
theorem Cc{B C:Nat}{r ns:LI'}(hr:∀z∈r,z.natAbs<2^B)(hn:∀z∈ns,z.natAbs<2^C)(hl:r.length<=3):(dotI r ns).natAbs<2^(B+C+2):=by
 have h:=Cj (A:=2^B) (B:=2^C) r ns (λz hz=>xR (hr z hz)) λz hz=>xR (hn z hz);have e:(2:Nat)^(B+C+2)=4*(2^B*2^C):=by rw[wZ,wZ,rW]
 have p:0<2^B*2^C:=Nat.mul_pos (vF B) (vF C);have h2:=wE (2^B*2^C) hl;omega
theorem ok_8(T:Txt K mg t):FnOk P w K mg base CX0 3 t.a_8 t.d_8 pq' (sp_8 K):=by
 have G_1a:=@ok_1a P w K mg base t T;have G_f:=@ok_f P w K mg base t T;apply T.F_8.ok sc_8
 ·obtain⟨p,q,⟨M,ts,u⟩,ns,v,d,rfl,hD,hP,sM,hd,lt,ln,bM,bt,bn,hu,hu2,hv,hv2,hQ⟩:=h;replace sM:Sq d M:=sM;replace lt:ts.length=d:=lt;replace hu:0<u:=hu;replace hu2:u<2^150:=hu2;obtain⟨v0,v1,h1,h2,h3⟩:=hD;obtain⟨q1,hq,hq1⟩:=hP;have h1':∀{H'},Same H H'->SqB true K H' p [.ref v0,.ref v1,.int u]:=λs=>nM s _ _ h1;have hq':∀{H'},Same H H'->SqB true K H' q [.ref q1,.int v]:=λs=>nM s _ _ hq;refine⟨_,(pM (pZ (i:=2) sc_8.nd rfl (Or.inr rfl) (pU G_1a hr.mo T.F_1a (pK (pS (pq 0)) (pK (pS (pq 1)) pL))))
   (pM (kZ (i:=3) (sc:=pN s_8) (N:=N_8) (fr:=[("_law_one",0),("_law_spot",1),("_law_far",2)]) (te:=(tOp (rI0 λi j=>.int (i+j)) (tOp (rI (λi j=>IntMulOk i j) λi j=>.int (i*j)) (tOp (rIxB K) (tVar 3) (tVar 0)) (tOp (rIxB K) (tVar 1) (tC (.int 2)))) (tOp (rI (λi j=>IntMulOk i j) λi j=>.int (i*j)) (tOp (rIxB K) (tOp (rIxB K) (tVar 1) (tC (.int 1))) (tVar 0)) (tOp (rIxB K) (tVar 2) (tC (.int 1)))))) rfl rfl (nofun) rfl sc_8.nd rfl rfl (nofun) (nW rfl T.z_range (pK (oS T.z_len (pq 2)) pL)) (λ_ _ _ hE1=>(pO nR (pO oW (nD ix_B (pv 3) (pv 0) (λ_ _=>rfl)) (pS (pv 1))) (pO oW (nD ix_B (pS (pv 1)) (pv 0) (λ_ _=>rfl)) (pS (pv 2))))))
   (pQ (oA (pU G_f hr.mo T.F_f (pK (pq 3) (pK (pO oW (pS (pq 0)) (pS (pq 1))) pL))))))),?_⟩
  show tSeq _ _ _ [some (.ref p),some (.ref q),none,none] H;have nu:u.natAbs<2^150:=⋯
  have nv:v.natAbs<2^150:=⋯
  right;refine⟨true,p,_,_,_,rfl,rfl,h1' (Same.refl _),rfl,?_⟩;refine⟨true,q,_,_,_,rfl,rfl,hq' (Same.refl _),rfl,?_⟩
  try ext
  refine⟨true,true,true,v0,q1,M,ns,d,rfl,h2,hq1,sM,hd,ln,λr hr z hz=>zE (bM r hr z hz) (zW ∅ ∅),bn.le ∅,λf H1 s1 hf0 ef=>?_⟩;have lf:(mv M ns).length=d:=mB sM;left;refine oG λB eB=>?_;simp only[nI];ext;refine nU (SqB.lst ef) ⟨_,rfl,⋯,⋯,λa1 ha1=>?_⟩;rw[zS,lf];have hf:∀{H'},Same H1 H'->SqB false K H' f ((mv M ns).map V.int):=λs=>SqB.lst (s _ _ ef);have h3':∀{H'},Same H H'->SqB true K H' v1 (ts.map V.int):=λs=>nM s _ _ h3;have bf:∀z∈mv M ns,z.natAbs<2^2002:=λz hz=>by
   obtain⟨r,hr,rfl⟩:=qW.mp hz;exact Cc (bM r hr) bn (by have:=sM.2 r hr;omega)
  refine mG (λk y _=>∃n,(movT M ts u ns v)[k]?=some n/\y=.int n) ha1 ⋯ (λ_ _ _ _ r _=>r) ?_ ?_
  ·intro k H2 zs2 hk s2 ez2 Q2 hQ2;have s02:=s1.trans s2;subst eB;show tOp _ _ _ [some (.int (0+(k:Int))),some (.ref p),some (.ref q),some (.ref f)] H2 Q2;ext;refine⟨false,f,_,_,_,rfl,rfl,hf s2,nY (mU (getD_at (k:=k) ⋯)) ⋯,?_⟩;refine⟨true,p,_,_,_,rfl,rfl,h1' s02,rfl,?_⟩
   try ext
   have m1:IntMulOk ((mv M ns).getD k 0) u:=yA (oM (bf _ (L2.getD_mem ⋯))) (oM nu) ∅;have m2:IntMulOk (ts.getD k 0) v:=yA (oM (bt _ (L2.getD_mem (by show k<ts.length;omega)))) (oM nv) ∅;refine⟨m1,?_⟩;refine⟨true,p,_,_,_,rfl,rfl,h1' s02,rfl,?_⟩;refine⟨true,v1,_,_,_,rfl,rfl,h3' s02,nY (mU (getD_at (k:=k) ⋯)) ⋯,?_⟩;refine⟨true,q,_,_,_,rfl,rfl,hq' s02,rfl,?_⟩
   try ext
   refine⟨m2,?_⟩;refine hQ2 _ _ (Same.refl _) ⟨_,?_,rfl⟩;have ek:M[k]?=some (M.getD k []):=by have:=sM.1;simp[show k<M.length by omega]
   unfold movT mv;rw[yK,ek,L2.getD_at (show k<ts.length by omega)];show some _=some _;congr 2;rw[zqc (l:=List.map (λr=>dotI r ns) M),zC,ek];rfl
  ·intro H2 ys s2 e2 hly hr2;have lm:(movT M ts u ns v).length=d:=by unfold movT;rw[yH,sM.1,lt,wT]
   have ey:ys=(movT M ts u ns v).map V.int:=oZ (by rw[hly,lm]) hr2;subst ey;have s02:=s1.trans s2;symm;refine⟨true,p,_,_,_,rfl,rfl,h1' s02,rfl,?_⟩;refine⟨true,q,_,_,_,rfl,rfl,hq' s02,rfl,?_⟩
   try ext
   refine⟨yA (oM nu) (oM nv) ∅,?_⟩;refine⟨false,a1,_,_,rfl,SqB.lst e2,⋯,yX hu hv,?_,λr H' s3 hr=>hQ r H' (s02.trans s3) hr⟩;refine lR (B:=300) ?_ ∅;rw[xA];exact zE (sF nu nv) (by rw[←wZ];exact zG _)
theorem dO{U:Int}{ts:LI'}(hU:0<U):(∀z∈redT U ts,∃t∈ts,z.natAbs<=t.natAbs)/\0<redU U ts/\redU U ts<=U:=by
 have hne:=fG ts (show U≠0 by omega);have hp:0<redU U ts:=Cv ts ⋯;refine⟨λz hz=>?_,hp,?_⟩
 ·unfold redT at hz;obtain⟨t,ht,rfl⟩:=qW.mp hz;refine⟨t,ht,?_⟩;have e:t.fdiv (cs U ts)*cs U ts=t:=jB hne (jA (dD ht));have e2:=wC Int.natAbs e;rw[xA]at e2;have:1<=(cs U ts).natAbs:=⋯
  rw[←e2];exact Nat.le_mul_of_pos_right _ this
 ·have e:redU U ts*cs U ts=U:=jB hne (jA (gl_u U ts));have e2:=wC Int.natAbs e;rw[xA]at e2;have h1:1<=(cs U ts).natAbs:=⋯
  have:=Nat.le_mul_of_pos_right (redU U ts).natAbs h1;omega
def sp_4(K:Frag):Sp:=λvs H Q _=>E12 λ(a b l sp sl:Addr)(R:LM)(ts S:LI')(p su:Int)(L:List Stp)(d:Nat)=>A20 (vs=[.ref a,.ref b,.int p,.ref l,.ref sp]) (MatL H a R) (H b=some (.lst (ts.map V.int))) (iL H l L) (H sp=some (.tup [.ref sl,.int su])) (H sl=some (.lst (S.map V.int))) (Sq d R) ((d=2\/d=3)) (ts.length=d) (S.length=d) ((∀s∈L,s.Ok d)) (L.length<=6) (nF 1 R) (nA 5 ts) (nA 5 S) (0<p) (p<=6) (0<su) (su<=12) (∀q H',Same H H'->nZ K H' q (cjM d (chP d L.reverse) (chQ d L.reverse) R) (redT (p*su) (cjT d (chP d L.reverse) (chQ d L.reverse) R (smul su ts) (smul p S))) (redU (p*su) (cjT d (chP d L.reverse) (chQ d L.reverse) R (smul su ts) (smul p S)))->Fine d (cjM d (chP d L.reverse) (chQ d L.reverse) R) (redT (p*su) (cjT d (chP d L.reverse) (chQ d L.reverse) R (smul su ts) (smul p S))) (redU (p*su) (cjT d (chP d L.reverse) (chQ d L.reverse) R (smul su ts) (smul p S)))->Q (.ref q) H')
theorem Uw{d:Nat}(hd:d=2\/d=3){P P' R:LM}(c:Chg d P P')(hR:Sq d R){ts S:LI'}(lt:ts.length=d)(lS:S.length=d){p su:Int}{k:Nat}(hk:k<d):
  (cjT d P P' R (smul su ts) (smul p S))[k]?=some ((mv P ts).getD k 0*su+(S.getD k 0-(mv (cjM d P P' R) S).getD k 0)*p):=by
 unfold cjT;have sC:=iI c R;rw[dM hd c.p lt,dM hd sC lS];have l1:(mv P ts).length=d:=mB c.p;have l2:(mv (cjM d P P' R) S).length=d:=mB sC;generalize mv P ts=A at l1;generalize mv (cjM d P P' R) S=B at l2;unfold vs va smul;rw[yK,yK,zC,zC,zC,L2.getD_at (show k<A.length by omega),L2.getD_at (show k<B.length by omega),L2.getD_at (show k<S.length by omega)];show some _=some _;congr 1;grind
theorem ok_4(T:Txt K mg t):FnOk P w K mg base CX0 3 t.a_4 t.d_4 pa' (sp_4 K):=by
 have G_1a:=@ok_1a P w K mg base t T;have G_f:=@ok_f P w K mg base t T;have G_3:=@ok_3 P w K mg base t T;have G_6:=@ok_6 P w K mg base t T;apply T.F_4.ok sc_4
 ·obtain⟨a,b,l,sp,sl,R,ts,S,p,su,L,d,rfl,hA,hb,hL,hsp,hsl,sR,hd,lt,lS,ok,l6,bR,bt,bS,hp,hp6,hs,hs12,hQ⟩:=h;refine⟨_,(pM (pZ (i:=0) sc_4.nd rfl (Or.inl rfl) (pU G_3 hr.mo T.F_3 (pK (pq 0) (pK (pq 3) pL))))
   (pM (pZ (i:=1) sc_4.nd rfl (Or.inr rfl) (pU G_6 hr.mo T.F_6 (pK (pq 1) (pK (pq 3) pL))))
   (pM (pZ (i:=5) sc_4.nd rfl (Or.inr rfl) (pU G_1a hr.mo T.F_1a (pK (pq 0) (pK (pS (pq 4)) pL))))
   (pM (pZ (i:=1) sc_4.nd rfl (Or.inr rfl) (oX (sc:=pN s_4) (N:=N_4) (fr:=[("_law_tops",1),("_law_parts",2),("_law_spot",4),("_law_far",5)]) (te:=(tOp (rI0 λi j=>.int (i+j)) (tOp (rI (λi j=>IntMulOk i j) λi j=>.int (i*j)) (tOp (rIxB K) (tVar 1) (tVar 0)) (tOp (rIxB K) (tVar 3) (tC (.int 1)))) (tOp (rI (λi j=>IntMulOk i j) λi j=>.int (i*j)) (tOp (rI0 λi j=>.int (i-j)) (tOp (rIxB K) (tOp (rIxB K) (tVar 3) (tC (.int 0))) (tVar 0)) (tOp (rIxB K) (tVar 4) (tVar 0))) (tVar 2)))) rfl rfl (nofun) rfl (nofun) (nW rfl T.z_range (pK (oS T.z_len (pq 1)) pL)) (λ_ _ _ hE1=>(pO nR (pO oW (nD ix_B (pv 1) (pv 0) (λ_ _=>rfl)) (pS (pv 3))) (pO oW (pO jE (nD ix_B (pS (pv 3)) (pv 0) (λ_ _=>rfl)) (nD ix_B (pv 4) (pv 0) (λ_ _=>rfl))) (pv 2))))))
   (pM (jQ (pU G_f hr.mo T.F_f (pK (pq 1) (pK (pO oW (pq 2) (pS (pq 4))) pL))) (lE rfl (nB (oV (i:=1) sc_4.nd rfl (Or.inr rfl)) (nB (oV (i:=6) sc_4.nd rfl (Or.inl rfl)) lD))))
   (pQ (oA (nJ (pK (nS lO rfl T.z_tuple (nofun) (pK (oX (sc:=pN s_4) (N:=N_4) (fr:=[]) (te:=(tCB (iU K) (pW (tVar 0) tNil))) rfl rfl (nofun) rfl (nofun) (oH (pq 0)) (λ_ _ _ hE1=>(nS lO rfl T.z_tuple (nofun) (pK (pv 0) pL)))) pL)) (pK (pq 1) (pK (pq 6) pL))))))))))),?_⟩
  show tSeq _ _ _ [some (.ref a),some (.ref b),some (.int p),some (.ref l),some (.ref sp),none,none] H;have okR:∀s∈L.reverse,s.Ok d:=λs hs=>ok s (pE.mp hs);have c:=kK hd okR;right;refine⟨false,false,a,l,R,L,d,1,rfl,hA.b,hL,sR,hd,ok,⋯,bR,∅,λa1 H1 s1 hC bC=>?_⟩;replace bC:nF 25 (cjM d (chP d L.reverse) (chQ d L.reverse) R):=λr hr z hz=>zE (bC r hr z hz) (zW ∅ ⋯);have sC:=iI c R;left;refine⟨false,b,l,ts,L,d,5,rfl,SqB.lst (s1 _ _ hb),hL.up s1,lt,hd,ok,⋯,bt,∅,λb1 H2 s2 hb0 hb1 bb=>?_⟩;replace bb:nA 17 (mv (chP d L.reverse) ts):=bb.le ⋯;have hm:mv (chP d L.reverse) ts=mv (chP d L.reverse) ts:=rfl;have s02:=s1.trans s2;left;refine⟨true,sp,_,_,_,rfl,rfl,SqB.tup (s02 _ _ hsp),rfl,?_⟩
  try ext
  refine⟨false,false,false,a1,sl,_,S,d,rfl,(hC.up s2).b,SqB.lst (s02 _ _ hsl),sC,hd,lS,λr hr z hz=>zE (bC r hr z hz) (zW ∅ ∅),bS.le ∅,λf H3 s3 hf0 ef=>?_⟩;have s03:=s02.trans s3;have lf:(mv (cjM d (chP d L.reverse) (chQ d L.reverse) R) S).length=d:=mB sC;have lm:(mv (chP d L.reverse) ts).length=d:=mB c.p;have bf:∀z∈mv (cjM d (chP d L.reverse) (chQ d L.reverse) R) S,z.natAbs<2^32:=λz hz=>by
   obtain⟨r,hr,rfl⟩:=qW.mp hz;exact Cc (bC r hr) bS (by have:=sC.2 r hr;omega)
  have eT:∀k,k<d->(cjT d (chP d L.reverse) (chQ d L.reverse) R (smul su ts) (smul p S))[k]?=some ((mv (chP d L.reverse) ts).getD k 0*su+(S.getD k 0-(mv (cjM d (chP d L.reverse) (chQ d L.reverse) R) S).getD k 0)*p):=λk hk=>Uw hd c sR lt lS hk;have lT:(cjT d (chP d L.reverse) (chQ d L.reverse) R (smul su ts) (smul p S)).length=d:=Cl c (by rw[kD];exact lS);generalize cjT d (chP d L.reverse) (chQ d L.reverse) R (smul su ts) (smul p S)=TT at hQ eT lT;generalize cjM d (chP d L.reverse) (chQ d L.reverse) R=C at hQ eT hC bC sC lf bf ef;generalize mv (chP d L.reverse) ts=mt at eT lm bb hb1;generalize mv C S=mf at eT lf bf ef;left;refine oG λB eB=>?_;simp only[nI];ext;have hb3:H3 b1=some (.lst (mt.map V.int)):=s3 _ _ hb1;refine nU (SqB.lst hb3) ⟨_,rfl,⋯,⋯,λa4 ha4=>?_⟩;rw[zS,lm];refine mG (λk y _=>∃n,TT[k]?=some n/\y=.int n) ha4 ⋯ (λ_ _ _ _ r _=>r) ?_ ?_
  ·intro k H4 zs4 hk s4 ez4 Q2 hQ2;have s04:=s03.trans s4;subst eB;show tOp _ _ _ [some (.int (0+(k:Int))),some (.ref b1),some (.int p),some (.ref sp),some (.ref f)] H4 Q2;ext;refine⟨false,b1,_,_,_,rfl,rfl,SqB.lst (s4 _ _ hb3),nY (mU (getD_at (k:=k) ⋯)) ⋯,?_⟩;refine⟨true,sp,_,_,_,rfl,rfl,SqB.tup (s04 _ _ hsp),rfl,?_⟩
   try ext
   refine⟨wJ (wO ⋯ ⋯),?_⟩;refine⟨true,sp,_,_,_,rfl,rfl,SqB.tup (s04 _ _ hsp),rfl,?_⟩;refine⟨false,sl,_,_,_,rfl,rfl,SqB.lst (s04 _ _ hsl),nY (mU (getD_at (k:=k) ⋯)) ⋯,?_⟩;refine⟨false,f,_,_,_,rfl,rfl,SqB.lst (s4 _ _ ef),nY (mU (getD_at (k:=k) ⋯)) ⋯,?_⟩
   try ext
   refine⟨wJ (wO ⋯ ⋯),?_⟩;exact hQ2 _ _ (Same.refl _) ⟨_,eT k hk,rfl⟩
  ·intro H4 ys s4 e4 hly hr4;have ey:ys=TT.map V.int:=oZ (by rw[hly,lT]) hr4;subst ey;have s04:=s03.trans s4;left;refine⟨true,sp,_,_,_,rfl,rfl,SqB.tup (s04 _ _ hsp),rfl,?_⟩
   try ext
   refine⟨wJ (wO ⋯ ⋯),?_⟩;have us:lQ (p*su):=lR (B:=20) (by
    have h1:=tO hp6 hs12 ⋯ ⋯;have h2:=yX hp hs;have:(2:Nat)^20=1048576:=rfl;omega) ∅
   refine⟨false,a4,TT,p*su,rfl,SqB.lst e4,⋯,yX hp hs,us,λq H5 s5 hq=>?_⟩;have fine:Fine d C (redT (p*su) TT) (redU (p*su) TT):=by
    have h1:=tO hp6 hs12 ⋯ ⋯;obtain⟨r1,r2,r3⟩:=dO (ts:=TT) (yX hp hs);refine⟨sC,by unfold redT;rw[zqe];exact lT,r2,bC.le ∅,λz hz=>?_,⋯⟩;obtain⟨y,hy,hzy⟩:=r1 z hz;obtain⟨k,hk,rfl⟩:=xT hy;have e:=eT k ⋯;rw[zqd hk]at e;have e':=zR e;rw[e']at hzy;have hkd:k<d:=⋯
    have b1:=bb _ (L2.getD_mem (show k<mt.length by omega));have b2:=bS _ (L2.getD_mem (show k<S.length by omega));have b3:=bf _ (L2.getD_mem (show k<mf.length by omega));have g1:(mt.getD k 0*su).natAbs<=2^17*12:=by rw[xA];exact wG (xR b1) ⋯
    have g2:((S.getD k 0-mf.getD k 0)*p).natAbs<=(2^5+2^32)*6:=by rw[xA];exact wG ⋯ ⋯
    exact yG hzy (zE (show _<2^40 by omega) (zW ∅ ∅))
   obtain⟨q1,hq1,hq2⟩:=hq;refine⟨q,_,rfl,SqT.of hq1,rfl,?_⟩;simp only[nC,gNil,pY];refine⟨_,_,rfl,_,_,rfl,rfl,?_⟩;symm;refine oG λB0 eB=>?_;simp only[iSeq];ext;have s25:=(s3.trans s4).trans s5;have hC5:MatB false false K H5 a1 C:=(hC.up (s2.trans s25)).b;obtain⟨xsA,hxA⟩:∃xs,SqB false K H5 a1 xs:=let ⟨ps,h,_⟩:=hC5;⟨_,h⟩
   refine⟨false,⟨_,hxA⟩,λa2 ha2=>?_⟩;subst eB;refine Hi hC5 (by rw[sC.1];omega) ha2 λH6 zs s6 hz hB=>?_;refine⟨a2,_,rfl,.inl ⟨SqL.of hz,λl hl1=>?_⟩⟩;have s7:Same H5 (upd H6 l (.tup zs)):=s6.trans (Same.new hl1);replace hB:=hB l hl1;generalize upd H6 l (.tup zs)=H7 at s7 hB;exact⟨(by show 3<=sizeLine;decide),λx hx=>hQ x _ (((s04.trans s5).trans s7).trans (Same.new hx)) ⟨l,q1,pV,hB.up (Same.new hx),Same.new hx _ _ (s7 _ _ hq2)⟩ fine⟩
noncomputable def famG:Nat->List LM
 |0=>[[[0,-1],[1,0]],[[-1,0],[0,1]]]
 |1=>[[[1,-1],[1,0]],[[0,1],[1,0]]]
 |2=>[[[-1,0,0],[0,1,0],[0,0,1]],[[1,0,0],[0,-1,0],[0,0,-1]],[[-1,0,0],[0,-1,0],[0,0,1]]]
 |3=>[[[0,-1,0],[1,0,0],[0,0,1]],[[0,0,1],[1,0,0],[0,1,0]],[[-1,0,0],[0,-1,0],[0,0,-1]]]
 |4=>[[[1,-1,0],[1,0,0],[0,0,1]],[[0,1,0],[1,0,0],[0,0,1]],[[1,0,0],[0,1,0],[0,0,-1]]]
 |_=>[[[0,-1,0],[1,-1,0],[0,0,1]],[[-1,0,0],[0,-1,0],[0,0,-1]]]
noncomputable def famM:Nat->Nat
 |0=>4
 |1=>4
 |2=>2
 |3=>1
 |4=>6
 |_=>3
noncomputable def famD(k:Nat):Nat:=if k<2 then 2 else 3
noncomputable def Uv(d:Nat)(gs l:List LM):List LM:=(l.flatMap λA=>gs.map λg=>mulM d g A).foldl (λacc M=>if acc.contains M then acc else acc++[M]) l
noncomputable def Cb(d:Nat)(gs:List LM):Nat->List LM->List LM
 |0,l=>l
 |n+1,l=>Cb d gs n (Uv d gs l)
noncomputable def pgL(k:Nat):List LM:=Cb (famD k) (famG k) 10 [idM (famD k)]
noncomputable def axB(R:LM):Bool:=decide ((R.getD 0 []).getD 2 0=0) && decide ((R.getD 1 []).getD 2 0=0) && decide ((R.getD 2 []).getD 0 0=0) && decide ((R.getD 2 []).getD 1 0=0)
noncomputable def invM(d:Nat)(A:LM):LM:=mulM d A (mulM d (mulM d A A) (mulM d (mulM d (mulM d A A) (mulM d A A)) (mulM d (mulM d A A) (mulM d A A))))
noncomputable def Ju(k:Nat):Bool:=
 (pgL k).contains (idM (famD k)) && (famG k).all (λg=>(pgL k).contains g) &&
 (pgL k).all (λA=>(famG k).all λg=>(pgL k).contains (mulM (famD k) g A)) &&
 (pgL k).all (λA=>decide (mulM (famD k) A (invM (famD k) A)=idM (famD k)) && decide (mulM (famD k) (invM (famD k) A) A=idM (famD k))) &&
 (pgL k).all (λA=>decide (A.length=famD k) && A.all λr=>decide (r.length=famD k) && r.all λz=>decide (z.natAbs<=1)) &&
 (k != 4 || (pgL k).all axB) && decide ((pgL k).length*(if k=4 then famM k else famM k^famD k)<=192)
theorem Uu:(List.range 6).all Ju=true:=nofun
theorem mW(k:Nat):famD k=2\/famD k=3:=by unfold famD;split <;> simp
theorem Jt{M:LM}:∀(xs acc:List LM),M∈xs.foldl (λacc M=>if acc.contains M then acc else acc++[M]) acc->M∈acc\/M∈xs
 |[],_,h=>.inl h
 | x:: xs,acc,h=>by
  rcases Jt xs _ h with q|q
  ·dsimp only at q;split at q
   ·exact .inl q
   ·rcases pH.mp q with q|q
    ·exact .inl q
    ·exact .inr (by rw[qV.mp q];exact .head _)
  ·exact .inr (.tail _ q)
theorem Js{P:LM->Prop}{d:Nat}{gs:List LM}(hs:∀A,P A->∀g∈gs,P (mulM d g A)):∀(n:Nat)(l:List LM),(∀A∈l,P A)->∀M∈Cb d gs n l,P M
 |0,_,h=>h
 |n+1,l,h=>Js hs n _ λM hM=>by
  rcases Jt _ _ hM with q|q
  ·exact h M q
  ·obtain⟨A,hA,q⟩:=pI.mp q;obtain⟨g,hg,rfl⟩:=qW.mp q;exact hs A (h A hA) g hg
structure Fam(k:Nat):Prop where
 one:idM (famD k)∈pgL k
 gen:∀g∈famG k,g∈pgL k
 mul:∀A∈pgL k,∀B∈pgL k,mulM (famD k) A B∈pgL k
 inv:∀A∈pgL k,∃B∈pgL k,mulM (famD k) A B=idM (famD k)/\mulM (famD k) B A=idM (famD k)
 sq:∀A∈pgL k,Sq (famD k) A
 wee:∀A∈pgL k,∀r∈A,∀z∈r,z.natAbs<=1
 ax:k=4->∀A∈pgL k,axB A=true
 len:(pgL k).length*(if k=4 then famM k else famM k^famD k)<=192
theorem iM{k:Nat}(hk:k<6):Fam k:=by
 have h:=vM.mp Uu k (pC.mpr hk);simp only[Ju,Bool.and_eq_true,List.all_eq_true,decide_eq_true_eq,List.contains_iff_mem,Bool.or_eq_true,bne_iff_ne,ne_eq]at h;obtain⟨⟨⟨⟨⟨⟨h1,h2⟩,h3⟩,h4⟩,h5⟩,h6⟩,h7⟩:=h;have hd:=mW k;have sq:∀A∈pgL k,Sq (famD k) A:=λA hA=>⟨(h5 A hA).1,λr hr=>((h5 A hA).2 r hr).1⟩;have mul:∀A∈pgL k,∀B∈pgL k,mulM (famD k) A B∈pgL k:=λA hA=>(Js (P:=λA=>Sq (famD k) A/\∀B∈pgL k,mulM (famD k) A B∈pgL k) (gs:=famG k) (λA⟨sA,pA⟩g hg=>⟨(sq g (h2 g hg)).mul,λB hB=>by
  rw[mul_assoc hd (sq g (h2 g hg)) sA (sq B hB)];exact h3 _ (pA B hB) g hg⟩) 10 [idM (famD k)] (λA hA=>by
   rw[qV.mp hA];exact⟨oN,λB hB=>by rw[(lJ hd (sq B hB)).1];exact hB⟩) A hA).2
 have sq2:=λA hA=>mul A hA A hA;have sq4:=λA hA=>mul _ (sq2 A hA) _ (sq2 A hA);exact⟨h1,h2,mul,λA hA=>⟨invM (famD k) A,mul A hA _ (mul _ (sq2 A hA) _ (mul _ (sq4 A hA) _ (sq4 A hA))),h4 A hA⟩,sq,λA hA r hr z hz=>((h5 A hA).2 r hr).2 z hz,λe A hA=>(h6.resolve_left (λn=>n e)) A hA,h7⟩
def Tp(k:Nat)(t:LI'):Prop:=t.length=famD k/\(k=4->∃z,t=[0,0,z])
noncomputable def rngI(p:Nat):LI':=(List.range p).map λn:Nat=>Int.ofNat n
noncomputable def topL(k p:Nat):LM:=if k=4 then(rngI p).map λz=>[0,0,z] else if k<2 then(rngI p).flatMap λx=>(rngI p).map λy=>[x,y] else(rngI p).flatMap λx=>(rngI p).flatMap λy=>(rngI p).map λz=>[x,y,z]
theorem dP{α β:Type}{f:α->List β}{n:Nat}:∀{l:List α},(∀x∈l,(f x).length=n)->(l.flatMap f).length=l.length*n
 |[],_=>by simp
 |a:: l,h=>by
  rw[List.flatMap_cons,zX,h a zU,dP λx hx=>h x (zM _ hx),zY,rA];omega
theorem fL{p:Nat}:(rngI p).length=p:=by simp[rngI]
theorem Ut{k p:Nat}:(topL k p).length=if k=4 then p else p^famD k:=by
 unfold topL famD
 by_cases h4:k=4
 ·rw[zJ h4,zJ h4,zqe,fL]
 ·rw[zI h4,zI h4]
  by_cases h2:k<2
  ·rw[zJ h2,zJ h2,dP (n:=p) λx _=>by rw[zqe,fL],fL];grind
  ·rw[zI h2,zI h2,dP (n:=p*p) λx _=>by rw[dP (n:=p) λy _=>by rw[zqe,fL],fL],fL];grind
theorem fM{p:Nat}(hp:0<p)(z:Int):z.fmod p∈rngI p:=by
 have h1:0<=z.fmod p:=uC z ⋯;have h2:z.fmod p<p:=tH z ⋯;exact qW.mpr ⟨(z.fmod p).toNat,pC.mpr ⋯,Int.toNat_of_nonneg h1⟩
theorem Us{k p:Nat}(hp:0<p){t:LI'}(h:Tp k t):oO p t∈topL k p:=by
 unfold topL;obtain⟨hl,h4⟩:=h
 by_cases e4:k=4
 ·obtain⟨z,rfl⟩:=h4 e4;rw[zJ e4];refine qW.mpr ⟨z.fmod p,fM hp z,?_⟩;simp[oO]
 ·rw[zI e4];unfold famD at hl
  by_cases h2:k<2
  ·rw[zJ h2]at hl ⊢;obtain⟨x,y,rfl⟩:=v2 hl;exact pI.mpr ⟨x.fmod p,fM hp x,qW.mpr ⟨y.fmod p,fM hp y,rfl⟩⟩
  ·rw[zI h2]at hl ⊢;obtain⟨x,y,z,rfl⟩:=v3 hl;exact pI.mpr ⟨x.fmod p,fM hp x,pI.mpr ⟨y.fmod p,fM hp y,qW.mpr ⟨z.fmod p,fM hp z,rfl⟩⟩⟩
theorem Tp.turn{k:Nat}(F:Fam k){R:LM}(hR:R∈pgL k){t t':LI'}(h:Tp k t)(h':Tp k t'):Tp k (va (mv R t) t'):=by
 refine⟨Cm (mB (F.sq R hR)) h'.1,λe=>?_⟩;obtain⟨z,rfl⟩:=h.2 e;obtain⟨z',rfl⟩:=h'.2 e;have sR:=F.sq R hR;have ax:=F.ax e R hR;have e3:famD k=3:=by rw[e];rfl
 rw[e3]at sR;obtain⟨a1,a2,a3,a4,a5,a6,a7,a8,a9,rfl⟩:=sq3 sR;simp only[axB,Bool.and_eq_true,decide_eq_true_eq,List.getD_cons_zero,List.getD_cons_succ]at ax;obtain⟨⟨⟨rfl,rfl⟩,rfl⟩,rfl⟩:=ax;refine⟨a9*z+z',?_⟩;rw[mv3,va3];simp
theorem Tp.zero{k:Nat}:Tp k (List.replicate (famD k) 0):=⟨by simp,λe=>⟨0,by subst e;rfl⟩⟩
structure Frm where
 k:Nat
 p:Nat
 P:LM
 P':LM
 s:LI'
 su:Int
structure Frm.Ok(F:Frm):Prop where
 k:F.k<6
 p:0<F.p
 pm:F.p<=famM F.k
 c:Chg (famD F.k) F.P F.P'
 s:F.s.length=famD F.k
 su:0<F.su
noncomputable def Frm.at(F:Frm)(R:LM)(t:LI'):Dd:=frD (famD F.k) F.P F.P' F.s F.su F.p R t
def InF(F:Frm)(x:Dd):Prop:=∃R∈pgL F.k,∃t,Tp F.k t/\x=F.at R t
theorem aJ{F:Frm}(h:F.Ok){x y:Dd}(hx:InF F x)(hy:InF F y):InF F (oK (famD F.k) x y):=by
 obtain⟨R1,m1,t1,q1,rfl⟩:=hx;obtain⟨R2,m2,t2,q2,rfl⟩:=hy;have M:=iM h.k;refine⟨mulM (famD F.k) R2 R1,M.mul _ m2 _ m1,va (mv R2 t1) t2,Tp.turn M m2 q1 q2,?_⟩;exact fr_step (mW F.k) h.c h.s h.su (by have:=h.p;omega) (M.sq _ m1) (M.sq _ m2) q1.1 q2.1
theorem Ca{d:Nat}{c:Int}:smul c (List.replicate d 0)=List.replicate d 0:=by
 unfold smul;rw[List.map_replicate,Int.mul_zero]
theorem Dz{d:Nat}(hd:d=2\/d=3){M:LM}{U:Int}(hU:0<U):canD M (List.replicate d 0) U=(M,List.replicate d 0,1):=by
 have h:=Cg (M:=M) (ts:=List.replicate d 0) (U:=1) (k:=U) ⋯ hU;rw[Ca,uE]at h;rw[h];have:oO (redU 1 (List.replicate d 0)) (redT 1 (List.replicate d 0))=List.replicate d 0/\redU 1 (List.replicate d 0)=1:=by
  rcases hd with rfl|rfl <;> decide +kernel
 unfold canD;rw[this.1,this.2]
theorem Dy{d:Nat}(hd:d=2\/d=3){P P':LM}(h:Chg d P P'){s:LI'}(hs:s.length=d){su p:Int}(hu:0<su)(hp:0<p):frD d P P' s su p (idM d) (List.replicate d 0)=oQ d:=by
 have lS:(smul p s).length=d:=by rw[kD];exact hs
 have e1:cjM d P P' (idM d)=idM d:=by
  unfold cjM;rw[(lJ hd h.p).2,h.r]
 unfold frD cjT;rw[e1,Ca,dL hd lS];have e2:vs (va (mv P (List.replicate d 0)) (smul p s)) (smul p s)=List.replicate d 0:=by
  have e3:mv P (List.replicate d 0)=List.replicate d 0:=by
   have:=dM hd h.p (v:=List.replicate d 0) (by simp) 0;rw[Ca]at this;rw[this];unfold smul;refine List.eq_replicate_iff.mpr ⟨by rw[zqe,mB h.p],λb hb=>?_⟩;obtain⟨z,_,rfl⟩:=qW.mp hb;exact tF z
  rw[e3];generalize smul p s=S at lS ⊢;rcases hd with rfl|rfl
  ·obtain⟨x,y,rfl⟩:=v2 lS;simp[va,vs,List.replicate]
  ·obtain⟨x,y,z,rfl⟩:=v3 lS;simp[va,vs,List.replicate]
 rw[e2,Dz hd (yX hp hu)];rfl
theorem dQ{F:Frm}(h:F.Ok):InF F (oQ (famD F.k)):=⟨_,(iM h.k).one,_,Tp.zero,(Dy (mW F.k) h.c h.s h.su (by have:=h.p;omega)).symm⟩
noncomputable def Frm.all(F:Frm):List Dd:=(pgL F.k).flatMap λR=>(topL F.k F.p).map λt=>F.at R t
theorem Ur{F:Frm}(h:F.Ok):F.all.length<=192:=by
 unfold Frm.all;rw[dP (n:=(topL F.k F.p).length) λx _=>by rw[zqe],Ut];refine yL (Nat.mul_le_mul_left _ ?_) (iM h.k).len;split
 ·exact h.pm
 ·exact Nat.pow_le_pow_left h.pm _
theorem Uq{F:Frm}(h:F.Ok){x:Dd}(hx:InF F x):x∈F.all:=by
 obtain⟨R,hR,t,ht,rfl⟩:=hx;have hp:(0:Int)<F.p:=by have:=h.p;omega
 refine pI.mpr ⟨R,hR,qW.mpr ⟨oO F.p t,Us h.p ht,?_⟩⟩;exact(Tk h.su hp (Cong.rest hp t)).symm
theorem fN{F:Frm}(h:F.Ok){ss:List Dd}(hs:∀s∈ss,InF F s)(N:Nat):(tab (famD F.k) ss N).length<=192/\∀y∈tab (famD F.k) ss N,InF F y.1 :=
 ⟨yL (Th (dQ h) (λx hx s hs'=>aJ h hx (hs s hs')) (λx hx=>Uq h hx)) (Ur h),aH (dQ h) λx hx s hs'=>aJ h hx (hs s hs')⟩
def Rs(d:Nat)(x:Dd):Prop:=∃M ts U,Sq d M/\ts.length=d/\0<U/\x=canD M ts U
theorem aK{d:Nat}{N:LM}{ns ts:LI'}{u v:Int}(hN:Sq d N)(hn:ns.length=d):(movT N ns v ts u).length=d:=by
 unfold movT;rw[yH,hN.1,hn,wT]
theorem Rs.step{d:Nat}{x y:Dd}(hx:Rs d x)(hy:Rs d y):Rs d (oK d x y):=by
 obtain⟨M,ts,U,sM,lt,hU,rfl⟩:=hx;obtain⟨N,ns,V,sN,ln,hV,rfl⟩:=hy;exact⟨_,_,_,sN.mul,aK sN ln,yX hV hU,iK hU hV⟩
theorem Uo{d:Nat}(hd:d=2\/d=3){N O:LM}(sN:Sq d N)(sO:Sq d O){ts ns os:LI'}(lt:ts.length=d)(ln:ns.length=d)(lo:os.length=d){U V W:Int}:
  movT O os W (movT N ns V ts U) (V*U)=movT (mulM d O N) (movT O os W ns V) (W*V) ts U:=by
 rcases hd with rfl|rfl
 ·obtain⟨a,b,c,e,rfl⟩:=sq2 sN;obtain⟨a',b',c',e',rfl⟩:=sq2 sO;obtain⟨t1,t2,rfl⟩:=v2 lt;obtain⟨n1,n2,rfl⟩:=v2 ln;obtain⟨o1,o2,rfl⟩:=v2 lo;rw[mul2];simp only[movT,dotI,List.zipWith_cons_cons,List.zipWith_nil_left,List.sum_cons,List.sum_nil,List.cons.injEq,and_true];refine⟨?_,?_⟩ <;> grind
 ·obtain⟨a1,a2,a3,a4,a5,a6,a7,a8,a9,rfl⟩:=sq3 sN;obtain⟨b1,b2,b3,b4,b5,b6,b7,b8,b9,rfl⟩:=sq3 sO;obtain⟨t1,t2,t3,rfl⟩:=v3 lt;obtain⟨n1,n2,n3,rfl⟩:=v3 ln;obtain⟨o1,o2,o3,rfl⟩:=v3 lo;rw[mul3];simp only[movT,dotI,List.zipWith_cons_cons,List.zipWith_nil_left,List.sum_cons,List.sum_nil,List.cons.injEq,and_true];refine⟨?_,?_,?_⟩ <;> grind
theorem Jr{d:Nat}(hd:d=2\/d=3){x y z:Dd}(hx:Rs d x)(hy:Rs d y)(hz:Rs d z):oK d (oK d x y) z=oK d x (oK d y z):=by
 obtain⟨M,ts,U,sM,lt,hU,rfl⟩:=hx;obtain⟨N,ns,V,sN,ln,hV,rfl⟩:=hy;obtain⟨O,os,W,sO,lo,hW,rfl⟩:=hz;rw[iK hU hV,iK (yX hV hU) hW,iK hV hW,iK hU (yX hW hV),mul_assoc hd sO sN sM,Uo hd sN sO lt ln lo,Int.mul_assoc]
theorem Um{d:Nat}(hd:d=2\/d=3):Rs d (oQ d):=⟨idM d,List.replicate d 0,1,oN,by simp,⋯,(Dz hd ⋯).symm⟩
theorem Ul{d:Nat}(hd:d=2\/d=3):oQ d=canD (idM d) (List.replicate d 0) 1:=(Dz hd ⋯).symm
theorem aL{d:Nat}(hd:d=2\/d=3){N:LM}(sN:Sq d N){ns:LI'}(ln:ns.length=d){V:Int}:movT N ns V (List.replicate d 0) 1=ns/\movT (idM d) (List.replicate d 0) 1 ns V=ns:=by
 rcases hd with rfl|rfl
 ·obtain⟨a,b,c,e,rfl⟩:=sq2 sN;obtain⟨n1,n2,rfl⟩:=v2 ln;rw[id2];simp[movT,dotI,List.replicate]
 ·obtain⟨a1,a2,a3,a4,a5,a6,a7,a8,a9,rfl⟩:=sq3 sN;obtain⟨n1,n2,n3,rfl⟩:=v3 ln;rw[id3];simp[movT,dotI,List.replicate]
theorem aM{d:Nat}(hd:d=2\/d=3){x:Dd}(hx:Rs d x):oK d (oQ d) x=x/\oK d x (oQ d)=x:=by
 obtain⟨M,ts,U,sM,lt,hU,rfl⟩:=hx;rw[Ul hd];refine⟨?_,?_⟩
 ·rw[iK ⋯ hU,(aL hd sM lt).1,(lJ hd sM).2,uE]
 ·rw[iK hU ⋯,(aL hd sM lt).2,(lJ hd sM).1,uB]
theorem dR{F:Frm}(h:F.Ok){x:Dd}(hx:InF F x):Rs (famD F.k) x:=by
 obtain⟨R,hR,t,ht,rfl⟩:=hx;exact⟨_,_,_,iI h.c R,Cl h.c (by rw[kD];exact h.s),yX (by have:=h.p;omega) h.su,rfl⟩
theorem Dx{d:Nat}:∀{v:LI'},v.length=d->va v (smul (-1) v)=List.replicate d 0/\va (smul (-1) v) v=List.replicate d 0
 |[],h=>by subst h;exact⟨rfl,rfl⟩
 |a:: v,h=>by
  obtain⟨m,rfl⟩:∃m,d=m+1:=⟨v.length,by rw[←h];rfl⟩;have:=Dx (v:=v) (d:=m) (by simpa using h);unfold va smul at this ⊢;rw[zL,yV,yV,this.1,this.2,wL,show a+-1*a=0 by omega,show -1*a+a=0 by omega];exact⟨rfl,rfl⟩
theorem Tp.neg{k:Nat}{t:LI'}(h:Tp k t):Tp k (smul (-1) t):=⟨by rw[kD];exact h.1,λe=>by
 obtain⟨z,rfl⟩:=h.2 e;exact⟨-1*z,rfl⟩⟩
theorem Uk{d:Nat}(hd:d=2\/d=3){v:LI'}(h:v.length=d):va v (List.replicate d 0)=v:=by
 rcases hd with rfl|rfl
 ·obtain⟨x,y,rfl⟩:=v2 h;simp[va,List.replicate]
 ·obtain⟨x,y,z,rfl⟩:=v3 h;simp[va,List.replicate]
theorem Uj{F:Frm}(h:F.Ok){x:Dd}(hx:InF F x):∃y,InF F y/\oK (famD F.k) x y=oQ (famD F.k)/\oK (famD F.k) y x=oQ (famD F.k):=by
 obtain⟨R,hR,t,ht,rfl⟩:=hx;have M:=iM h.k;have hd:=mW F.k;have hp:(0:Int)<F.p:=by have:=h.p;omega
 obtain⟨B,hB,e1,e2⟩:=M.inv R hR;have lBt:(mv B t).length=famD F.k:=mB (M.sq B hB);have hT:Tp F.k (smul (-1) (mv B t)):=by
  have:=Tp.turn M hB ht (Tp.zero (k:=F.k));rw[Uk hd lBt]at this;exact this.neg
 refine⟨F.at B (smul (-1) (mv B t)),⟨B,hB,_,hT,rfl⟩,?_,?_⟩
 ·unfold Frm.at
  rw[fr_step hd h.c h.s h.su hp (M.sq R hR) (M.sq B hB) ht.1 hT.1,e2,(Dx lBt).1,Dy hd h.c h.s h.su hp]
 ·unfold Frm.at
  rw[fr_step hd h.c h.s h.su hp (M.sq B hB) (M.sq R hR) hT.1 ht.1,e1,dM hd (M.sq R hR) lBt,←dJ hd (M.sq R hR) (M.sq B hB) ht.1,e1,dL hd ht.1,(Dx ht.1).2,Dy hd h.c h.s h.su hp]
structure Grp(d:Nat)(T:List Dd):Prop where
 dim:d=2\/d=3
 nd:T.Nodup
 rs:∀x∈T,Rs d x
 one:oQ d∈T
 mul:∀x∈T,∀y∈T,oK d x y∈T
 inv:∀x∈T,∃y∈T,oK d x y=oQ d/\oK d y x=oQ d
theorem Jq{d:Nat}(hd:d=2\/d=3){ss T:List Dd}(rs:∀x∈T,Rs d x)(rss:∀s∈ss,Rs d s)(cl:∀x∈T,∀s∈ss,oK d x s∈T){x:Dd}(hx:x∈T):∀(w:List Nat),(∀k∈w,k<ss.length)->∀y,Rs d y->oK d x y∈T->oK d x (w.foldl (λx k=>oK d x (ss.getD k (oQ d))) y)∈T
 |[],_,y,_,h=>h
 | k:: w,hw,y,ry,h=>by
  rw[wK];have hk:=hw k zU;have hm:ss.getD k (oQ d)∈ss:=by
   rw[zqc,zqd hk];exact xL hk
  refine Jq hd rs rss cl hx w (λj hj=>hw j (zM _ hj)) _ (ry.step (rss _ hm)) ?_;rw[←Jr hd (rs x hx) ry (rss _ hm)];exact cl _ h _ hm
theorem Ui{α:Type}{l L:List α}(nd:l.Nodup)(sub:∀x∈l,x∈L)(hl:L.length<=l.length){a:α}(ha:a∈L):a∈l:=by
 refine Classical.byContradiction λhn=>?_;have:=Cf (l:=a:: l) (L:=L) (sZ.mpr ⟨hn,nd⟩) λx hx=>by
  rcases xE.mp hx with rfl|hx
  ·exact ha
  ·exact sub x hx
 rw[zY]at this;omega
theorem Jp{α β:Type}{f:α->β}:∀{l:List α},l.Nodup->(∀x∈l,∀y∈l,f x=f y->x=y)->(l.map f).Nodup
 |[],_,_=>by simp
 |a:: l,nd,h=>by
  rw[zL,sZ];have nd':=sZ.mp nd;refine⟨λhm=>?_,Jp nd'.2 λx hx y hy=>h x (zM _ hx) y (zM _ hy)⟩;obtain⟨b,hb,e⟩:=qW.mp hm;exact nd'.1 ((h b (zM _ hb) a zU e) ▸ hb)
theorem Uh{F:Frm}(h:F.Ok){ss:List Dd}(hs:∀s∈ss,InF F s){N:Nat}(hN:192<=N):Grp (famD F.k) ((tab (famD F.k) ss N).map (·.1)):=by
 have hd:=mW F.k;obtain⟨h1,h2⟩:=fN h hs N;have inT:∀x∈(tab (famD F.k) ss N).map (·.1),InF F x:=λx hx=>by
  obtain⟨y,hy,rfl⟩:=qW.mp hx;exact h2 y hy
 have rs:∀x∈(tab (famD F.k) ss N).map (·.1),Rs (famD F.k) x:=λx hx=>dR h (inT x hx);have rss:∀s∈ss,Rs (famD F.k) s:=λs hs'=>dR h (hs s hs');have cl:∀x∈(tab (famD F.k) ss N).map (·.1),∀s∈ss,oK (famD F.k) x s∈(tab (famD F.k) ss N).map (·.1):=λx hx s hs'=>by
  obtain⟨y,hy,rfl⟩:=qW.mp hx;exact Ce ⋯ y hy s hs'
 have mul:∀x∈(tab (famD F.k) ss N).map (·.1),∀y∈(tab (famD F.k) ss N).map (·.1),oK (famD F.k) x y∈(tab (famD F.k) ss N).map (·.1):=λx hx y hy=>by
  obtain⟨z,hz,rfl⟩:=qW.mp hy;obtain⟨e,hk⟩:=Tf z hz;rw[e];exact Jq hd rs rss cl hx z.2 hk _ (Um hd) (by rw[(aM hd (rs x hx)).2];exact hx)
 have one:oQ (famD F.k)∈(tab (famD F.k) ss N).map (·.1):=qW.mpr ⟨_,fK,rfl⟩;refine⟨hd,dN,rs,one,mul,λm hm=>?_⟩;obtain⟨n,hn,e1,e2⟩:=Uj h (inT m hm);have rn:=dR h hn;have back:∀x∈(tab (famD F.k) ss N).map (·.1),oK (famD F.k) (oK (famD F.k) x m) n=x:=λx hx=>by
  rw[Jr hd (rs x hx) (rs m hm) rn,e1,(aM hd (rs x hx)).2]
 have nd:(((tab (famD F.k) ss N).map (·.1)).map λx=>oK (famD F.k) x m).Nodup:=Jp dN λx hx y hy e=>by rw[←back x hx,←back y hy,e]
 have hz:oQ (famD F.k)∈((tab (famD F.k) ss N).map (·.1)).map λx=>oK (famD F.k) x m:=Ui nd (λz hz=>by
  obtain⟨x,hx,rfl⟩:=qW.mp hz;exact mul x hx m hm) (sQ (zqe ..).symm) one
 obtain⟨y,hy,e⟩:=qW.mp hz;have yn:y=n:=by
  have:=back y hy;rw[e,(aM hd rn).1]at this;exact this.symm
 subst yn;exact⟨y,hy,e1,e2⟩
def sp_n:Sp:=λvs H Q _=>E1 λ(k:Nat)=>A3 (vs=[.int k]) (k<6) (∀p g H',Same H H'->H' p=some (.tup [.ref g,.int (famM k)])->Mats H' g (famG k)->Q (.ref p) H')
def sp_r(K:Frag):Sp:=λvs H Q _=>E3 λ(c:Int)(k p:Nat)=>A5 (vs=[.int c,.int k,.int p]) (k<6) (1<=p) (p<=6) (∀q a b R ts H',Same H H'->H' q=some (.tup [.ref a,.ref b])->MatL H' a R->H' b=some (.lst (ts.map V.int))->R∈pgL k->Tp k ts->(∀z∈ts,0<=z/\z<p)->Q (.ref q) H')
noncomputable abbrev RtA:=Expr×Nat×Pos×Nat×Pos×Pos
noncomputable abbrev IfA:=Stmt×Pos×Nat×Pos×Pos×Pos
noncomputable def retA:Stmt->RtA
 |.Return (some (.Tuple [e,.Constant _ j p] k q)) r=>(e,j,p,k,q,r)
 |_=>(.Name "" ⟨0,0,0,0⟩,0,⟨0,0,0,0⟩,0,⟨0,0,0,0⟩,⟨0,0,0,0⟩)
noncomputable def retS(m:Int)(a:RtA):Stmt:=.Return (some (.Tuple [a.1,.Constant (.int m) a.2.1 a.2.2.1] a.2.2.2.1 a.2.2.2.2.1)) a.2.2.2.2.2
noncomputable def ifA:Stmt->IfA
 |.If (.Compare (.Name _ p) _ [.Constant _ j q] r) [s] _ u=>(s,p,j,q,r,u)
 |s=>(s,⟨0,0,0,0⟩,0,⟨0,0,0,0⟩,⟨0,0,0,0⟩,⟨0,0,0,0⟩)
noncomputable def ifS(x:Str)(k:Int)(a:IfA):Stmt:=.If (.Compare (.Name x a.2.1) [.Eq] [.Constant (.int k) a.2.2.1 a.2.2.2.1] a.2.2.2.2.1) [a.1] [] a.2.2.2.2.2
abbrev Jo(Ms:List LM)(m:Int):TS:=tRet (tTup (pW (Fh Ms) (pW (tC (.int m)) tNil)))
noncomputable def okF(e:Expr)(Ms:List LM):Bool:=isList e && (decide (Ai e=some Ms) && Oi Ms)
theorem Jn{X:Cx}{st:Stmt}{a:RtA}{Ms:List LM}{m:Int}(h:st=retS m a)(ok:okF a.1 Ms=true):PS X st (Jo Ms m):=by
 subst h;obtain⟨e,j,p,k,q,r⟩:=a;obtain⟨hl,hm⟩:=Bool.and_eq_true_iff.mp ok;refine oA (nJ (pK (Oj hm) (pK pR pL) ?_));dsimp only at hl;unfold isList at hl;split at hl
 ·rfl
 ·cases hl
theorem dW{X:Cx}{st:Stmt}{a:IfA}{b:RtA}{x:Str}{k m:Int}{Ms:List LM}{i:Nat}(h:st=ifS x k a)(h2:a.1=retS m b)(ok:okF b.1 Ms=true)(hi:X.N[i]?=some x)(hv:Vis X.env.scope x)(hd:(x == ("__debug__" :Str))=false)(hcd:(x == ("__classdict__" :Str))=false):PS X st (tIfS (fU (tOp (rI0 λi j=>.bl (decide (i=j))) (tVar i) (tC (.int k)))) (Jo Ms m) Di):=by
 subst h;exact oU (oR mS (Dj hi hv hd hcd) pR (oP _)) (pQ (Jn h2 ok)) oY
@[irreducible] noncomputable def S_f(k:Nat):Stmt:=(mY dB).getD k (.Pass ⟨0,0,0,0⟩)
@[irreducible] noncomputable def I_f(k:Nat):IfA:=ifA (S_f k)
@[irreducible] noncomputable def R_f(k:Nat):RtA:=retA (I_f k).1
theorem Ug:mY dB=[S_f 0,S_f 1,S_f 2,S_f 3,S_f 4,S_f 5]:=by unfold S_f;kernel_rfl
def famF(k:Nat):Prop:=S_f k=ifS "_law_kind" k (I_f k)/\(I_f k).1=retS (famM k) (R_f k)/\okF (R_f k).1 (famG k)=true
theorem lK(k:Nat)(hk:k<5):famF k:=by
 rcases(show k=0\/k=1\/k=2\/k=3\/k=4 by omega) with e|e|e|e|e <;> subst e <;> (unfold famF;refine⟨?_,?_,?_⟩ <;> (try unfold R_f) <;> (try unfold I_f) <;> (try unfold S_f) <;> kernel_rfl)
theorem q_f5:S_f 5=retS (famM 5) (R_f 5)/\okF (R_f 5).1 (famG 5)=true:=by
 refine⟨?_,?_⟩ <;> (try unfold R_f) <;> (try unfold I_f) <;> (try unfold S_f) <;> kernel_rfl
theorem Uf{X:Cx}{b b2:List Stmt}{u:TS}(h:b=b2)(p:PSs X b2 u):PSs X b u:=by rw[h];exact p
theorem ok_n(T:Txt K mg t):FnOk P w K mg base CX0 1 t.a_n t.d_n pJ' sp_n:=by
 apply T.F_n.ok sc_n
 ·obtain⟨k,rfl,hk,hQ⟩:=h;refine⟨_,Uf Ug (pM (dW (i:=0) (lK 0 ∅).1 (lK 0 ∅).2.1 (lK 0 ∅).2.2 rfl (.inl rfl) rfl rfl) (pM (dW (i:=0) (lK 1 ∅).1 (lK 1 ∅).2.1 (lK 1 ∅).2.2 rfl (.inl rfl) rfl rfl) (pM (dW (i:=0) (lK 2 ∅).1 (lK 2 ∅).2.1 (lK 2 ∅).2.2 rfl (.inl rfl) rfl rfl) (pM (dW (i:=0) (lK 3 ∅).1 (lK 3 ∅).2.1 (lK 3 ∅).2.2 rfl (.inl rfl) rfl rfl) (pM (dW (i:=0) (lK 4 ∅).1 (lK 4 ∅).2.1 (lK 4 ∅).2.2 rfl (.inl rfl) rfl rfl) (pQ (Jn q_f5.1 q_f5.2))))))),?_⟩;show tSeq _ _ _ [some (.int k)] H;have fin:∀(Ms:List LM)(m:Int),Ms=famG k->m=(famM k:Int)->∀p H1,Same H H1->Mats H1 p Ms->2<=sizeLine/\∀q,H1 q=none->Q (.ref q) (upd H1 q (.tup [.ref p,.int m])):=by
   intro Ms m e1 e2 p H1 s1 hg;subst e1 e2;exact⟨∅,λq hq=>hQ q p _ (s1.trans (Same.new hq)) pV (hg.up (Same.new hq))⟩
  ext;refine ite2 (λh=>?_) λh0=>ite2 (λh=>?_) λh1=>ite2 (λh=>?_) λh2=>ite2 (λh=>?_) λh3=>ite2 (λh=>?_) λh4=>?_
  ·have e:k=0:=by have:=yM h;omega
   subst e;exact fin _ _ rfl rfl
  ·have e:k=1:=by have:=yM h;omega
   subst e;exact fin _ _ rfl rfl
  ·have e:k=2:=by have:=yM h;omega
   subst e;exact fin _ _ rfl rfl
  ·have e:k=3:=by have:=yM h;omega
   subst e;exact fin _ _ rfl rfl
  ·have e:k=4:=by have:=yM h;omega
   subst e;exact fin _ _ rfl rfl
  ·have n0:¬((k:Int)=0):=λz=>h0 (zK z);have n1:¬((k:Int)=1):=λz=>h1 (zK z);have n2:¬((k:Int)=2):=λz=>h2 (zK z);have n3:¬((k:Int)=3):=λz=>h3 (zK z);have n4:¬((k:Int)=4):=λz=>h4 (zK z);have e:k=5:=⋯
   subst e;exact fin _ _ rfl rfl
theorem Jm{k:Nat}(hk:k<6):∃M,(famG k)[0]?=some M/\M.length=famD k/\(famG k).length<=3:=by
 rcases(show k=0\/k=1\/k=2\/k=3\/k=4\/k=5 by omega) with e|e|e|e|e|e <;> subst e <;> exact⟨_,rfl,∅,∅⟩
theorem Dw{k:Nat}(F:Fam k){R:LM}(h:R∈pgL k):nF 1 R:=λr hr z hz=>by
 have:=F.wee R h r hr z hz;omega
theorem ok_r(T:Txt K mg t):FnOk P w K mg base CX0 2 t.a_r t.d_r pd' (sp_r K):=by
 have G_n:=@ok_n P w K mg base t T;have G_9:=@ok_9 P w K mg base t T;have G_b:=@ok_b P w K mg base t T;apply T.F_r.ok sc_r
 ·obtain⟨c,k,p,rfl,hk,hp1,hp6,hQ⟩:=h;have F:=iM hk;have hd:=mW k;obtain⟨M0,e0,l0,l3⟩:=Jm hk;refine⟨_,(pM (pZ (i:=3) sc_r.nd rfl (Or.inr rfl) (pS (pU G_n hr.mo T.F_n (pK (pq 1) pL))))
   (pM (pZ (i:=4) sc_r.nd rfl (Or.inl rfl) (pO nR (oS T.z_len (pq 3)) pR))
   (pM (iR (i:=5) (xs:=["_law_i"]) (fr:=[("_law_generators",3)]) (g:=(pY 0)) (tt:=(tEl (nE (nI (pW (tCB (lN K) (pW (tOp (rIxB K) (tVar 1) (tC (.int 0))) tNil)) tNil)) (pY 0) (tEl (tCB (λxs H Q=>(∃i,xs=[.int i]/\Q (.int i) H)\/∃k,xs=[.bl k]/\Q (.int (if k then 1 else 0)) H) (pW (tOp (rI0 λi j=>.bl (decide (i=j))) (tVar 1) (tVar 0)) tNil))) 1 [("_law_i",0)]))) (mF (sc:=pN bU) (N:=N_r) rfl rfl (nofun)) rfl sc_r.nd rfl rfl (nW rfl T.z_range (pK (oS T.z_len (pS (pq 3))) pL)) (λ_ _ _ hE1=>(kH (N:=["_law_i","_law_generators"]) (i:=0) hE1 rfl (nofun) rfl)) (λ_ _ _ hE1=>(mK (oX (N:=["_law_i","_law_generators"]) (fr:=[("_law_i",0)]) (te:=(tCB (λxs H Q=>(∃i,xs=[.int i]/\Q (.int i) H)\/∃k,xs=[.bl k]/\Q (.int (if k then 1 else 0)) H) (pW (tOp (rI0 λi j=>.bl (decide (i=j))) (tVar 1) (tVar 0)) tNil))) hE1 rfl (nofun) rfl (nofun) (nW rfl T.z_range (pK (oS T.z_len (pS (pv 1))) pL)) (λ_ _ _ hE2=>(nS aW rfl T.z_int (nofun) (pK (jZ mS (pv 1) (pv 0) (oP _)) pL)))))))
   (pM (mX yS rfl (nW rfl T.z_range (pK pR pL)) (oV (i:=6) sc_r.nd rfl (Or.inl rfl))
   (pM (oU (oR fT (pO nN (pq 0) (pq 4)) pR (oP _))
   (pQ (pZ (i:=5) sc_r.nd rfl (Or.inl rfl) (pU G_9 hr.mo T.F_9 (pK (nD ix_B (pq 3) (pO jE (pO nN (pq 0) (pq 4)) pR) (λ_ _=>rfl)) (pK (pq 5) pL)))))
   oY)
   (pQ (pZ (i:=0) sc_r.nd rfl (Or.inl rfl) (pO nX (pq 0) (pq 4))))))
   (pM (oU (oR mS (pq 1) pR (oP _))
   (pQ (oA (nJ (pK (pq 5) (pK (lG (pK pR (pK pR (pK (pO nN (pq 0) (pq 2)) pL)))) pL)))))
   oY)
   (pQ (oA (nJ (pK (pq 5) (pK (pU G_b hr.mo T.F_b (pK (pq 0) (pK (pq 2) (pK (oS T.z_len (pq 5)) pL)))) pL)))))))))),?_⟩
  show tSeq _ _ _ [some (.int c),some (.int k),some (.int p),none,none,none,none] H;right;refine⟨k,rfl,hk,λq g H1 s1 hq hg=>?_⟩;refine⟨true,q,_,_,_,rfl,rfl,SqB.tup hq,rfl,?_⟩;left;have hgs:∃ps:LA,SqB false K H1 g (ps.map V.ref)/\ps.length=(famG k).length:=let ⟨ps,h1,h2,_⟩:=hg;⟨ps,SqB.lst h1,h2⟩
  obtain⟨gs,hgs,hgl⟩:=hgs;refine⟨false,g,_,rfl,hgs,?_⟩
  try ext
  rw[zqe,hgl];left;refine oG λB eB=>?_;simp only[nI];ext;refine hg.at e0 rfl λm0 hm0=>jJ (hm0.b (K:=K)) ?_;rw[l0];have d3:famD k<=3:=⋯
  refine⟨_,rfl,⋯,⋯,λa1 ha1=>?_⟩;rw[zS];have go:∀r H2,Same H1 H2->MatL H2 r (idM (famD k))->N1 [some (.int c),some (.int k),some (.int p),some (.ref g),some (.int ((famG k).length+1)),some (.ref r),none] H2:=by
   intro r0 H2 s2 hI;subst e1;refine st λN1 e1=>mZ λB2 eB2=>?_;simp only[nI];ext;refine⟨⋯,⋯,?_⟩;refine Fn (n:=2) (g:=pY 6) (tb:=B2) (λi σ H3=>∃(c':Int)(r:Addr)(R:LM)(v:Option V),σ=[some (.int c'),some (.int k),some (.int p),some (.ref g),some (.int ((famG k).length+1)),some (.ref r),v]/\Same H1 H3/\MatL H3 r R/\R∈pgL k) ⟨c,r0,_,none,rfl,s2,hI,F.one⟩ ?_ ?_
   ·rintro i σ H3 hi ⟨c',r,R,v,rfl,s3,hR,mR⟩;subst eB2;show tSeq _ _ _ [some (.int c'),some (.int k),some (.int p),some (.ref g),some (.int ((famG k).length+1)),some (.ref r),some (.int (0+(i:Int)))] H3;have dv:lH c' ((famG k).length+1):=⟨⋯,zE ((tU ⋯).mpr (show((((famG k).length:Int)+1)).natAbs<2^30 by omega)) ∅⟩;refine st λN2 e2=>?_;have nx:∀r R H4,Same H1 H4->MatL H4 r R->R∈pgL k->N2 [some (.int c'),some (.int k),some (.int p),some (.ref g),some (.int ((famG k).length+1)),some (.ref r),some (.int (0+(i:Int)))] H4:=by
     intro r R H4 s4 h4 m4;subst e2;ext;exact⟨dv,s4,_,h4,m4⟩
    ext;refine⟨⋯,?_⟩;have fq:=fms c' (((famG k).length:Int)+1) ⋯;refine ite2 (λh=>?_) λ_=>nx r R H3 s3 hR mR;have hpos:=yM h;refine⟨⋯,?_⟩;obtain⟨j,ej⟩:=xG (show 0<=c'.fmod (((famG k).length:Int)+1)-1 by omega);have hj:j<(famG k).length:=⋯
    have eM:(famG k)[j]?=some (famG k)[j]:=zqd hj;have mM:=F.gen _ (xL hj);generalize (famG k)[j]=M at eM mM;refine(hg.up s3).at eM ej λm1 hm1=>?_;refine⟨false,false,false,false,m1,r,M,R,famD k,rfl,hm1.b,hR.b,F.sq M mM,F.sq R mR,hd,(Dw F mM).le ∅,(Dw F mR).le ∅,λr' H4 s4 h4=>nx r' _ H4 (s3.trans s4) h4 (F.mul M mM R mR)⟩
   ·rintro σ H3 ⟨c',r,R,v,rfl,s3,hR,mR⟩;symm;have sR:=F.sq R mR;refine ite2 (λh=>?_) λh=>?_
    ·have e4:k=4:=by have:=yM h;omega
     have fz:=fms c' p ⋯;refine⟨⋯,by show 3<=sizeLine;decide,λb hb=>⟨by show 2<=sizeLine;decide,λq' hq'=>?_⟩⟩;refine hQ q' r b R [0,0,c'.fmod p] _ ((s1.trans s3).trans ((Same.new hb).trans (Same.new hq'))) pV (hR.up ((Same.new hb).trans (Same.new hq'))) (Same.new hq' _ _ pV) mR ⟨by rw[e4];rfl,λ_=>⟨_,rfl⟩⟩ λz hz=>?_;simp only[List.mem_cons,List.not_mem_nil,or_false]at hz;rcases hz with e|e|e <;> rw[e] <;> omega
    ·have n4:k≠4:=λz=>h (zK ⋯);refine jJ (hR.b (K:=K)) ?_;refine⟨c',p,R.length,rfl,⋯,⋯,by have:=sR.1;omega,λb H4 ns s4 _ eb nl nb=>⟨by show 2<=sizeLine;decide,λq' hq'=>?_⟩⟩;exact hQ q' r b R ns _ ((s1.trans s3).trans (s4.trans (Same.new hq'))) pV (hR.up (s4.trans (Same.new hq'))) (Same.new hq' _ _ eb) mR ⟨by rw[nl,sR.1],λz=>absurd z n4⟩ nb
  refine mG (RowR a1 λi=>(List.range (famD k)).map λj=>if i=j then(1:Int) else 0) ha1 ⋯ (RowR.mono (a:=a1)) ?_ ?_
  ·intro i H2 zs hi s2 ez Q' hQ';subst eB;show nE _ _ _ _ _ [some (.int (0+(i:Int))),some (.ref g)] H2 Q';refine oG λB2 eB2=>?_;simp only[nI];ext;refine(hg.up s2).at e0 rfl λm1 hm1=>jJ (hm1.b (K:=K)) ?_;rw[l0];refine⟨_,rfl,⋯,⋯,λa2 ha2=>?_⟩;rw[zS];refine mG (λj y _=>j<famD k/\y=.int (if i=j then 1 else 0)) ha2 ⋯ (λ_ _ _ _ r _=>r) ?_ ?_
   ·intro j H3 zs3 hj s3 ez3 Q2 hQ2;subst eB2;show tCB _ _ [some (.int (0+(j:Int))),some (.int (0+(i:Int)))] H3 Q2;ext;refine .inr (hQ2 _ _ (Same.refl _) ⟨hj,?_⟩);have ej:(0+(i:Int)=0+(j:Int))↔i=j:=⋯
    by_cases q:i=j
    ·rw[zJ q,zJ (zK (ej.mpr q))]
    ·rw[zI q,zI λh=>q (ej.mp (yM h))]
   ·intro H3 ys s3 e3 hly hr3;have ey:ys=((List.range (famD k)).map λj=>if i=j then(1:Int) else 0).map V.int:=by
     refine oZ (by rw[hly];simp) λj y e=>?_;obtain⟨hj,rfl⟩:=hr3 j y e;exact⟨_,by rw[zC,yO hj];rfl,rfl⟩
    subst ey;exact hQ' _ _ s3 ⟨a2,rfl,yE (nK ez ha2),e3⟩
  ·intro H2 ys s2 e2 hly hr2;have hM0:=MatL.of e2 hr2;rw[hly]at hM0;exact go a1 H2 s2 hM0
theorem Jl{H:Hp}{d:Nat}:∀ys:List V,(∀y∈ys,∃p,∃s:Stp,y=V.ref p/\s.Ok d/\H p=some (.tup [.int s.i,.int s.j,.int s.m]))->∃(ps:LA)(L:List Stp),ys=ps.map V.ref/\ps.length=L.length/\(∀s∈L,s.Ok d)/\∀(k:Nat) p s,ps[k]?=some p->L[k]?=some s->H p=some (.tup [.int s.i,.int s.j,.int s.m])
 |[],_=>⟨[],[],rfl,rfl,(λ_ h=>nomatch h),(λk p s e=>by cases e)⟩
 | y:: ys,h=>by
  obtain⟨p,s,rfl,ok,e⟩:=h _ (zU ..);obtain⟨ps,L,rfl,hl,hok,hq⟩:=Jl ys λz hz=>h z (zM _ hz);refine⟨p:: ps,s:: L,rfl,by simp[hl],λz hz=>?_,λk q z e1 e2=>?_⟩
  ·rcases xE.mp hz with rfl|h
   ·exact ok
   ·exact hok z h
  ·cases k with
   |zero=>cases e1;cases e2;exact e
   |succ k=>exact hq k q z e1 e2
theorem Ue{H:Hp}{r a2:Addr}{ms:LI'}{d:Nat}{σ:St}{Q:VK}{fr:List (Str×Nat)}(hf:mE fr σ=[some (.int d)])(hd:d=2\/d=3)(hr:H r=some (.lst (ms.map V.int)))(lm:ms.length<=40)(ha2:H a2=none)(hQ:∀L H',Same H H'->iL H' a2 L->(∀s∈L,s.Ok d)->L.length=ms.length->Q (.ref a2) H'):mT (Its K false r) (pY 0) (tEl (nL sp_17 [] E0 (pW (tVar 0) (pW (tVar 1) tNil)))) 1 fr σ a2 H Q:=by
 refine oT (λj y H1=>∃p,∃s:Stp,y=V.ref p/\p≠a2/\s.Ok d/\H1 p=some (.tup [.int s.i,.int s.j,.int s.m])) ha2 (SqB.lst hr) (by rw[zqe];omega) (λj y H1 H2⟨p,s,e1,e2,e3,e4⟩x=>⟨p,s,e1,e2,e3,x _ _ e2 e4⟩) ?_ ?_
 ·intro j y H4 zs ey s4 ez Q2 hQ2;obtain⟨m,em,rfl⟩:=nQ ey;rw[hf];show nL _ _ _ _ [some (.int m),some (.int d)] H4 Q2;ext;refine⟨m,d,rfl,hd,λp H5 q s5 hp okq=>hQ2 _ _ s5 ⟨p,q,rfl,λe=>?_,okq,hp⟩⟩;rw[e,s5 _ _ ez]at hp;cases hp
 ·intro H4 ys s4 e4 hly hr4;obtain⟨ps,L,rfl,hl,hok,hq⟩:=Jl (H:=H4) (d:=d) ys λy hy=>by
   obtain⟨j,hj,rfl⟩:=xT hy;obtain⟨p,q,e1,_,e3,e4⟩:=hr4 j _ (zqd hj);exact⟨p,q,e1,e3,e4⟩
  rw[zqe,zqe]at hly;exact hQ L H4 s4 ⟨ps,e4,hl,hq⟩ hok ⋯
structure kL(k p:Nat)(L:List Stp)(S:LI')(su:Int):Prop where
 hk:k<6
 p1:1<=p
 pm:p<=famM k
 ok:∀s∈L,s.Ok (famD k)
 l6:L.length<=6
 lS:S.length=famD k
 bS:nA 5 S
 s0:0<su
 s1:su<=12
def gH(H:Hp)(q:Addr)(k p:Nat)(L:List Stp)(S:LI')(su:Int):Prop:=∃l sp sl,H q=some (.tup [.int k,.int p,.ref l,.ref sp])/\iL H l L/\H sp=some (.tup [.ref sl,.int su])/\H sl=some (.lst (S.map V.int))
theorem gH.up{H H':Hp}{q:Addr}{k p:Nat}{L:List Stp}{S:LI'}{su:Int}(h:gH H q k p L S su)(s:Same H H'):gH H' q k p L S su:=let ⟨l,sp,sl,h1,h2,h3,h4⟩:=h;⟨l,sp,sl,s _ _ h1,h2.up s,s _ _ h3,s _ _ h4⟩
def sp_k(K:Frag):Sp:=λvs H Q _=>E2 λ(a:Addr)(ns:LI')=>A3 (vs=[.ref a]) (SqL K H a (ns.map V.int)) (∀q k p L S su H',Same H H'->gH H' q k p L S su->kL k p L S su->Q (.ref q) H')
theorem ok_k(T:Txt K mg t):FnOk P w K mg base CX0 2 t.a_k t.d_k pE' (sp_k K):=by
 have G_e:=@ok_e P w K mg base t T;have G_n:=@ok_n P w K mg base t T;have G_b:=@ok_b P w K mg base t T;have G_17:=@ok_17 P w K mg base t T;apply T.F_k.ok sc_k
 ·obtain⟨a,ns,rfl,hS,hQ⟩:=h;have hS':SqB false K H a (ns.map V.int):=hS;refine⟨_,(pM (pZ (i:=1) sc_k.nd rfl (Or.inl rfl) (pU G_e hr.mo T.F_e (pK (pq 0) (pK pR pL))))
   (pM (pZ (i:=2) sc_k.nd rfl (Or.inl rfl) (pO nN (pq 1) pR))
   (pM (jQ (pU G_n hr.mo T.F_n (pK (pq 2) pL)) (lE rfl (nB (oV (i:=3) sc_k.nd rfl (Or.inl rfl)) (nB (oV (i:=4) sc_k.nd rfl (Or.inl rfl)) lD))))
   (pM (pZ (i:=5) sc_k.nd rfl (Or.inr rfl) (oS T.z_len (pS (pq 3))))
   (pM (pZ (i:=6) sc_k.nd rfl (Or.inl rfl) (pO nR pR (pO nN (pO nX (pq 1) pR) (pq 4))))
   (pM (kZ (i:=7) (sc:=pN dC) (N:=N_k) (fr:=[("_law_d",5)]) (te:=(nL (sp_17) [] E0 (pW (tVar 0) (pW (tVar 1) tNil)))) rfl rfl (nofun) rfl sc_k.nd rfl rfl (nofun) (oH (fW sl_B (pq 0) (iB pR) (iB pR))) (λ_ _ _ hE1=>(pU G_17 hr.mo T.F_17 (pK (pv 0) (pK (pv 1) pL)))))
   (pM (kZ (i:=8) (sc:=pN dC) (N:=N_k) (fr:=[]) (te:=(tOp (rI0 λi j=>.int (i-j)) (tOp (rI (λ_ j=>j≠0) λi j=>.int (i.fmod j)) (tOp (rI0 λi j=>.int (i+j)) (tVar 0) (tC (.int 20))) (tC (.int 41))) (tC (.int 20)))) rfl rfl (nofun) rfl sc_k.nd rfl rfl (nofun) (oH (pU G_b hr.mo T.F_b (pK (pU G_e hr.mo T.F_e (pK (pq 0) (pK pR pL))) (pK pR (pK (pq 5) pL))))) (λ_ _ _ hE1=>(pO jE (pO nN (pO nR (pv 0) pR) pR) pR)))
   (pQ (oA (nJ (pK (pq 2) (pK (pq 6) (pK (pq 7) (pK (nJ (pK (pq 8) (pK (pO nR pR (pO nN (pU G_e hr.mo T.F_e (pK (pq 0) (pK pR pL))) pR)) pL))) pL)))))))))))))),?_⟩
  show tSeq _ _ _ [some (.ref a),none,none,none,none,none,none,none,none] H;right;refine⟨a,ns,0,rfl,hS,∅,?_⟩;generalize ns.getD (Int.toNat 0) 0=c;left;refine⟨∅,?_⟩;have fk:=fms c 6 ∅;obtain⟨k,ek⟩:=xG fk.1;rw[ek]at fk ⊢;have hk:k<6:=⋯
  obtain⟨M0,e0,l0,l3⟩:=Jm hk;have hd:=mW k;have d3:famD k<=3:=⋯
  left;refine⟨k,rfl,hk,λq g H1 s1 hq hg=>?_⟩;refine⟨q,_,rfl,SqT.of hq,rfl,?_⟩;simp only[nC,gNil,pY];refine⟨_,_,rfl,_,_,rfl,rfl,?_⟩;left;refine hg.at e0 rfl λm0 hm0=>jJ (hm0.b (K:=K)) ?_;rw[l0];left;have m0:1<=famM k/\famM k<=6:=by rcases(show k=0\/k=1\/k=2\/k=3\/k=4\/k=5 by omega) with e|e|e|e|e|e <;> subst e <;> decide
  refine⟨⟨∅,∅⟩,⋯,?_⟩;have fp:=fms (c.fdiv 6) (famM k) ⋯;obtain⟨p,ep⟩:=xG (show 0<=1+(c.fdiv 6).fmod (famM k) by omega);rw[ep];have hp:1<=p/\p<=famM k:=⋯
  left;refine oG λB0 eB=>?_;simp only[iSeq];ext;refine⟨false,a,_,rfl,hS'.up s1,(by intro e;cases e),λr hr=>?_⟩;rw[eI];have hcs:((ns.drop (HT.sIx ns.length 0 (some 8))).take (HT.sIx ns.length ns.length (some 14)-HT.sIx ns.length 0 (some 8))).length<=6:=by
   rw[yW,show((8:Int))=((8:Nat):Int) from rfl,show((14:Int))=((14:Nat):Int) from rfl,HT.sIx_nat,HT.sIx_nat];omega
  generalize (ns.drop (HT.sIx ns.length 0 (some 8))).take (HT.sIx ns.length ns.length (some 14)-HT.sIx ns.length 0 (some 8))=cs at hcs;have hC:(upd H1 r (seqO false (cs.map V.int))) r=some (.lst (cs.map V.int)):=pV;have s2:Same H1 (upd H1 r (seqO false (cs.map V.int))):=Same.new hr;generalize upd H1 r (seqO false (cs.map V.int))=H2 at hC s2;refine⟨false,r,rfl,⟨_,SqB.lst hC⟩,λa2 ha2=>?_⟩;subst eB;refine Ue rfl hd hC ⋯ ha2 λL H3 s3 hL ok ll=>?_;have s13:=s2.trans s3;have s03:=s1.trans s13;left;refine oG λB1 eB1=>?_;simp only[iSeq];ext;refine⟨a,ns,1,rfl,hS'.up s03,∅,?_⟩;refine⟨_,41,famD k,rfl,∅,∅,⋯,λb H4 ms s4 _ eb lm bm=>?_⟩;refine⟨false,b,rfl,⟨_,SqB.lst eb⟩,λa4 ha4=>?_⟩;refine oT (λj y _=>∃n,ms[j]?=some n/\y=.int ((n+20).fmod 41-20)) ha4 (SqB.lst eb) (by rw[zqe];omega) (λ_ _ _ _ r _=>r) ?_ ?_
  ·intro i x H5 zs ex s5 ez Q' hQ';obtain⟨n,en,rfl⟩:=nQ ex;subst eB1;show tOp _ _ _ [some (.int n)] H5 Q';ext;exact⟨∅,hQ' _ _ (Same.refl _) ⟨n,en,rfl⟩⟩
  ·intro H5 ys s5 e5 hly hr5;have ey:ys=(ms.map λn=>(n+20).fmod 41-20).map V.int:=by
    rw[xV];exact oZ (by simpa using hly) hr5
   subst ey;have s05:=(s03.trans s4).trans s5;symm;refine⟨a,ns,2,rfl,hS'.up s05,∅,?_⟩;generalize ns.getD (Int.toNat 2) 0=z;ext;refine⟨∅,by show 2<=sizeLine;decide,λx1 hx1=>⟨by show 4<=sizeLine;decide,λx2 hx2=>?_⟩⟩;have fz:=fms z 12 ∅;refine hQ x2 k p L (ms.map λn=>(n+20).fmod 41-20) (1+z.fmod 12) _ ((s05.trans (Same.new hx1)).trans (Same.new hx2)) ⟨a2,x1,a4,pV,hL.up (((s4.trans s5).trans (Same.new hx1)).trans (Same.new hx2)),Same.new hx2 _ _ pV,Same.new hx2 _ _ (Same.new hx1 _ _ e5)⟩ ⟨hk,hp.1,hp.2,ok,⋯,by rw[zqe];exact lm,λy hy=>?_,⋯,⋯⟩;obtain⟨n,_,rfl⟩:=qW.mp hy;have:=fms (n+20) 41 ∅;omega
noncomputable def frm(k p:Nat)(L:List Stp)(S:LI')(su:Int):Frm:=⟨k,p,chP (famD k) L.reverse,chQ (famD k) L.reverse,S,su⟩
theorem kL.frm{k p:Nat}{L:List Stp}{S:LI'}{su:Int}(h:kL k p L S su):(Cw.frm k p L S su).Ok:=⟨h.hk,h.p1,h.pm,kK (mW k) λs hs=>h.ok s (pE.mp hs),h.lS,h.s0⟩
def sp_i(K:Frag):Sp:=λvs H Q _=>E9 λ(b:Bool)(c q:Addr)(cs:LI')(k p:Nat)(L:List Stp)(S:LI')(su:Int)=>A6 (vs=[.ref c,.ref q]) (SqB b K H c (cs.map V.int)) (cs.length<=3) (gH H q k p L S su) (kL k p L S su) (∀r ps ms H',Same H H'->H' r=some (.lst (ps.map V.ref))->Paired (DdAt K H') ps ms->(∀m∈ms,mQ (famD k) m/\InF (frm k p L S su) (oB m))->ms.length<=3->Q (.ref r) H')
theorem ok_i(T:Txt K mg t):FnOk P w K mg base CX0 4 t.a_i t.d_i pf' (sp_i K):=by
 have G_r:=@ok_r P w K mg base t T;have G_4:=@ok_4 P w K mg base t T;apply T.F_i.ok sc_i
 ·obtain⟨b,c,q,cs,k,p,L,S,su,rfl,hS,lc,hF,ok,hQ⟩:=h;obtain⟨l,sp,sl,f1,f2,f3,f4⟩:=hF;have F:=iM ok.hk;have hd:=mW k;have m6:famM k<=6:=by have:=ok.hk;rcases(show k=0\/k=1\/k=2\/k=3\/k=4\/k=5 by omega) with e|e|e|e|e|e <;> subst e <;> decide
  have pm:=ok.pm;have p1:=ok.p1;refine⟨_,(pM (jQ (pq 1) (lE rfl (nB (oV (i:=2) sc_i.nd rfl (Or.inl rfl)) (nB (oV (i:=3) sc_i.nd rfl (Or.inl rfl)) (nB (oV (i:=4) sc_i.nd rfl (Or.inl rfl)) (nB (oV (i:=5) sc_i.nd rfl (Or.inl rfl)) lD))))))
   (pM (pZ (i:=6) sc_i.nd rfl (Or.inl rfl) (lG pL))
   (pM (mX yS rfl (oH (pq 0)) (oV (i:=7) sc_i.nd rfl (Or.inl rfl))
   (pM (jQ (pU G_r hr.mo T.F_r (pK (pq 7) (pK (pq 2) (pK (pq 3) pL)))) (lE rfl (nB (oV (i:=8) sc_i.nd rfl (Or.inl rfl)) (nB (oV (i:=9) sc_i.nd rfl (Or.inl rfl)) lD))))
   (pQ (kP (cH vX vN vQ fX (pq 6) (pK (pU G_4 hr.mo T.F_4 (pK (pq 8) (pK (pq 9) (pK (pq 3) (pK (pq 4) (pK (pq 5) pL)))))) pL))))))
   (pQ (oA (pq 6)))))),?_⟩
  show tSeq _ _ _ [some (.ref c),some (.ref q),none,none,none,none,none,none,none,none] H;right;refine⟨q,_,rfl,SqT.of f1,rfl,?_⟩;simp only[nC,gNil,pY];refine⟨_,_,rfl,_,_,rfl,_,_,rfl,_,_,rfl,rfl,?_⟩;left;refine⟨by show 0<=sizeLine;decide,λr hr0=>?_⟩;have s1:Same H (upd H r (.lst [])):=Same.new hr0;have er:(upd H r (.lst [])) r=some (.lst ([]:List V)):=pV;generalize upd H r (.lst [])=H1 at s1 er;subst e1;refine st λN1 e1=>mZ λB eB=>?_;simp only[iSeq];ext;refine⟨b,⟨_,hS.up s1⟩,?_⟩;refine kI (b:=b) (g:=pY 7) (tb:=B) (λi σ H3=>∃(ps:LA)(ms:List Dd)(v7 v8 v9:Option V),σ=[some (.ref c),some (.ref q),some (.int k),some (.int p),some (.ref l),some (.ref sp),some (.ref r),v7,v8,v9]/\Same H H3/\H3 r=some (.lst (ps.map V.ref))/\Paired (λa x=>a≠r/\DdAt K H3 a x) ps ms/\(∀m∈ms,mQ (famD k) m/\InF (frm k p L S su) (oB m))/\ms.length=i) ⟨[],[],none,none,none,rfl,s1,er,.nil,(λ_ h=>by cases h),rfl⟩ (λi σ H3 _⟨_,_,_,_,_,_,s3,_⟩=>hS.up s3) ?_ ?_
  ·rintro i x σ H3 ex ⟨ps,ms,v7,v8,v9,rfl,s3,er3,pr,hm,lm⟩;obtain⟨n,en,rfl⟩:=nQ ex;subst eB;show tSeq _ _ _ [some (.ref c),some (.ref q),some (.int k),some (.int p),some (.ref l),some (.ref sp),some (.ref r),some (.int n),v8,v9] H3;refine st λN2 e2=>?_;ext;refine⟨n,k,p,rfl,ok.hk,p1,⋯,λq' a' b' R ts H4 s4 hq' hA' hb' mR hT bz=>?_⟩;refine⟨q',_,rfl,SqT.of hq',rfl,?_⟩;simp only[nC,gNil,pY];refine⟨_,_,rfl,_,_,rfl,rfl,?_⟩;have s04:=s3.trans s4;subst e2;ext;have er4:=s4 _ _ er3;refine⟨tyL er4,?_⟩;refine⟨a',b',l,sp,sl,R,ts,S,p,su,L,famD k,rfl,hA',hb',f2.up s04,s04 _ _ f3,s04 _ _ f4,F.sq R mR,hd,hT.1,ok.lS,ok.ok,ok.l6,Dw F mR,(λz hz=>by have:=bz z hz;omega),ok.bS,⋯,⋯,ok.s0,ok.s1,λx H5 s5 hx fx=>?_⟩;have er5:=s5 _ _ er4;have xr:x≠r:=λe=>by
    obtain⟨_,_,h1,_⟩:=hx;rw[e,er5]at h1;cases h1
   have s35:=s4.trans s5;have i3:i<3:=by have:=(zqa en).1;omega
   have lp:ps.length=ms.length:=pr.length;refine⟨r,_,_,rfl,rfl,er5,by rw[zqe,lp,lm];exact yL (show i+1<=1000 by omega) ∅,?_⟩;have tk:TK K H5 (upd H5 r (.lst (ps.map V.ref++[.ref x]))):=TK.off er5 (λ_ z=>by cases z) (λ_ _ z=>by cases z) λ_ hc=>oE hc;refine⟨Same.over hr0 (s04.trans s5),ps++[x],by rw[pV,xD];rfl,ms++[_],tY (Paired.mapP pr λa y z=>⟨z.1,(z.2.up s35).tk tk⟩) ⟨xr,DdAt.tk (x:=(_,_,_)) hx tk⟩,λm hm'=>?_,by rw[zX,lm];rfl⟩;rcases pH.mp hm' with h|h
   ·exact hm m h
   ·rw[qV.mp h];exact⟨fx,R,mR,ts,hT,rfl⟩
  ·rintro σ H3 ⟨ps,ms,v7,v8,v9,rfl,s3,er3,pr,hm,lm⟩;symm;exact hQ r ps ms H3 s3 er3 (Paired.mapP pr λ_ _ z=>z.2) hm (by rw[lm,zqe];exact lc)
theorem LeM.le{A B:Nat}{M:LM}(h:LeM A M)(hc:A<=B):LeM B M:=λr hr z hz=>yL (h r hr z hz) hc
theorem kM{d:Nat}:LeM 1 (idM d):=λr hr z hz=>by
 obtain⟨i,_,rfl⟩:=qW.mp hr;obtain⟨j,_,rfl⟩:=qW.mp hz;split <;> decide
theorem Jk{d:Nat}(hd:d=2\/d=3):∀{L:List Stp},(∀s∈L,s.Ok d)->LeM (6^L.length) (chP d L)/\LeM (6^L.length) (chQ d L)
 |[],_=>⟨kM,kM⟩
 | s:: L,h=>by
  obtain⟨h1,h2⟩:=Jk hd (L:=L) λz hz=>h z (zM _ hz);have o:=h s zU;have c:=kK hd (L:=L) λz hz=>h z (zM _ hz);have m2:=o.m2;rw[zY,qJ];have e:d*(2*6^L.length)<=6^L.length*6:=by
   have:d*(2*6^L.length)<=3*(2*6^L.length):=wE _ ⋯;omega
  refine⟨(aE iJ (Ik m2 ∅) h1).le e,?_⟩;have:=aE c.q h2 (Ik (d:=d) (i:=s.i) (j:=s.j) (m:=-s.m) (N:=2) ⋯ ∅);rw[rW (6^L.length) 2]at this;exact this.le e
theorem Jj{k p:Nat}{L:List Stp}{S:LI'}{su:Int}(ok:kL k p L S su){R:LM}(hR:R∈pgL k):nF 40 (cjM (famD k) (chP (famD k) L.reverse) (chQ (famD k) L.reverse) R):=by
 have F:=iM ok.hk;have hd:=mW k;have okR:∀s∈L.reverse,s.Ok (famD k):=λs hs=>ok.ok s (pE.mp hs);have c:=kK hd okR;obtain⟨h1,h2⟩:=Jk hd okR;have l6:6^L.reverse.length<=6^6:=zW ∅ (by rw[List.length_reverse];exact ok.l6);have w:LeM 1 R:=F.wee R hR;have g1:=aE c.p (h1.le l6) w;have g2:=aE (c.p.mul (B:=R)) g1 (h2.le l6);intro r hr z hz;have:=g2 r hr z hz;have e:famD k*(famD k*(6^6*1)*6^6)<=3*(3*(6^6*1)*6^6):=wG ⋯ (wE _ (wE _ ⋯));have e2:3*(3*(6^6*1)*6^6)<2^40:=∅
 omega
theorem gI{k p:Nat}{L:List Stp}{S:LI'}{su:Int}(ok:kL k p L S su){x:Dd}(hx:InF (frm k p L S su) x):mQ (famD k) x/\x.2.2<=72/\(∀z∈x.2.1,0<=z/\z<72)/\oB x=x:=by
 obtain⟨R,hR,t,ht,rfl⟩:=hx;have F:=iM ok.hk;have hd:=mW k;have okR:∀s∈L.reverse,s.Ok (famD k):=λs hs=>ok.ok s (pE.mp hs);have c:=kK hd okR;have m6:famM k<=6:=by have:=ok.hk;rcases(show k=0\/k=1\/k=2\/k=3\/k=4\/k=5 by omega) with e|e|e|e|e|e <;> subst e <;> decide
 have p1:=ok.p1;have pm:=ok.pm;have s0:=ok.s0;have s1:=ok.s1;have hU:0<(p:Int)*su:=yX ⋯ s0;have hU2:(p:Int)*su<=6*12:=tO ⋯ s1 ⋯ ⋯;have lT:(cjT (famD k) (chP (famD k) L.reverse) (chQ (famD k) L.reverse) R (smul su t) (smul p S)).length=famD k:=Cl c (by rw[kD];exact ok.lS);have bC:=Jj ok hR;have sC:=iI c R;show mQ (famD k) (canD (cjM (famD k) (chP (famD k) L.reverse) (chQ (famD k) L.reverse) R) (cjT (famD k) (chP (famD k) L.reverse) (chQ (famD k) L.reverse) R (smul su t) (smul p S)) (p*su))/\_;show _/\(canD (cjM (famD k) (chP (famD k) L.reverse) (chQ (famD k) L.reverse) R) (cjT (famD k) (chP (famD k) L.reverse) (chQ (famD k) L.reverse) R (smul su t) (smul p S)) (p*su)).2.2<=72/\(∀z∈(canD (cjM (famD k) (chP (famD k) L.reverse) (chQ (famD k) L.reverse) R) (cjT (famD k) (chP (famD k) L.reverse) (chQ (famD k) L.reverse) R (smul su t) (smul p S)) (p*su)).2.1,0<=z/\z<72)/\oB (canD (cjM (famD k) (chP (famD k) L.reverse) (chQ (famD k) L.reverse) R) (cjT (famD k) (chP (famD k) L.reverse) (chQ (famD k) L.reverse) R (smul su t) (smul p S)) (p*su))=canD (cjM (famD k) (chP (famD k) L.reverse) (chQ (famD k) L.reverse) R) (cjT (famD k) (chP (famD k) L.reverse) (chQ (famD k) L.reverse) R (smul su t) (smul p S)) (p*su);generalize cjT (famD k) (chP (famD k) L.reverse) (chQ (famD k) L.reverse) R (smul su t) (smul p S)=TT at lT;generalize cjM (famD k) (chP (famD k) L.reverse) (chQ (famD k) L.reverse) R=C at bC sC;obtain⟨_,r2,r3⟩:=dO (ts:=TT) hU;have hz:∀z∈oO (redU (p*su) TT) (redT (p*su) TT),0<=z/\z<redU (p*su) TT:=λz hz=>by
  obtain⟨y,_,rfl⟩:=qW.mp hz;exact fms y _ r2
 refine⟨⟨sC,by show(oO _ (redT _ TT)).length=_;unfold oO redT;rw[zqe,zqe];exact lT,r2,bC.le ∅,λz h=>?_,?_⟩,?_,λz h=>?_,?_⟩
 ·have:=hz z h;exact zE (show z.natAbs<2^7 by omega) (zW ∅ ∅)
 ·show redU (p*su) TT<2^1500;omega
 ·show redU (p*su) TT<=72;omega
 ·have:=hz z h;omega
 ·unfold canD oB oO;show(_,_,_)=(_,_,_);rw[xV];congr 2;refine wX λy _=>?_;exact Int.fmod_fmod _ _
def sp_5(K:Frag):Sp:=λvs H Q _=>E7 λ(c:Int)(q:Addr)(k p:Nat)(L:List Stp)(S:LI')(su:Int)=>A4 (vs=[.int c,.ref q]) (gH H q k p L S su) (kL k p L S su) (∀r H'(TT:LI')(w:Int),Same H H'->oI H' r (redT w TT) (redU w TT)->0<w->w<=144->TT.length=famD k->nA 40 TT->Q (.ref r) H')
theorem ok_5(T:Txt K mg t):FnOk P w K mg base CX0 3 t.a_5 t.d_5 pg' (sp_5 K):=by
 have G_f:=@ok_f P w K mg base t T;have G_b:=@ok_b P w K mg base t T;have G_6:=@ok_6 P w K mg base t T;apply T.F_5.ok sc_5
 ·obtain⟨c,q,k,p,L,S,su,rfl,hF,ok,hQ⟩:=h;obtain⟨l,sp,sl,f1,f2,f3,f4⟩:=hF;have hd:=mW k;have d3:famD k<=3:=⋯
  have m6:famM k<=6:=by have:=ok.hk;rcases(show k=0\/k=1\/k=2\/k=3\/k=4\/k=5 by omega) with e|e|e|e|e|e <;> subst e <;> decide
  have pm:=ok.pm;have p1:=ok.p1;have lS:=ok.lS;refine⟨_,(pM (jQ (pq 1) (lE rfl (nB (oV (i:=2) sc_5.nd rfl (Or.inl rfl)) (nB (oV (i:=3) sc_5.nd rfl (Or.inr rfl)) (nB (oV (i:=4) sc_5.nd rfl (Or.inl rfl)) (nB (oV (i:=5) sc_5.nd rfl (Or.inr rfl)) lD))))))
   (pM (pZ (i:=6) sc_5.nd rfl (Or.inl rfl) (oS T.z_len (pS (pq 5))))
   (pM (oU (oR mS (pO nN (pq 0) pR) pR (oP _))
   (pQ (oA (pU G_f hr.mo T.F_f (pK (oX (sc:=pN s_5) (N:=N_5) (fr:=[("_law_cell",0)]) (te:=(tOp (rI0 λi j=>.int (i-j)) (tOp (rI (λ_ j=>j≠0) λi j=>.int (i.fmod j)) (tOp (rI0 λi j=>.int (i+j)) (tOp (rI lH λi j=>.int (i.fdiv j)) (tVar 1) (tOp (rI0 λi j=>.int (i+j)) (tC (.int 4)) (tOp (rI (λi j=>IntMulOk i j) λi j=>.int (i*j)) (tC (.int 90)) (tVar 0)))) (tC (.int 1000))) (tC (.int 2001))) (tC (.int 1000)))) rfl rfl (nofun) rfl (nofun) (nW rfl T.z_range (pK (pq 6) pL)) (λ_ _ _ hE1=>(pO jE (pO nN (pO nR (pO nX (pv 1) (pO nR pR (pO oW pR (pv 0)))) pR) pR) pR))) (pK (pO nR pR (pO nN (pO nX (pq 0) pR) pR)) pL)))))
   oY)
   (pM (pZ (i:=7) sc_5.nd rfl (Or.inl rfl) (pU G_b hr.mo T.F_b (pK (pO nX (pq 0) pR) (pK (pO oW pR (pq 3)) (pK (pq 6) pL)))))
   (pM (oU (oR mS (pO nN (pq 0) pR) pR (oP _))
   (pQ (kZ (i:=7) (sc:=pN s_5) (N:=N_5) (fr:=[]) (te:=(tC (.int 0))) rfl rfl (nofun) rfl sc_5.nd rfl rfl (nofun) (nW rfl T.z_range (pK (pq 6) pL)) (λ_ _ _ hE1=>pR)))
   oY)
   (pM (pZ (i:=8) sc_5.nd rfl (Or.inr rfl) (pU G_6 hr.mo T.F_6 (pK (pq 7) (pK (pq 4) pL))))
   (pQ (oA (pU G_f hr.mo T.F_f (pK (oX (sc:=pN s_5) (N:=N_5) (fr:=[("_law_parts",3),("_law_spot",5),("_law_tops",8)]) (te:=(tOp (rI0 λi j=>.int (i+j)) (tOp (rI (λi j=>IntMulOk i j) λi j=>.int (i*j)) (tOp (rIxB K) (tVar 3) (tVar 0)) (tOp (rIxB K) (tVar 2) (tC (.int 1)))) (tOp (rI (λi j=>IntMulOk i j) λi j=>.int (i*j)) (tOp (rI (λi j=>IntMulOk i j) λi j=>.int (i*j)) (tOp (rIxB K) (tOp (rIxB K) (tVar 2) (tC (.int 0))) (tVar 0)) (tC (.int 2))) (tVar 1)))) rfl rfl (nofun) rfl (nofun) (nW rfl T.z_range (pK (pq 6) pL)) (λ_ _ _ hE1=>(pO nR (pO oW (nD ix_B (pv 3) (pv 0) (λ_ _=>rfl)) (pS (pv 2))) (pO oW (pO oW (nD ix_B (pS (pv 2)) (pv 0) (λ_ _=>rfl)) pR) (pv 1))))) (pK (pO oW (pO oW pR (pq 3)) (pS (pq 5))) pL))))))))))),?_⟩
  show tSeq _ _ _ [some (.int c),some (.ref q),none,none,none,none,none,none,none] H;have dv:∀x y:Int,y≠0->y.natAbs<1073741824->lH x y:=λx y h1 h2=>⟨h1,zE ((tU ⋯).mpr (show y.natAbs<2^30 from h2)) ∅⟩;right;refine⟨q,_,rfl,SqT.of f1,rfl,?_⟩;simp only[nC,gNil,pY];refine⟨_,_,rfl,_,_,rfl,_,_,rfl,_,_,rfl,rfl,?_⟩;left;refine⟨true,sp,_,_,_,rfl,rfl,SqB.tup f3,rfl,?_⟩;refine nU (SqB.lst f4) ?_;rw[lS];left;refine⟨∅,ite2 (λh=>?_) λh=>?_⟩
  ·refine oG λB eB=>?_;simp only[nI];ext;refine⟨⋯,⋯,λa1 ha1=>?_⟩;rw[zS];refine mG (λj y _=>∃n,((List.range (famD k)).map λj:Nat=>(c.fdiv (4+90*(j:Int))+1000).fmod 2001-1000)[j]?=some n/\y=.int n) ha1 ⋯ (λ_ _ _ _ r _=>r) ?_ ?_
   ·intro j H2 zs hj s2 ez Q2 hQ2;subst eB;show tOp _ _ _ [some (.int (0+(j:Int))),some (.int c)] H2 Q2;ext;rw[qL];refine⟨xZ ∅,dv _ _ ⋯ ⋯,∅,hQ2 _ _ (Same.refl _) ⟨_,by rw[zC,yO hj];rfl,rfl⟩⟩
   ·intro H2 ys s2 e2 hly hr2;have ey:ys=((List.range (famD k)).map λj:Nat=>(c.fdiv (4+90*(j:Int))+1000).fmod 2001-1000).map V.int:=oZ (by rw[hly];simp) hr2;subst ey;have f8:=fms (c.fdiv 8) 97 ∅;refine⟨dv _ _ ∅ ∅,∅,false,a1,_,_,rfl,SqB.lst e2,by simp;omega,⋯,lR (B:=20) (by have:(2:Nat)^20=1048576:=rfl;omega) ∅,λr H3 s3 hr=>hQ r H3 _ _ (s2.trans s3) hr ⋯ ⋯ (by simp) λz hz=>?_⟩;obtain⟨j,_,rfl⟩:=qW.mp hz;have:=fms (c.fdiv (4+90*(j:Int))+1000) 2001 ∅;have e:(2:Nat)^40=1099511627776:=rfl;omega
  ·left;refine⟨dv _ _ ∅ ∅,xZ ∅,?_⟩;refine⟨_,2*(p:Int),famD k,rfl,⋯,⋯,⋯,λb H1 ms s1 hb0 eb lm bm=>?_⟩;subst e1;refine st λN1 e1=>?_;have go:∀(b:Addr)(ms:LI') H2,Same H H2->H2 b=some (.lst (ms.map V.int))->ms.length=famD k->(∀z∈ms,0<=z/\z<2*(p:Int))->N1 [some (.int c),some (.ref q),some (.int k),some (.int p),some (.ref l),some (.ref sp),some (.int (famD k)),some (.ref b),none] H2:=by
    intro b ms H2 s2 eb lm bm;left;refine⟨false,b,l,ms,L,famD k,5,rfl,SqB.lst eb,f2.up s2,lm,hd,ok.ok,by have:=ok.l6;omega,(λz hz=>by have:=bm z hz;have e:(2:Nat)^5=32:=rfl;omega),∅,λb1 H3 s3 _ hb1 bb=>?_⟩;have c0:=kK hd (L:=L.reverse) λs hs=>ok.ok s (pE.mp hs);have lt:(mv (chP (famD k) L.reverse) ms).length=famD k:=mB c0.p;replace bb:nA 17 (mv (chP (famD k) L.reverse) ms):=bb.le (by have:=ok.l6;omega);generalize mv (chP (famD k) L.reverse) ms=mt at hb1 bb lt;have s03:=s2.trans s3;symm;refine oG λB eB=>?_;simp only[nI];ext;refine⟨⋯,⋯,λa1 ha1=>?_⟩;rw[zS];have s0:=ok.s0;have s1':=ok.s1;refine mG (λj y _=>∃n,((List.range (famD k)).map λj:Nat=>mt.getD j 0*su+S.getD j 0*2*p)[j]?=some n/\y=.int n) ha1 ⋯ (λ_ _ _ _ r _=>r) ?_ ?_
    ·intro j H4 zs hj s4 ez Q2 hQ2;have s04:=s03.trans s4;subst eB;show tOp _ _ _ [some (.int (0+(j:Int))),some (.int p),some (.ref sp),some (.ref b1)] H4 Q2;ext;refine⟨false,b1,_,_,_,rfl,rfl,SqB.lst (s4 _ _ hb1),nY (mU (getD_at (k:=j) ⋯)) ⋯,?_⟩;refine⟨true,sp,_,_,_,rfl,rfl,SqB.tup (s04 _ _ f3),rfl,?_⟩
     try ext
     refine⟨wJ (wO ⋯ ⋯),?_⟩;refine⟨true,sp,_,_,_,rfl,rfl,SqB.tup (s04 _ _ f3),rfl,?_⟩;refine⟨false,sl,_,_,_,rfl,rfl,SqB.lst (s04 _ _ f4),nY (mU (getD_at (k:=j) ⋯)) ⋯,?_⟩
     try ext
     refine⟨wJ ∅,wJ (wO ⋯ ⋯),?_⟩;exact hQ2 _ _ (Same.refl _) ⟨_,by rw[zC,yO hj];rfl,rfl⟩
    ·intro H4 ys s4 e4 hly hr4;have ey:ys=((List.range (famD k)).map λj:Nat=>mt.getD j 0*su+S.getD j 0*2*p).map V.int:=oZ (by rw[hly];simp) hr4;subst ey;have s04:=s03.trans s4;refine⟨xZ ∅,?_⟩;refine⟨true,sp,_,_,_,rfl,rfl,SqB.tup (s04 _ _ f3),rfl,?_⟩
     try ext
     have hw0:0<2*(p:Int)*su:=yX ⋯ s0;have hw1:2*(p:Int)*su<=12*12:=tO ⋯ s1' ⋯ ⋯;refine⟨wJ (wO ⋯ ⋯),?_⟩;refine⟨false,a1,_,_,rfl,SqB.lst e4,by simp;omega,hw0,lR (B:=20) (by have:(2:Nat)^20=1048576:=rfl;omega) ∅,λr H5 s5 hr=>hQ r H5 _ _ (s04.trans s5) hr hw0 ⋯ (by simp) λz hz=>?_⟩;obtain⟨j,hj,rfl⟩:=qW.mp hz;have hjd:=pC.mp hj;have b1':=bb _ (L2.getD_mem (show j<mt.length by omega));have b2':=ok.bS _ (L2.getD_mem (show j<S.length by omega));have g1:(mt.getD j 0*su).natAbs<=2^17*12:=by rw[xA];exact wG (xR b1') ⋯
     have g2:(S.getD j 0*2*p).natAbs<=2^5*2*6:=by rw[xA,xA];exact wG (wG (xR b2') ∅) ⋯
     have e:(2:Nat)^40=1099511627776:=rfl;omega
   ext;refine⟨∅,ite2 (λ_=>?_) λ_=>go b ms H1 s1 eb lm bm⟩;refine oG λB eB=>?_;simp only[nI];ext;refine⟨⋯,⋯,λa1 ha1=>?_⟩;rw[zS];refine mG (λj y _=>∃n,(List.replicate (famD k) (0:Int))[j]?=some n/\y=.int n) ha1 ⋯ (λ_ _ _ _ r _=>r) ?_ ?_
   ·intro j H4 zs hj s4 ez Q2 hQ2;subst eB;show tC _ [some (.int (0+(j:Int)))] H4 Q2;ext;exact hQ2 _ _ (Same.refl _) ⟨0,by rw[vW,zJ hj],rfl⟩
   ·intro H4 ys s4 e4 hly hr4;have ey:ys=(List.replicate (famD k) (0:Int)).map V.int:=oZ (by rw[hly];simp) hr4;subst ey;exact go a1 _ H4 (s1.trans s4) e4 (by simp) λz hz=>by
     rw[(List.mem_replicate.mp hz).2];omega
section
variable {tt:TOx} {fr:List (Str×Nat)} {σ:St} {a:Addr} {H:Hp} {Q:VK}
theorem Ud{b:Bool}{l:Addr}{xs:List V}(P:Nat->List V->Hp->Prop)(ha:H a=none)(hS:SqB b K H l xs)(hz:xs.length<=1000)(h0:P 0 [] (upd H a (.lst [])))
  (hl:∀i zs H1,P i zs H1->zs.length<=i)(mono:∀i zs H1 H2,P i zs H1->kA a H1 H2->P i zs H2)
  (he:∀i x H1 zs,xs[i]?=some x->Same H H1->H1 a=some (.lst zs)->P i zs H1->∀C:Option V->Hp->Prop,
   (∀y H2,Same H1 H2->P (i+1) (zs++[y]) H2->C (some y) H2)->(∀H2,Same H1 H2->P (i+1) zs H2->C none H2)->tt (some x:: mE fr σ) H1 C)
  (hd:∀H1 ys,Same H H1->H1 a=some (.lst ys)->P xs.length ys H1->Q (.ref a) H1):mT (Its K b l) (pY 0) tt 1 fr σ a H Q:=by
 refine cO xs.length P ha hz h0 hl mono (λi H1 hi s=>Its.go (hS.up s) (x:=xs[i]) (by simp[hi])) (λH1 s=>Its.stop (hS.up s) (zG _)) ?_ hd;intro i H1 zs hi s1 ez p ys x H3 hys hy C hC1 hC2;obtain⟨e1,e2⟩:=Its.yld (hS.up s1) hy;subst e1
 match ys,hys with
 |[o],_=>exact⟨⟨[some x],rfl,rfl⟩,he i x H3 zs e2 s1 ez p C hC1 hC2⟩
end
theorem Uc{fr:List (Str×Nat)}{σ:St}{a:Addr}{H:Hp}{Q:VK}{b:Bool}{l:Addr}{ns:LI'}(ha:H a=none)(hS:SqB b K H l (ns.map V.int))(hz:ns.length<=1000)
  (hd:∀H1,Same H H1->H1 a=some (.lst [])->Q (.ref a) H1):mT (Its K b l) (pY 0) (jS (tNot (tB (nL sp_v [] E0 (pW (tVar 0) tNil)))) (tVar 0)) 1 fr σ a H Q:=by
 refine Ud (λ_ zs _=>zs=[]) ha hS (by rw[zqe];exact hz) rfl (λi zs H1 p=>by rw[p];exact yU _) (λ_ _ _ _ r _=>r) ?_ (λH1 ys s1 e p=>hd H1 s1 (by rw[e,p]));intro i x H1 zs ex s1 ez p C hC1 hC2;obtain⟨n,en,rfl⟩:=nQ ex;simp only[jS];ext;exact⟨n,rfl,_,rfl,iteF (hC2 H1 (Same.refl _) p)⟩
def sp_m(K:Frag):Sp:=λvs H Q _=>E2 λ(p:Addr)(ns:LI')=>A4 (vs=[.ref p]) (SqT K H p (ns.map V.int)) (ns.length<=100) (∀H',Same H H'->Q (.bl true) H')
theorem ok_m(T:Txt K mg t):FnOk P w K mg base CX0 2 t.a_m t.d_m pL' (sp_m K):=by
 have G_v:=@ok_v P w K mg base t T;apply T.F_m.ok sc_m
 ·have hu:=hr.units;obtain⟨p,ns,rfl,hP,hl,hQ⟩:=h;have isT:∀(a:Addr)(xs:List V)(Q':VK)(H:Hp),SqT K H a xs->Q' (.bl true) H->rIsi K [.ref a,.ty "tuple"] H Q':=λa xs Q' H h1 h2=>⟨_,_,_,_,rfl,.tupS h1,rfl,T.h_f,h2⟩;refine⟨_,(pM (oU (jY (kF (mJ cJ rfl T.z_isinstance (nofun) (pK (pq 0) (pK (dZ (v:=.ty "tuple") rfl T.z_tuple (nofun) rfl) pL)))))
   (pQ (oA kO))
   oY)
   (pQ (oA (jZ (Ed hu) (lY (xs:=["_law_number"]) (fr:=[]) (g:=(pY 0)) (tt:=(jS (tNot (tB (nL (sp_v) [] E0 (pW (tVar 0) tNil)))) (tVar 0))) (mF (sc:=pN bW) (N:=N_m) rfl rfl (nofun)) rfl (oH (pq 0)) (λ_ _ _ hE1=>(lZ (N:=["_law_number"]) (i:=0) hE1 rfl (nofun))) (λ_ _ _ hE1=>(Fx (jY (kF (pU G_v hr.mo T.F_v (pK (pv 0) pL)))) (pv 0)))) (lG pL) (oP _))))),?_⟩
  show tSeq _ _ _ [some (.ref p)] H;right;refine isT p _ _ _ hP ?_;ext
  try refine iteF ?_
  symm;refine Fo λC B eC eB=>?_;simp only[iSeq];ext;refine⟨true,⟨_,(hP:SqB true K H p _)⟩,λa1 ha1=>?_⟩;subst eC;subst eB;refine Uc ha1 (hP:SqB true K H p _) ⋯ λH1 s1 e1=>?_;refine⟨∅,λp2 hp2=>?_⟩;have s2:Same H1 (upd H1 p2 (.lst [])):=Same.new hp2;exact Fq 1 ∅ (Dt.intsB (b:=false) (ns:=[]) (SqB.lst (s2 _ _ e1))) (Dt.intsB (b:=false) (ns:=[]) (SqB.lst pV)) (Aj _ _ _) (Aj _ _ _) (b:=true) (by simp) (hQ _ (s1.trans s2))
noncomputable def plD(ns:LI')(u:Int):PyData:=seqD true [kY true ns,.int u]
theorem PlS.dt{H:Hp}{p:Addr}{ns:LI'}{u:Int}(h:PlS K H p ns u):Dt K H (.ref p) (plD ns u):=let ⟨_,h1,h2⟩:=h;Dt.seqB (b:=true) h1 (.cons (Dt.intsB (b:=true) h2) (.cons (.int u) .nil))
theorem aN(ns:LI')(u:Int):iT 3 (plD ns u)=true:=by
 have:=Aj true 1 ns;simp[plD,seqD,iT,this]
theorem kE{u:Int}{ns:LI'}(h0:0<u)(g:gl u ns=1):redT u ns=ns/\redU u ns=u:=by
 unfold redT redU;rw[Hw h0 g];refine⟨?_,uZ u⟩
 conv=>rhs;rw[←rF ns]
 exact wX λt _=>uZ t
structure MbOk(d:Nat)(x:Dd):Prop where
 sq:Sq d x.1
 len:x.2.1.length=d
 pos:0<x.2.2
 le:x.2.2<=72
 bm:nF 40 x.1
 bt:∀z∈x.2.1,0<=z/\z<72
 low:gl x.2.2 x.2.1=1
 rest:oB x=x
structure SpOk(d:Nat)(σ:SP'):Prop where
 len:σ.1.length=d
 bits:nA 60 σ.1
 pos:0<σ.2
 le:σ.2<=288
 low:gl σ.2 σ.1=1
structure SpW(d:Nat)(σ:SP'):Prop where
 len:σ.1.length=d
 bits:nA 125 σ.1
 pos:0<σ.2
 le:σ.2<=72*288
 low:gl σ.2 σ.1=1
theorem SpOk.wid{d:Nat}{σ:SP'}(h:SpOk d σ):SpW d σ:=⟨h.len,h.bits.le ∅,h.pos,qH h.le ∅,h.low⟩
theorem Ji{k p:Nat}{L:List Stp}{S:LI'}{su:Int}(ok:kL k p L S su){x:Dd}(hx:InF (frm k p L S su) x):MbOk (famD k) x:=by
 obtain⟨f,h1,h2,h3⟩:=gI ok hx;obtain⟨M,ts,U,sM,lt,hU,e⟩:=dR ok.frm hx;have lw:gl x.2.2 x.2.1=1:=by
  rw[e];show gl (redU U ts) ((redT U ts).map λt=>t.fmod (redU U ts))=1;rw[Rk];exact Cu ⋯
 obtain⟨R,hR,t,ht,rfl⟩:=hx;exact⟨f.sq,f.len,f.pos,h1,Jj ok hR,h2,lw,h3⟩
theorem MbOk.fine{d:Nat}{x:Dd}(h:MbOk d x):mQ d x:=⟨h.sq,h.len,h.pos,h.bm.le ∅,λz hz=>by
 have:=h.bt z hz;exact zE (show z.natAbs<2^7 by omega) (zW ∅ ∅),by have:=h.le;omega⟩
noncomputable def mvT(σ:SP')(x:Dd):LI':=redT (x.2.2*σ.2) (movT x.1 x.2.1 x.2.2 σ.1 σ.2)
noncomputable def mvU(σ:SP')(x:Dd):Int:=redU (x.2.2*σ.2) (movT x.1 x.2.1 x.2.2 σ.1 σ.2)
theorem Jh{u:Int}{ts:LI'}:(redT u ts).length=ts.length:=by unfold redT;rw[zqe]
structure MvOk(d:Nat)(σ:SP')(x:Dd):Prop where
 len:(mvT σ x).length=d
 pos:0<mvU σ x
 le:mvU σ x<=72*288
 low:gl (mvU σ x) (mvT σ x)=1
 bits:nA 120 (mvT σ x)
theorem aO{α β γ:Type}{f:α->β->γ}{as:List α}{bs:List β}{z:γ}(h:z∈List.zipWith f as bs):∃(i:Nat)(a:α)(b:β),as[i]?=some a/\bs[i]?=some b/\z=f a b:=by
 obtain⟨i,hi⟩:=wF h;rw[yK]at hi;cases ha:as[i]? with
 |none=>rw[ha]at hi;cases hi
 | some a =>
  cases hb:bs[i]? with
  |none=>rw[ha,hb]at hi;cases hi
  |some b =>
   rw[ha,hb]at hi;exact⟨i,a,b,ha,hb,(zR hi).symm⟩
theorem jW{α β γ:Type}{f:α->β->γ}{as:List α}{bs:List β}{i:Nat}{a:α}{b:β}(ha:as[i]?=some a)(hb:bs[i]?=some b):(List.zipWith f as bs)[i]?=some (f a b):=by rw[yK,ha,hb]
theorem mI{α:Type}{l:List α}{i d:Nat}(h:l.length=d)(hi:i<d):∃a,l[i]?=some a:=⟨_,zqd ⋯⟩
theorem aP{α:Type}{l:List α}{i d:Nat}{a:α}(h:l.length=d)(e:l[i]?=some a):i<d:=by
 have:=(zqa e).1;omega
theorem Dv{d:Nat}{l l':LI'}(h1:l.length=d)(h2:l'.length=d)(h:∀(i:Nat) a b,l[i]?=some a->l'[i]?=some b->a=b):l=l':=by
 refine xM ⋯ λi a b=>h i _ _ (zqd a) (zqd b)
theorem nab2{a b:Int}{A B C:Nat}(ha:a.natAbs<A)(hb:b.natAbs<B)(h:A+B<=C):(a+b).natAbs<C:=zE (yG (uJ a b) (Nat.add_lt_add ha hb)) h
theorem nabm{a b:Int}{A B:Nat}(ha:a.natAbs<A)(hb:b.natAbs<B):(a*b).natAbs<A*B:=by rw[xA];exact sF ha hb
theorem aQ{a:Int}{A:Nat}(h0:0<a)(h:a<=A){B:Nat}(hB:A<B):a.natAbs<B:=by
 refine yG ?_ hB;omega
theorem iN{d:Nat}(hd:d=2\/d=3){σ:SP'}{x:Dd}(hσ:SpOk d σ)(hx:MbOk d x):MvOk d σ x:=by
 have h0:0<x.2.2*σ.2:=yX hx.pos hσ.pos;obtain⟨r1,r2,r3⟩:=dO (ts:=movT x.1 x.2.1 x.2.2 σ.1 σ.2) h0;have m1:x.2.2*σ.2<=72*288:=tO hx.le hσ.le (vC hσ.pos) ∅;refine⟨by unfold mvT;rw[Jh];exact aK hx.sq hx.len,r2,qH r3 m1,Cu ⋯,λz hz=>?_⟩;obtain⟨t,ht,hl⟩:=r1 z hz;refine yG hl ?_;obtain⟨i,r,t,er,et,rfl⟩:=aO ht;have h1:=Cc (hx.bm _ (zqb er)) hσ.bits (by rw[hx.sq.2 _ (zqb er)];omega);have h2:=hx.bt _ (zqb et);have h3:t.natAbs<2^7:=⋯
 exact nab2 (nabm h1 (aQ hx.pos hx.le (∅:72<2^7))) (nabm h3 (aQ hσ.pos hσ.le (∅:288<2^9))) ∅
theorem Jg{u v:Int}{ms:LI'}(hv:0<v)(g:gl u ms=1)(h:∀m∈ms,u∣m*v):u∣v:=by
 have:=(jU (d:=u) (u:=u*v) (ns:=ms.map (·*v))).mpr ⟨Int.dvd_mul_right u v,λt ht=>by obtain⟨m,hm,rfl⟩:=qW.mp ht;exact h m hm⟩;rw[Ir hv,g,uB]at this;exact this
noncomputable def gapT(v:Int)(ns ms:LI'):LI':=List.zipWith (λn m=>(n-m).fdiv v) ns ms
theorem Jf{v:Int}{ns ms:LI'}(hv:0<v)(e:oO v ms=oO v ns){i:Nat}{n m:Int}(en:ns[i]?=some n)(em:ms[i]?=some m):v*(n-m).fdiv v=n-m:=by
 have h:=wC (λl=>l[i]?) e;unfold oO at h;simp only[List.getElem?_map,en,em,Option.map_some,Option.some.injEq]at h;have h1:=rV m v;have h2:=rV n v;have:v∣n-m:=⟨n.fdiv v-m.fdiv v,by rw[qO];omega⟩;rw[wR];exact jB ⋯ this
theorem Ub{ns ms:LI'}{v U:Int}(hl:ns.length=ms.length)(hv:0<v)(hU:0<U)(g1:gl v ns=1)(g2:gl U ms=1)(h:redU (v*U) (sumT ns v (ms.map (-·)) U)=1):U=v/\oO v ms=oO v ns:=by
 obtain⟨c,hc,e1,e2,_⟩:=aG (ts:=sumT ns v (ms.map (-·)) U) (yX hv hU);rw[h,uE]at e2;subst e2;have at':∀(i:Nat) n m,ns[i]?=some n->ms[i]?=some m->∃k,n*U-m*v=v*U*k:=λi n m en em=>by
  have h1:(sumT ns v (ms.map (-·)) U)[i]?=some (n*U+-m*v):=by unfold sumT;rw[yK,en,zC,em];rfl
  rw[e1]at h1;unfold smul at h1;rw[zC]at h1;cases hk:(redT (v*U) (sumT ns v (ms.map (-·)) U))[i]? with
  |none=>rw[hk]at h1;cases h1
  |some k =>
   rw[hk]at h1;have:=zR h1;dsimp only at this;exact⟨k,by rw[this,qM];omega⟩
 have dU:U∣v:=Jg hv g2 λm hm=>by
  obtain⟨i,hi,rfl⟩:=xT hm;obtain⟨k,e⟩:=at' i _ _ (zqd ⋯) (zqd hi);generalize ns[i]'⋯=n at e;exact⟨n-v*k,by grind⟩
 have dv:v∣U:=Jg hU g1 λn hn=>by
  obtain⟨i,hi,rfl⟩:=xT hn;obtain⟨k,e⟩:=at' i _ _ (zqd hi) (zqd ⋯);generalize ms[i]'⋯=m at e;exact⟨m+U*k,by grind⟩
 have e:U=v:=Int.dvd_antisymm ⋯ ⋯ dU dv;subst e;refine⟨rfl,?_⟩;refine Dv (d:=ns.length) (by unfold oO;rw[zqe,hl]) (by unfold oO;rw[zqe]) λi a b ea eb=>?_;unfold oO at ea eb;rw[zC]at ea eb;cases em:ms[i]? with
 |none=>rw[em]at ea;cases ea
 | some m =>
  cases en:ns[i]? with
  |none=>rw[en]at eb;cases eb
  |some n =>
   rw[em]at ea;rw[en]at eb;cases ea;cases eb;obtain⟨k,e⟩:=at' i n m en em;refine Co hv ⟨-k,?_⟩;have:U*(n-m)=U*(U*k):=by grind
   have:=Int.eq_of_mul_eq_mul_left ⋯ this;grind
theorem Ua{ns ms:LI'}{v:Int}(hl:ns.length=ms.length)(hv:0<v)(e:oO v ms=oO v ns):redU (v*v) (sumT ns v (ms.map (-·)) v)=1/\redT (v*v) (sumT ns v (ms.map (-·)) v)=gapT v ns ms:=by
 have es:sumT ns v (ms.map (-·)) v=smul (v*v) (gapT v ns ms):=by
  have l1:(sumT ns v (ms.map (-·)) v).length=ns.length:=by unfold sumT;rw[yH,zqe,←hl,wT]
  refine Dv l1 (by rw[kD];unfold gapT;rw[yH,←hl,wT]) λi a b ea eb=>?_;have hi:=aP l1 ea;obtain⟨n,en⟩:=mI (l:=ns) rfl hi;obtain⟨m,em⟩:=mI hl.symm hi;have k1:(sumT ns v (ms.map (-·)) v)[i]?=some (n*v+-m*v):=jW en (by rw[zC,em];rfl);have k2:(smul (v*v) (gapT v ns ms))[i]?=some (v*v*(n-m).fdiv v):=by
   unfold smul;rw[zC,show(gapT v ns ms)[i]?=some ((n-m).fdiv v) from jW en em];rfl
  rw[k1]at ea;rw[k2]at eb;cases ea;cases eb;have:=Jf hv e en em;grind
 have r:=Ci (U:=1) (k:=v*v) (ts:=gapT v ns ms) ∅ (yX hv hv);rw[uE]at r;obtain⟨a,b⟩:=kE (u:=1) (ns:=gapT v ns ms) ∅ (iH _);rw[es,r.1,r.2,a,b];exact⟨rfl,rfl⟩
noncomputable def exD(σ ω:SP')(x:Dd):Dd:=(x.1,List.zipWith (λt g=>t+g*x.2.2) x.2.1 (gapT ω.2 ω.1 (mvT σ x)),x.2.2)
def Kp(σ ω:SP')(x:Dd):Prop:=mvU σ x=ω.2/\oO ω.2 (mvT σ x)=oO ω.2 ω.1
instance{σ ω:SP'}{x:Dd}:Decidable (Kp σ ω x):=inferInstanceAs (Decidable (_/\_))
theorem Du{d:Nat}{v:Int}{ns ms:LI'}(h1:ns.length=d)(h2:ms.length=d):(gapT v ns ms).length=d:=by unfold gapT;rw[yH,h1,h2,wT]
section
variable {d:Nat} {σ ω:SP'} {x:Dd}
theorem Ds(hd:d=2\/d=3)(hσ:SpOk d σ)(hω:SpW d ω)(hx:MbOk d x):Cong x.2.2 (exD σ ω x).2.1 x.2.1:=by
 have g:=Du (v:=ω.2) hω.len (iN hd hσ hx).len;have lx:=hx.len;refine⟨by show(List.zipWith _ _ _).length=_;rw[yH,g,lx,wT],λi a b ea eb=>?_⟩;have ea':(List.zipWith (λt g=>t+g*x.2.2) x.2.1 (gapT ω.2 ω.1 (mvT σ x)))[i]?=some a:=ea;have hi:=(zqa eb).1;rw[yK,eb,zqd (show i<(gapT ω.2 ω.1 (mvT σ x)).length by omega)]at ea';have:=zR ea';exact⟨(gapT ω.2 ω.1 (mvT σ x))[i]'⋯,by rw[←this,wR];omega⟩
theorem Je(hd:d=2\/d=3)(hσ:SpOk d σ)(hω:SpW d ω)(hx:MbOk d x):(exD σ ω x).2.1.length=d:=(Ds hd hσ hω hx).1.trans hx.len
theorem Jd(hd:d=2\/d=3)(hσ:SpOk d σ)(hω:SpW d ω)(hx:MbOk d x):gl x.2.2 (exD σ ω x).2.1=1:=(Ds hd hσ hω hx).gl.trans hx.low
theorem Vz(hd:d=2\/d=3)(hσ:SpOk d σ)(hω:SpW d ω)(hx:MbOk d x):oB (exD σ ω x)=x:=by
 have h:=(Ds hd hσ hω hx).rest_eq hx.pos;have r:=hx.rest;show(x.1,oO x.2.2 (exD σ ω x).2.1,x.2.2)=x;rw[h];exact r
theorem Jc{n m v:Int}(hv:0<v)(b1:n.natAbs<2^125)(b2:m.natAbs<2^120):((n-m).fdiv v).natAbs<2^126:=by
 rw[Int.fdiv_eq_ediv_of_nonneg _ (vC hv)];refine yG (Int.natAbs_ediv_le_natAbs _ _) ?_;rw[Int.sub_eq_add_neg];exact nab2 b1 (by rw[qF];exact b2) ∅
theorem Vy(hd:d=2\/d=3)(hσ:SpOk d σ)(hω:SpW d ω)(hx:MbOk d x):nA 140 (exD σ ω x).2.1:=λz hz=>by
 have mo:=iN hd hσ hx;obtain⟨i,t,g,et,eg,rfl⟩:=aO (show z∈List.zipWith _ _ _ from hz);have hi:=aP hx.len et;obtain⟨n,en⟩:=mI hω.len hi;obtain⟨m,em⟩:=mI mo.len hi;have eg2:(gapT ω.2 ω.1 (mvT σ x))[i]?=some ((n-m).fdiv ω.2):=jW en em;rw[eg2]at eg;cases eg;have b1:=hω.bits _ (zqb en);have b2:=mo.bits _ (zqb em);have b3:=hx.bt _ (zqb et);have q2:((n-m).fdiv ω.2).natAbs<2^126:=Jc hω.pos b1 b2;have h3:t.natAbs<2^7:=⋯
 exact nab2 h3 (nabm q2 (aQ hx.pos hx.le (∅:72<2^7))) ∅
theorem Vx(hd:d=2\/d=3)(hσ:SpOk d σ)(hω:SpW d ω)(hx:MbOk d x)(k:Kp σ ω x):mvT σ (exD σ ω x)=ω.1/\mvU σ (exD σ ω x)=ω.2:=by
 have mo:=iN hd hσ hx;obtain⟨k1,k2⟩:=k;have h0:0<x.2.2*σ.2:=yX hx.pos hσ.pos;obtain⟨c,hc,e1,e2,_⟩:=aG (ts:=movT x.1 x.2.1 x.2.2 σ.1 σ.2) h0;have e2':x.2.2*σ.2=c*mvU σ x:=e2;rw[k1]at e2';have e1':movT x.1 x.2.1 x.2.2 σ.1 σ.2=smul c (mvT σ x):=e1;have key:movT x.1 (exD σ ω x).2.1 x.2.2 σ.1 σ.2=smul c ω.1:=by
  have l1:=Je hd hσ hω hx;have sl:=hx.sq.1;have ls:=hω.len;have lx:=hx.len;refine Dv (aK hx.sq l1) (by rw[kD,ls]) λi a b ea eb=>?_;have hi:=aP (aK hx.sq l1) ea;obtain⟨n,en⟩:=mI hω.len hi;obtain⟨m,em⟩:=mI mo.len hi;obtain⟨t,et⟩:=mI lx hi;obtain⟨r,er⟩:=mI sl hi;have h5:=Jf hω.pos k2 en em;have h6:(exD σ ω x).2.1[i]?=some (t+(n-m).fdiv ω.2*x.2.2):=jW et (show(gapT ω.2 ω.1 (mvT σ x))[i]?=_ from jW en em);have k1:(movT x.1 (exD σ ω x).2.1 x.2.2 σ.1 σ.2)[i]?=some _:=jW er h6;have k3:(movT x.1 x.2.1 x.2.2 σ.1 σ.2)[i]?=some _:=jW er et;have k4:(smul c ω.1)[i]?=some (c*n):=by unfold smul;rw[zC,en];rfl
  have k5:(smul c (mvT σ x))[i]?=some (c*m):=by unfold smul;rw[zC,em];rfl
  rw[e1',k5]at k3;have h4:=zR k3;rw[k1]at ea;rw[k4]at eb;cases ea;cases eb;generalize dotI r σ.1=D at*
  generalize (n-m).fdiv ω.2=q at*;grind
 obtain⟨r1,r2⟩:=Ci (ts:=ω.1) hω.pos hc;obtain⟨a,b⟩:=kE hω.pos hω.low;unfold mvT mvU;show redT (x.2.2*σ.2) (movT x.1 (exD σ ω x).2.1 x.2.2 σ.1 σ.2)=_/\redU (x.2.2*σ.2) (movT x.1 (exD σ ω x).2.1 x.2.2 σ.1 σ.2)=_;rw[key,e2',r1,r2,a,b];exact⟨rfl,rfl⟩
theorem Vw(hd:d=2\/d=3)(hσ:SpOk d σ)(hω:SpW d ω)(hx:MbOk d x):behD d x (idM d,gapT ω.2 ω.1 (mvT σ x),1)=exD σ ω x:=by
 have mo:=iN hd hσ hx;have lg:=Du (v:=ω.2) hω.len mo.len;have lx:=hx.len;have em:movT (idM d) (gapT ω.2 ω.1 (mvT σ x)) 1 x.2.1 x.2.2=(exD σ ω x).2.1:=by
  show _=List.zipWith (λt g=>t+g*x.2.2) x.2.1 (gapT ω.2 ω.1 (mvT σ x));generalize gapT ω.2 ω.1 (mvT σ x)=g at*
  generalize x.2.1=ts at*;rcases hd with rfl|rfl
  ·obtain⟨a,b,rfl⟩:=len2 lg;obtain⟨a',b',rfl⟩:=len2 lx;rw[id2];simp[movT,dotI]
  ·obtain⟨a,b,c,rfl⟩:=len3 lg;obtain⟨a',b',c',rfl⟩:=len3 lx;rw[id3];simp[movT,dotI]
 obtain⟨a,b⟩:=kE hx.pos (Jd hd hσ hω hx);show(mulM d (idM d) x.1,redT (1*x.2.2) (movT (idM d) (gapT ω.2 ω.1 (mvT σ x)) 1 x.2.1 x.2.2),redU (1*x.2.2) (movT (idM d) (gapT ω.2 ω.1 (mvT σ x)) 1 x.2.1 x.2.2))=_;rw[em,uB,a,b,(lJ hd hx.sq).1];rfl
end
theorem Dr{K:Frag}{H:Hp}:∀{ns:LI'}{xs:List V},Dts K H xs (ns.map PyData.int)->xs=ns.map V.int
 |[],_,.nil=>rfl
 |n:: ns,_,.cons (.int _) h=>by rw[Dr h];rfl
theorem Jb{K:Frag}{H:Hp}:∀{M:LM}{xs:List V},Dts K H xs (M.map λr=>PyData.tuple (r.map PyData.int))->∃ps:LA,xs=ps.map V.ref/\ps.length=M.length/\∀(i:Nat) p r,ps[i]?=some p->M[i]?=some r->SqT K H p (r.map V.int)
 |[],_,.nil=>⟨[],rfl,rfl,λi p r e=>by cases e⟩
 | r:: M,_,.cons (x:=x) h1 h2=>by
  obtain⟨ps,e,l,h⟩:=Jb h2;cases h1 with
  |tup a b =>
   rename_i q ys;rw[Dr b]at a;refine⟨q:: ps,by rw[e];rfl,by rw[zY,zY,l],λi p s e1 e2=>?_⟩;cases i with
   |zero=>cases e1;cases e2;exact a
   |succ i=>exact h i p s e1 e2
theorem fO{K:Frag}{H:Hp}{p:Addr}{x:Dd}(h:Dt K H (.ref p) (dat x)):DdS K H p x:=by
 obtain⟨M,ts,u⟩:=x;have h':Dt K H (.ref p) (.tuple [.tuple (M.map λr=>.tuple (r.map PyData.int)),.tuple (ts.map PyData.int),.int u]):=h;cases h' with
 | tup a b =>
  cases b with
  | cons b1 b =>
   cases b with
   | cons b2 b =>
    cases b with
    | cons b3 b =>
     cases b;cases b3;cases b1 with
     | tup c1 c2 =>
      cases b2 with
      |tup e1 e2 =>
       rw[Dr e2]at e1;obtain⟨ps,rfl,l,hp⟩:=Jb c2;exact⟨_,_,a,⟨ps,c1,l,hp⟩,e1⟩
theorem DdS.dt{K:Frag}{H:Hp}{p:Addr}{x:Dd}(h:DdS K H p x):Dt K H (.ref p) (dat x):=by
 obtain⟨v0,v1,h1,h2,h3⟩:=h;exact .tup h1 (.cons (Dt.matB h2) (.cons (Dt.intsB (b:=true) h3) (.cons (.int _) .nil)))
theorem pl_t(ns:LI')(u:Int):tT 4 (plD ns u)=true:=by
 show tT 4 (.tuple [.tuple (ns.map PyData.int),.int u])=true;rw[fI,xC,xC,fI];have:(ns.map PyData.int).all (tT 2)=true:=by
  rw[vM];intro d hd;obtain⟨i,_,rfl⟩:=qW.mp hd;rfl
 rw[this];rfl
theorem Vv{ns ms:LI'}{u v:Int}:plD ns u=plD ms v↔ns=ms/\u=v:=by
 show PyData.tuple [kY true ns,.int u]=PyData.tuple [kY true ms,.int v]↔_;simp only[PyData.tuple.injEq,List.cons.injEq,PyData.int.injEq,and_true,Ak]
theorem fP{β:Type}{F:Addr->β->Prop}:∀{D:List β}{ys:List V},ys.length=D.length->(∀(j:Nat) y,ys[j]?=some y->∃p e,y=V.ref p/\D[j]?=some e/\F p e)->∃ps:LA,ys=ps.map V.ref/\Paired F ps D
 |[],[],_,_=>⟨[],rfl,.nil⟩
 | m:: ms,y:: ys,hl,h=>by
  obtain⟨q,m',e,em,d⟩:=h 0 y rfl;cases em;obtain⟨qs,e2,p2⟩:=fP (F:=F) (D:=ms) (ys:=ys) (by simpa using hl) λj y' ej=>by
   obtain⟨q,m',e,em,d⟩:=h (j+1) y' (by simpa using ej);exact⟨q,m',e,by simpa using em,d⟩
  exact⟨q:: qs,by rw[e,e2];rfl,.cons d p2⟩
theorem Vu{d:Nat}{ss ss':List Dd}{N:Nat}(hs:∀s∈ss,s∈ss')(h:(tab d ss' N).length<=N):∀y∈tab d ss N,y.1∈(tab d ss' N).map (·.1):=
 aH (G:=λx=>x∈(tab d ss' N).map (·.1)) (qW.mpr ⟨_,fK,rfl⟩) λx hx s h1=>by
  obtain⟨xw,hxw,rfl⟩:=qW.mp hx;exact Ce h xw hxw s (hs s h1)
theorem Vt{d:Nat}(hd:d=2\/d=3){ss:List Dd}{N:Nat}(h:(tab d ss N).length<=N){s:Dd}(hs:s∈ss)(rs:Rs d s):s∈(tab d ss N).map (·.1):=by
 have:=Ce h _ fK s hs;rw[(aM hd rs).1]at this;exact this
theorem Vs{d:Nat}{T ss:List Dd}(G:Grp d T)(hs:∀s∈ss,s∈T){N:Nat}:∀y∈tab d ss N,y.1∈T:=aH (G:=λx=>x∈T) G.one λx hx s h=>G.mul x hx s (hs s h)
theorem Dq{y:Dd}:∀{srt:Tb}{n:Nat},(y∉srt.map (·.1)/\vT (numT srt n) (dat y)=none)\/(y∈srt.map (·.1)/\∃i:Int,vT (numT srt n) (dat y)=some (.int i))
 |[],_=>.inl ⟨by simp,rfl⟩
 | x:: srt,n=>by
  have e:numT (x:: srt) n=(dat x.1,V.int ((n:Nat):Int)):: numT srt (n+1):=rfl
  by_cases z:x.1=y
  ·refine .inr ⟨by rw[←z];exact .head _,n,?_⟩;rw[e,eK (by rw[z])]
  ·have ne:¬ dat x.1=dat y:=λq=>z (bZ.mp q);rw[e,gT ne,zL,xE];rcases Dq (y:=y) (srt:=srt) (n:=n+1) with⟨h1,h2⟩|⟨h1,h2⟩
   ·exact .inl ⟨λq=>q.elim (λq=>z q.symm) h1,h2⟩
   ·exact .inr ⟨.inr h1,h2⟩
structure GoIn(k p:Nat)(L:List Stp)(S:LI')(su:Int)(ds ms:List Dd)(srt:Tb):Prop where
 sub:∀m∈ms,m∈ds
 pm:srt.Perm (tab (famD k) (ms.map oB) 192)
def sp_14(K:Frag)(t:Adr):Sp:=λvs H Q _=>E9 λ(b:Bool)(a:Addr)(ps:LA)(ds:List Dd)(k p:Nat)(L:List Stp)(S:LI')(su:Int)=>A7 (vs=[.int (famD k),.ref a]) (SqB b K H a (ps.map V.ref)) (Paired (DdAt K H) ps ds) (kL k p L S su) ((∀m∈ds,mQ (famD k) m/\InF (frm k p L S su) (oB m))) (ds.length<=199) (∀g ms srt H',Same H H'->GrpF K t H' g (famD k) ms srt->GoIn k p L S su ds ms srt->(∀m∈ds,oB m∈srt.map (·.1))->Q (.ref g) H')
theorem Ja{k p:Nat}{L:List Stp}{S:LI'}{su:Int}(ok:kL k p L S su){ds:List Dd}(hf:∀m∈ds,mQ (famD k) m/\InF (frm k p L S su) (oB m)){ms:List Dd}(hs:∀m∈ms,m∈ds)(hl:ms.length<=200){H:Hp}{a g dx:Addr}{ps:LA}(hg:H g=some (.ins t.a_d dx []))(ha:H a=some (.lst (ps.map V.ref)))(hp:Paired (DdAt K H) ps ms){Q:VK}{E:XK}
  (hQ:∀srt H',(∀b o,b≠g->H b=some o->H' b=some o)->GrpF K t H' g (famD k) ms srt->GoIn k p L S su ds ms srt->Q .non H'):Iy K t [.ref g,.int (famD k),.ref a,.int 200] H Q E:=by
 have okF:=ok.frm;have hss:∀s∈ms.map oB,InF (frm k p L S su) s:=λs h=>by
  obtain⟨m,hm,rfl⟩:=qW.mp h;exact(hf m (hs m hm)).2
 have tb:=fN okF hss 192;exact⟨false,famD k,a,g,dx,ps,ms,InF (frm k p L S su),192,rfl,hg,mW k,SqB.lst ha,hp,hl,λs h=>(hf s (hs s h)).1,λs h=>(gI ok (hf s (hs s h)).2).1,λx hx=>(gI ok hx).1,dQ okF,λx s hx h=>aJ okF hx (hf s (hs s h)).2,
   yL tb.1 ∅,tb.1,λy hy=>(gI ok (tb.2 y hy)).1,dN,λsrt H5 s5 hG pm=>hQ srt H5 s5 hG ⟨hs,pm⟩⟩
theorem ok_14(T:Txt K mg t):FnOk P w K mg base CX0 15 t.a_14 t.d_14 ["d","deeds"] (sp_14 K t):=by
 have G_0:=@ok_0 P w K mg base t T;have G_u:=@ok_u P w K mg base t T;have G_c:=@ok_c P w K mg base t T;apply T.F_14.ok sc_14
 ·have hu:=hr.units;obtain⟨b,a,ps,ds,k,p,L,S,su,rfl,hS,hp,ok,hf,l99,hQ⟩:=h;have hd:=mW k;have lp:ps.length=ds.length:=nP hp;refine⟨_,(pM (pZ (i:=2) sc_14.nd rfl (Or.inl rfl) (aZ (C:=t.a_d) (T.mk_d) G_0 hr.mo rfl T.m_d T.bd_Group___init__ (dvs:=[.int 200]) (.cons ⟨_,rfl⟩ .nil) lL (pK (pq 0) (pK (lG pL) pL))))
   (pM (mX yS rfl (oH (pq 1)) (oV (i:=3) sc_14.nd rfl (Or.inl rfl))
   (pQ (oU (oR aV (Da (C:=t.a_d) (pq 2) T.cl_d T.me_u G_u hr.mo T.b_u .nil lL (pK (pq 3) pL)) dX (oP _))
   (pQ (pZ (i:=2) sc_14.nd rfl (Or.inl rfl) (aZ (C:=t.a_d) (T.mk_d) G_0 hr.mo rfl T.m_d T.bd_Group___init__ (dvs:=[.int 200]) (.cons ⟨_,rfl⟩ .nil) lL (pK (pq 0) (pK (pO cI (iQ (C:=t.a_d) (pq 2) T.cl_d T.me_c G_c hr.mo T.b_c .nil lL) (lG (pK (pq 3) pL))) pL)))))
   oY)))
   (pQ (oA (pq 2))))),?_⟩
  show tSeq _ _ _ [some (.int (famD k)),some (.ref a),none,none] H;right;simp only[cF];ext;refine⟨by show 0<=sizeLine;decide,λl0 hl0=>?_⟩;have s1:Same H (upd H l0 (.lst [])):=Same.new hl0;have el0:(upd H l0 (.lst [])) l0=some (.lst (([]:LA).map V.ref)):=pV;generalize upd H l0 (.lst [])=H1 at s1 el0;intro g dx hg hdx hne;have s2:Same H1 (upd (upd H1 dx (.own g)) g (.ins t.a_d dx [])):=(Same.new hdx).trans (Same.new (by rw[oE (yE hne)];exact hg));refine Ja ok hf (ms:=[]) (λm hm=>by cases hm) ∅ pV (s2 _ _ el0) .nil λsrt H3 s3 hG gi=>⟨rfl,?_⟩;have s03:Same H H3:=λb o e=>s3 b o (λz=>by rw[z]at e;rw[s1 _ _ e]at hg;cases hg) (s2 _ _ (s1 _ _ e));subst e1;refine st λN1 e1=>mZ λB eB=>?_;simp only[iSeq];ext;refine⟨b,⟨_,hS.up s03⟩,?_⟩;refine kI (b:=b) (g:=pY 3) (tb:=B) (λi τ H'=>∃(g:Addr)(ms:List Dd)(srt:Tb)(v3:Option V),τ=[some (.int (famD k)),some (.ref a),some (.ref g),v3]/\Same H H'/\GrpF K t H' g (famD k) ms srt/\GoIn k p L S su ds ms srt/\ms.length<=i/\∀(j:Nat) m,j<i->ds[j]?=some m->oB m∈srt.map (·.1)) ⟨g,[],srt,none,rfl,s03,hG,gi,zG _,λj m hj=>absurd hj (rZ j)⟩ (λi τ H' _⟨_,_,_,_,_,s,_⟩=>hS.up s) ?_ ?_
  ·rintro i y τ H4 ey ⟨g,ms,srt,v3,rfl,s4,hG4,gi4,lm,hin⟩;obtain⟨q,hq,rfl⟩:=lB ey;obtain⟨x,ex,hx⟩:=lC hp hq;have hxd:=zqb ex;obtain⟨fx,ix⟩:=hf x hxd;have hi:i<ds.length:=(zqa ex).1;subst eB;show tIfS _ _ _ _ [some (.int (famD k)),some (.ref a),some (.ref g),some (.ref q)] H4;ext;simp only[kS];ext;obtain⟨dx4,lg,lo,ls,ln,i1,_⟩:=id hG4;refine⟨dx4,_,i1,rfl,g,q,famD k,ms,srt,x,rfl,hG4,hx.up s4,by rw[fx.sq.1];omega,by rw[fx.len];omega,fx.pos,λH5 s5=>?_⟩
   try ext
   have s05:=s4.trans s5;have hG5:=hG4.up s5;rcases Dq (y:=oB x) (srt:=srt) (n:=0) with⟨z1,z2⟩|⟨z1,n,z2⟩
   case inr =>
    rw[z2]
    try ext
    rw[zN (by simp)];refine iteF ⟨s05,ms,srt,hG5,gi4,⋯,λj m hj em=>?_⟩
    by_cases q':j=i
    ·subst q';rw[ex]at em;cases em;exact z1
    ·exact hin j m ⋯ em
   rw[z2]
   try ext
   rw[zK (show(none:Option V).getD V.non=V.non from rfl)];refine iteT ?_;simp only[cF];ext;simp only[kS];ext;obtain⟨dx5,lg,lo,ls,ln,i1,_⟩:=id hG5;refine⟨dx5,_,i1,rfl,g,famD k,ms,srt,rfl,hG5,λl gs H6 s6 hl0 hl hgs=>?_⟩;have lg':gs.length=ms.length:=nP hgs;refine⟨by show 1<=sizeLine;decide,λl1 hl1=>?_⟩;have s7:Same H6 (upd H6 l1 (.lst [.ref q])):=Same.new hl1;have e7:(upd H6 l1 (.lst [.ref q])) l1=some (.lst [.ref q]):=pV;generalize upd H6 l1 (.lst [.ref q])=H7 at s7 e7;refine⟨l,l1,_,_,rfl,rfl,s7 _ _ hl,e7,by rw[zqe];exact yL (show gs.length+1<=1000 by omega) ∅,λl2 hl2=>?_⟩;have s8:Same H7 (upd H7 l2 (.lst (gs.map V.ref++[.ref q]))):=Same.new hl2;have e8:(upd H7 l2 (.lst (gs.map V.ref++[.ref q]))) l2=some (.lst ((gs++[q]).map V.ref)):=by rw[pV,xD];rfl
   generalize upd H7 l2 (.lst (gs.map V.ref++[.ref q]))=H8 at s8 e8;intro g2 dx2 hg2 hdx2 hne2;have s9:Same H8 (upd (upd H8 dx2 (.own g2)) g2 (.ins t.a_d dx2 [])):=(Same.new hdx2).trans (Same.new (by rw[oE (yE hne2)];exact hg2));have s69:=(s7.trans s8).trans s9;have s58:=(s6.trans s7).trans s8;refine Ja ok hf (ms:=ms++[x]) (λm hm=>?_) (by rw[zX];show ms.length+1<=200;omega) pV (s9 _ _ e8) (tY (Paired.mapP hgs λ_ _ z=>z.up s69) (((hx.up s05).up s58).up s9)) λsrt2 H9 s10 hG9 gi9=>⟨rfl,?_⟩
   ·rcases pH.mp hm with h|h
    ·exact gi4.sub m h
    ·rw[qV.mp h];exact hxd
   have s09:Same H H9:=λb o e=>s10 b o (λz=>by rw[z]at e;rw[s58 _ _ (s05 _ _ e)]at hg2;cases hg2) (s9 _ _ (s58 _ _ (s05 _ _ e)));have okF:=ok.frm;have hss:∀s∈(ms++[x]).map oB,InF (frm k p L S su) s:=λs h=>by
    obtain⟨m,hm,rfl⟩:=qW.mp h;exact(hf m (gi9.sub m hm)).2
   have tb:=fN okF hss 192;have inS:∀y,y∈(tab (famD k) ((ms++[x]).map oB) 192).map (·.1)->y∈srt2.map (·.1):=λy hy=>(gi9.pm.map (·.1)).mem_iff.mpr hy;refine⟨s09,ms++[x],srt2,hG9,gi9,by rw[zX];exact Nat.succ_le_succ lm,λj m hj em=>?_⟩
   by_cases q':j=i
   ·subst q';rw[ex]at em;cases em;exact inS _ (Vt hd tb.1 (qW.mpr ⟨x,yJ _ (.head _),rfl⟩) (dR okF ix))
   ·have h1:=hin j m ⋯ em;have h2:=(gi4.pm.map (·.1)).mem_iff.mp h1;obtain⟨y,hy,e⟩:=qW.mp h2;rw[←e];exact inS _ (Vu (λs h=>by rw[xD];exact wA _ h) tb.1 y hy)
  ·rintro τ H4 ⟨g,ms,srt,v3,rfl,s4,hG4,gi4,lm,hin⟩;symm;refine hQ g ms srt H4 s4 hG4 gi4 λm hm=>?_;obtain⟨j,hj⟩:=wF hm;exact hin j m (by rw[zqe,lp];exact(zqa hj).1) hj
structure ChI(K:Frag)(H:Hp)(v:Addr)(d:Nat):Prop where
 ex:∃qs:LA,SqT K H v (qs.map V.ref)/\qs.length=d/\∀(i:Nat) q,qs[i]?=some q->oI H q ((idM d).getD i []) 1
theorem ChI.up{H H':Hp}{v:Addr}{d:Nat}(h:ChI K H v d)(s:Same H H'):ChI K H' v d:=by
 obtain⟨qs,h1,h2,h3⟩:=h;exact⟨qs,nM s _ _ h1,h2,λi q e=>(h3 i q e).upS s⟩
def WyI(K:Frag)(H:Hp)(p:Addr)(d:Nat):Prop:=∃v s,H p=some (.tup [.ref v,.ref s])/\ChI K H v d/\oI H s (List.replicate d 0) 1
theorem WyI.up{H H':Hp}{p:Addr}{d:Nat}(h:WyI K H p d)(s:Same H H'):WyI K H' p d:=by
 obtain⟨v,q,h1,h2,h3⟩:=h;exact⟨v,q,s _ _ h1,h2.up s,h3.upS s⟩
def sp_a(K:Frag):Sp:=λvs H Q _=>E2 λ(p:Addr)(d:Nat)=>A3 (vs=[.int d,.ref p]) (WyI K H p d) (Q .non H)
theorem ok_a(T:Txt K mg t):FnOk P w K mg base CX0 1 t.a_a t.d_a pF' (sp_a K):=by
 apply T.F_a.ok sc_a
 ·obtain⟨p,d,rfl,⟨v,q,h1,⟨qs,h2,h3,h4⟩,h5⟩,hQ⟩:=h;refine⟨_,(pQ (oU (oR lW (oS T.z_len (pS (pq 1))) (pq 0) (oP _))
   (pQ kQ)
   oY)),?_⟩
  show tIfS _ _ _ _ [some (.int d),some (.ref p)] H;ext;refine⟨true,p,_,_,_,rfl,rfl,SqB.tup h1,rfl,true,v,_,rfl,(h2:SqB true K H v _),?_⟩
  try ext
  rw[zqe,h3];rw[zK rfl];exact iteF hQ
theorem Dp{d:Nat}(hd:d=2\/d=3):detM d (idM d)=1:=by rcases hd with rfl|rfl <;> decide +kernel
def sp_1l(K:Frag):Sp:=λvs H Q _=>E3 λ(n d:Nat)(v:Addr)=>A5 (vs=[.int n,.ref v]) (ChI K H v d) ((d=2\/d=3)) (n<=200) (∀H',Same H H'->Q (.int n) H')
theorem ok_1l(T:Txt K mg t):FnOk P w K mg base CX0 6 t.a_1l t.d_1l px' (sp_1l K):=by
 apply T.F_1l.ok sc_1l
 ·obtain⟨n,d,v,rfl,hC,hd,hn,hQ⟩:=h;have G_1:FnOk P w K mg base CX0 (d+1) t.a_1 t.d_1 pM' (sp_1 K d):=ok_1 T d;obtain⟨qs,h2,h3,h4⟩:=id hC;have h2':SqB true K H v (qs.map V.ref):=h2;refine⟨_,(pM (pZ (i:=2) sc_1l.nd rfl (Or.inl rfl) (pO oW (pq 0) (mJ gO rfl T.z_abs (nofun) (pK (pU G_1 hr.mo T.F_1 (pK (oX (sc:=pN s_1l) (N:=N_1l) (fr:=[]) (te:=(tOp (rIxB K) (tVar 0) (tC (.int 0)))) rfl rfl (nofun) rfl (nofun) (oH (pq 1)) (λ_ _ _ hE1=>(pS (pv 0)))) pL)) pL))))
   (pM (pZ (i:=3) sc_1l.nd rfl (Or.inl rfl) pR)
   (pM (mX yS rfl (oH (pq 1)) (oV (i:=4) sc_1l.nd rfl (Or.inl rfl))
   (pQ (pZ (i:=3) sc_1l.nd rfl (Or.inl rfl) (pO oW (pq 3) (pS (pq 4))))))
   (pQ (oA (pO nX (pq 2) (pq 3))))))),?_⟩
  show tSeq _ _ _ [some (.int n),some (.ref v),none,none,none] H;right;exfalso;refine⟨true,⟨_,h2'⟩,λa1 ha1=>?_⟩;refine oT (λj y _=>∃q,y=V.ref q/\SqT K H q (((idM d).getD j []).map V.int)) ha1 h2' (by rw[zqe];omega) (λ_ _ _ _ h _=>h) ?_ ?_
  ·intro j y H1 zs ey s1 ez Q' hQ';obtain⟨q,hq,rfl⟩:=lB ey;subst eB;show tOp _ _ _ [some (.ref q)] H1 Q';ext;obtain⟨z,z1,z2⟩:=h4 j q hq;exact⟨true,q,_,_,_,rfl,rfl,SqB.tup (s1 _ _ z1),rfl,hQ' _ _ (Same.refl _) ⟨z,rfl,SqT.of z2⟩⟩
  ·intro H1 ys s1 e1' hly hr1;have hps:∃ps:LA,ys=ps.map V.ref/\Paired (λq r=>SqT K H q (r.map V.int)) ps (idM d):=fP (by rw[hly,zqe,h3,oN.1]) λj y ej=>by
    obtain⟨q,f1,f2⟩:=hr1 j y ej;have hj:j<(idM d).length:=by rw[oN.1,←h3,←zqe (f:=V.ref),←hly];exact(zqa ej).1
    obtain⟨r,er⟩:=mI rfl hj;exact⟨q,r,f1,er,by rw[zqc,er]at f2;exact f2⟩
   obtain⟨ps,rfl,hp⟩:=hps;have hM:MatB false true K H1 a1 (idM d):=⟨ps,SqB.lst e1',nP hp,λi q r e2 e3=>by
    obtain⟨r',er,z⟩:=lC hp e2;rw[e3]at er;cases er;exact nM s1 _ _ z⟩
   refine bY ⋯ ⋯ hM oN (B:=2) (λr hr z hz=>yG (kM r hr z hz) ∅) ∅ λH2 s2=>?_;rw[Dp hd];refine⟨1,rfl,yA (oM (show((n:Nat):Int).natAbs<2^8 by omega)) (oM (show(if(1:Int)<0 then -1 else(1:Int)).natAbs<2^1 by decide)) ∅,?_⟩;have s02:=s1.trans s2;left;subst e1;refine st λN1 e1=>mZ λB eB=>?_;simp only[iSeq];ext;refine⟨true,⟨_,h2'.up s02⟩,?_⟩;refine kI (b:=true) (g:=pY 4) (tb:=B) (λi τ H'=>∃v4:Option V,τ=[some (.int n),some (.ref v),some (.int (n*(if(1:Int)<0 then -1 else 1))),some (.int 1),v4]/\Same H H') ⟨none,rfl,s02⟩ (λi τ H' _⟨_,_,s⟩=>h2'.up s) ?_ ?_
   ·rintro i y τ H3 ey ⟨v4,rfl,s3⟩;obtain⟨q,hq,rfl⟩:=lB ey;obtain⟨z,z1,z2⟩:=h4 i q hq;subst eB;show tAsg _ _ _ [some (.int n),some (.ref v),some (.int (n*(if(1:Int)<0 then -1 else 1))),some (.int 1),some (.ref q)] H3;ext;refine⟨true,q,_,_,_,rfl,rfl,SqB.tup (s3 _ _ z1),rfl,?_⟩
    try ext
    exact⟨yA (oM (show(1:Int).natAbs<2^1 by decide)) (oM (show(1:Int).natAbs<2^1 by decide)) ∅,∅,s3⟩
   ·rintro τ H3 ⟨v4,rfl,s3⟩;symm;refine⟨⟨∅,∅⟩,?_⟩;have e:((n:Int)*(if(1:Int)<0 then -1 else 1)).fdiv 1=n:=by rw[uZ];simp
    rw[e];exact hQ H3 s3
def sp_15(K:Frag):Sp:=λvs H Q _=>E2 λ(a:Addr)(n:Nat)=>A3 (vs=[.ref a]) (H a=some (.lst ((List.replicate n (1:Int)).map V.int))) (Q (.int 1) H)
theorem ok_15(T:Txt K mg t):FnOk P w K mg base CX0 2 t.a_15 t.d_15 ["numbers"] (sp_15 K):=by
 have G_13:=@ok_13 P w K mg base t T;apply T.F_15.ok sc_15
 ·obtain⟨a,n,rfl,ha,hQ⟩:=h;refine⟨_,(pM (pZ (i:=1) sc_15.nd rfl (Or.inl rfl) pR)
   (pM (mX yS rfl (oH (pq 0)) (oV (i:=2) sc_15.nd rfl (Or.inl rfl))
   (pQ (pZ (i:=1) sc_15.nd rfl (Or.inl rfl) (pO oW (pO nX (pq 1) (pU G_13 hr.mo T.F_13 (pK (pq 1) (pK (pq 2) pL)))) (mJ gO rfl T.z_abs (nofun) (pK (pq 2) pL))))))
   (pQ (oA (pq 1))))),?_⟩
  show tSeq _ _ _ [some (.ref a),none,none] H;right;subst e1;refine st λN1 e1=>mZ λB eB=>?_;simp only[iSeq];ext;refine⟨false,⟨_,SqB.lst ha⟩,?_⟩;refine kI (b:=false) (g:=pY 2) (tb:=B) (λi τ H'=>∃v2:Option V,τ=[some (.ref a),some (.int 1),v2]/\H'=H) ⟨none,rfl,rfl⟩ (λi τ H' _⟨_,_,s⟩=>by rw[s];exact SqB.lst ha) ?_ ?_
  ·rintro i y τ H3 ey ⟨v2,rfl,rfl⟩;obtain⟨n',hn,rfl⟩:=nQ ey;have e:n'=1:=wS (zqb hn);subst e;subst eB;show tAsg _ _ _ [some (.ref a),some (.int 1),some (.int 1)] H3;ext;refine⟨1,1,rfl,?_⟩;rw[show gcdI 1 1=1 by decide];refine⟨_,_,rfl,rfl,⟨∅,∅⟩,_,_,rfl,rfl,?_,?_,rfl⟩
   ·exact yA (oM (show((1:Int).fdiv 1).natAbs<2^1 by decide)) (oM (show(if(1:Int)<0 then -1 else(1:Int)).natAbs<2^1 by decide)) ∅
   ·rfl
  ·rintro τ H3 ⟨v2,rfl,rfl⟩;symm;exact hQ
def TbI(H:Hp)(p:Addr)(d:Nat):Prop:=∃a,H p=some (.tup [.ref a,.int 1])/\MatL H a (idM d)
theorem TbI.up{H H':Hp}{p:Addr}{d:Nat}(h:TbI H p d)(s:Same H H'):TbI H' p d:=let ⟨a,h1,h2⟩:=h;⟨a,s _ _ h1,h2.up s⟩
def sp_1j(K:Frag):Sp:=λvs H Q _=>E2 λ(p:Addr)(d:Nat)=>A4 (vs=[.ref p]) (WyI K H p d) ((d=2\/d=3)) (∀r H',Same H H'->TbI H' r d->Q (.ref r) H')
theorem Vr{d:Nat}(hd:d=2\/d=3):iE d (idM d)=idM d:=by rcases hd with rfl|rfl <;> decide +kernel
theorem ok_1j(T:Txt K mg t):FnOk P w K mg base CX0 3 t.a_1j t.d_1j pO' (sp_1j K):=by
 have G_15:=@ok_15 P w K mg base t T;have G_1e:=@ok_1e P w K mg base t T;apply T.F_1j.ok sc_1j
 ·obtain⟨p,d,rfl,⟨v,q0,h1,⟨qs,h2,h3,h4⟩,h5⟩,hd,hQ⟩:=h;have h2':∀{H'},Same H H'->SqB true K H' v (qs.map V.ref):=λs=>nM s _ _ h2;refine⟨_,(pM (pZ (i:=1) sc_1j.nd rfl (Or.inr rfl) (pU G_15 hr.mo T.F_15 (pK (oX (sc:=pN s_1j) (N:=N_1j) (fr:=[]) (te:=(tOp (rIxB K) (tVar 0) (tC (.int 1)))) rfl rfl (nofun) rfl (nofun) (oH (pS (pq 0))) (λ_ _ _ hE1=>(pS (pv 0)))) pL)))
   (pM (iR (i:=2) (xs:=["vector"]) (fr:=[("under",1)]) (g:=(pY 0)) (tt:=(tEl (nE (iSeq K (tOp (rIxB K) (tVar 0) (tC (.int 0)))) (pY 0) (tEl (tOp (rI (λi j=>IntMulOk i j) λi j=>.int (i*j)) (tVar 0) (tOp (rI lH λi j=>.int (i.fdiv j)) (tVar 2) (tOp (rIxB K) (tVar 1) (tC (.int 1)))))) 1 [("vector",0),("under",1)]))) (mF (sc:=pN s_1j) (N:=N_1j) rfl rfl (nofun)) rfl sc_1j.nd rfl rfl (oH (pS (pq 0))) (λ_ _ _ hE1=>(kH (N:=["vector","under"]) (i:=0) hE1 rfl (nofun) rfl)) (λ_ _ _ hE1=>(mK (oX (N:=["vector","under"]) (fr:=[("vector",0),("under",1)]) (te:=(tOp (rI (λi j=>IntMulOk i j) λi j=>.int (i*j)) (tVar 0) (tOp (rI lH λi j=>.int (i.fdiv j)) (tVar 2) (tOp (rIxB K) (tVar 1) (tC (.int 1)))))) hE1 rfl (nofun) rfl (nofun) (oH (pS (pv 0))) (λ_ _ _ hE2=>(pO oW (pv 0) (pO nX (pv 2) (pS (pv 1)))))))))
   (pQ (oA (nJ (pK (pU G_1e hr.mo T.F_1e (pK (pq 2) pL)) (pK (pq 1) pL))))))),?_⟩
  show tSeq _ _ _ [some (.ref p),none,none] H;right;exfalso;refine⟨true,p,_,_,_,rfl,rfl,SqB.tup h1,rfl,true,v,rfl,⟨_,h2' (Same.refl _)⟩,λa1 ha1=>?_⟩;refine oT (λj y _=>y=V.int 1) ha1 (h2' (Same.refl _)) (by rw[zqe];omega) (λ_ _ _ _ h _=>h) ?_ ?_
  ·intro j y H1 zs ey s1 ez Q' hQ';obtain⟨q,hq,rfl⟩:=lB ey;obtain⟨z,z1,z2⟩:=h4 j q hq;subst eB;show tOp _ _ _ [some (.ref q)] H1 Q';ext;exact⟨true,q,_,_,_,rfl,rfl,SqB.tup (s1 _ _ z1),rfl,hQ' _ _ (Same.refl _) rfl⟩
  ·intro H1 ys s1 e1' hly hr1;have ey:ys=(List.replicate d (1:Int)).map V.int:=by
    refine oZ (by rw[hly,zqe,h3,xO]) λj y ej=>⟨1,?_,hr1 j y ej⟩;rw[vW,zJ (by rw[←h3,←zqe (f:=V.ref),←hly];exact(zqa ej).1)]
   subst ey;refine⟨a1,d,rfl,e1',?_⟩;left;exfalso;refine⟨true,p,_,_,_,rfl,rfl,SqB.tup (s1 _ _ h1),rfl,true,v,rfl,⟨_,h2' s1⟩,λa2 ha2=>?_⟩;refine oT (RowR a2 λj=>(idM d).getD j []) ha2 (h2' s1) (by rw[zqe];omega) (RowR.mono (a:=a2)) ?_ ?_
   ·intro j y H2 zs ey s2 ez Q' hQ';obtain⟨q,hq,rfl⟩:=lB ey;obtain⟨z,z1,z2⟩:=h4 j q hq;have s02:=s1.trans s2;subst eB;show nE _ _ _ _ _ [some (.ref q),some (.int 1)] H2 Q';exfalso;refine⟨true,q,_,_,_,rfl,rfl,SqB.tup (s02 _ _ z1),rfl,true,z,rfl,⟨_,SqB.tup (s02 _ _ z2)⟩,λa3 ha3=>?_⟩;refine oT (λk y _=>∃n,((idM d).getD j [])[k]?=some n/\y=.int n) ha3 (SqB.tup (s02 _ _ z2)) (by
     rw[zqe];have hj:j<(idM d).length:=by rw[oN.1,←h3];exact(zqa hq).1
     rw[oN.2 _ (by rw[zqc,zqd hj];exact xL hj)];omega) (λ_ _ _ _ r _=>r) ?_ ?_
    ·intro k y H3 zs3 ey3 s3 ez3 Q3 hQ3;obtain⟨n,hn,rfl⟩:=nQ ey3;have bn:n.natAbs<2^1:=by
      have hj:j<(idM d).length:=by rw[oN.1,←h3];exact(zqa hq).1
      have:=kM ((idM d).getD j []) (by rw[zqc,zqd hj];exact xL hj) n (zqb hn);omega
     subst eB;show tOp _ _ _ [some (.int n),some (.ref q),some (.int 1)] H3 Q3;ext;refine⟨true,q,_,_,_,rfl,rfl,SqB.tup ((s02.trans s3) _ _ z1),rfl,_,_,rfl,rfl,⟨∅,∅⟩,_,_,rfl,rfl,?_,?_⟩
     ·exact yA (oM bn) (oM (show((1:Int).fdiv 1).natAbs<2^1 by decide)) ∅
     ·refine hQ3 _ _ (Same.refl _) ⟨n,hn,?_⟩;show V.int (n*(1:Int).fdiv 1)=V.int n;rw[show(1:Int).fdiv 1=1 by decide,uE]
    ·intro H3 ys3 s3 e3 hly3 hr3;have ey3:ys3=((idM d).getD j []).map V.int:=oZ (by rw[hly3,zqe]) hr3;subst ey3;exact hQ' _ _ s3 ⟨a3,rfl,yE (nK ez ha3),e3⟩
   ·intro H2 ys s2 e2 hly2 hr2;have hR:=MatL.of e2 hr2;have e:(List.range ys.length).map (λj=>(idM d).getD j [])=idM d:=by
     rw[hly2,zqe,h3];refine xM (by rw[zqe,List.length_range,oN.1]) λi h1 h2=>?_;rw[wY,List.getElem_range,zqc,zqd h2];rfl
    rw[e]at hR;have s02:=s1.trans s2;symm;have hne:idM d≠[]:=λz=>by have:=(oN (d:=d)).1;rw[z]at this;simp at this;omega
    refine⟨false,false,a2,idM d,d,rfl,hR.b,hne,oN.2,⋯,by rw[oN.1];omega,λc H3 hc s3 hC=>?_⟩;rw[Vr hd]at hC;refine⟨(by show 2<=sizeLine;decide),λp' hp'=>hQ p' _ ((s02.trans s3).trans (Same.new hp')) ⟨c,pV,hC.up (Same.new hp')⟩⟩
noncomputable def cofM(d:Nat)(rows:LM)(i k:Nat):Int:=sg (i+k)*detM d (jC i k rows)
noncomputable def crsM(n:Nat)(rows:LM):LM:=(List.range n).map λi=>(List.range n).map λk=>cofM (n-1) rows k i
def sp_16(K:Frag):Sp:=λvs H Q _=>E7 λ(b1 b2:Bool)(a:Addr)(rows:LM)(i k n:Nat)=>A9 (vs=[.ref a,.int i,.int k]) (MatB b1 b2 K H a rows) (Sq (n+1) rows) (i<n+1) (k<n+1) (1<=n) (n<=3) (nF 1800 rows) (∀H',Same H H'->Q (.int (cofM n rows i k)) H')
def sp_1k(K:Frag):Sp:=λvs H Q _=>E5 λ(b1 b2:Bool)(a:Addr)(rows:LM)(c:Int)=>A6 (vs=[.ref a,.int c]) (MatB b1 b2 K H a rows) (rows.length<1000) ((∀r∈rows,r.length<1000)) ((∀r∈rows,∀x∈r,IntMulOk c x)) (∀q H',H q=none->Same H H'->MatL H' q (rows.map λr=>r.map (c*·))->Q (.ref q) H')
def sp_1f(K:Frag):Sp:=λvs H Q _=>E5 λ(b1 b2:Bool)(a:Addr)(rows:LM)(n:Nat)=>A7 (vs=[.ref a]) (MatB b1 b2 K H a rows) (Sq n rows) (2<=n) (n<=4) (nF 1800 rows) (∀r H',H r=none->Same H H'->MatL H' r (crsM n rows)->Q (.ref r) H')
theorem ok_16(T:Txt K mg t):FnOk P w K mg base CX0 5 t.a_16 t.d_16 pz' (sp_16 K):=by
 have G_1b:=@ok_1b P w K mg base t T;apply T.F_16.ok sc_16
 ·obtain⟨b1,b2,a,rows,i,k,n,rfl,hM,hs,hi,hk,hn1,hn3,hb,hQ⟩:=h;have G_1:FnOk P w K mg base CX0 (n+1) t.a_1 t.d_1 pM' (sp_1 K n):=ok_1 T n;refine⟨_,(pM (pZ (i:=3) sc_16.nd rfl (Or.inl rfl) (aR (oR mS (pO nN (pO nR (pq 1) (pq 2)) pR) pR (oP _)) pR (gM gN pR)))
   (pQ (oA (pO oW (pq 3) (pU G_1 hr.mo T.F_1 (pK (pU G_1b hr.mo T.F_1b (pK (pq 0) (pK (pq 1) (pK (pq 2) pL)))) pL)))))),?_⟩
  show tSeq _ _ _ [some (.ref a),some (.int i),some (.int k),none] H;obtain⟨m,rfl⟩:∃m,n=m+1:=⟨n-1,⋯⟩;refine st λN1 e1=>?_;have key:N1 [some (.ref a),some (.int i),some (.int k),some (.int (sg (i+k)))] H:=by
   symm;refine⟨b1,b2,a,rows,i,k,_,rfl,hM,hs.2,hk,⋯,by rw[hs.1];omega,λr H1 _ s1 hR=>?_⟩;refine⟨false,false,r,_,1800,rfl,hR.b,hs.minor hi hk,⋯,hb.minor,∅,λH2 s2=>?_⟩;ext;exact⟨xZ (by unfold sg;split <;> decide),hQ H2 (s1.trans s2)⟩
  ext;refine⟨∅,?_⟩;have ef:((i:Int)+k).fmod 2=((i+k)%2:Nat):=by
   rw[xP _ ∅];omega
  rw[ef];unfold sg at key
  by_cases z:(i+k)%2=0
  ·rw[zJ z]at key;rw[zK (show(((i+k)%2:Nat):Int)=0 by omega)];exact iteT key
  ·rw[zI z]at key;rw[zN (show¬ (((i+k)%2:Nat):Int)=0 by omega)];exact iteF key
theorem ok_1k(T:Txt K mg t):FnOk P w K mg base CX0 1 t.a_1k t.d_1k pA' (sp_1k K):=by
 apply T.F_1k.ok sc_1k
 ·obtain⟨b1,b2,a,rows,c,rfl,hM,hl,hlr,hm,hQ⟩:=h;refine⟨_,(pQ (oA (oX (sc:=pN s_1k) (N:=N_1k) (fr:=[("count",1)]) (te:=(nE (iSeq K (tVar 0)) (pY 0) (tEl (tOp (rI (λi j=>IntMulOk i j) λi j=>.int (i*j)) (tVar 1) (tVar 0))) 1 [("count",1)])) rfl rfl (nofun) rfl (nofun) (oH (pq 0)) (λ_ _ _ hE1=>(oX (N:=["row","count"]) (fr:=[("count",1)]) (te:=(tOp (rI (λi j=>IntMulOk i j) λi j=>.int (i*j)) (tVar 1) (tVar 0))) hE1 rfl (nofun) rfl (nofun) (oH (pv 0)) (λ_ _ _ hE2=>(pO oW (pv 1) (pv 0)))))))),?_⟩;show tRet _ _ [some (.ref a),some (.int c)] H;ext;exfalso;obtain⟨xs,x1,x2,x3⟩:=hM.walk;refine⟨b1,⟨_,x1⟩,λa1 ha1=>?_⟩;refine oT (RowR a1 λj=>(rows.getD j []).map (c*·)) ha1 x1 ⋯ (RowR.mono (a:=a1)) ?_ ?_
  ·intro i x H1 zs ex s1 ez Q' hQ';obtain⟨p,r,rfl,er,hp⟩:=x3 i x ex;have hr0:=zqb er;subst eB;show nE _ _ _ _ _ [some (.ref p),some (.int c)] H1 Q';exfalso;refine⟨b2,⟨_,hp.up s1⟩,λa2 ha2=>?_⟩;refine oT (λj y _=>∃m,r[j]?=some m/\y=.int (c*m)) ha2 (hp.up s1) (by have:=hlr r hr0;rw[zqe];omega) (λ_ _ _ _ r _=>r) ?_ ?_
   ·intro j x H2 zs2 ex2 s2 ez2 Q2 hQ2;obtain⟨m,em,rfl⟩:=nQ ex2;subst eB;show tOp _ _ _ [some (.int m),some (.int c)] H2 Q2;ext;exact⟨hm r hr0 m (zqb em),hQ2 _ _ (Same.refl _) ⟨m,em,rfl⟩⟩
   ·intro H2 ys s2 e2 hly hr2;have ey:ys=(r.map (c*·)).map V.int:=by
     refine oZ (by simp at hly ⊢;omega) λj y e=>?_;obtain⟨m,em,rfl⟩:=hr2 j y e;exact⟨c*m,by rw[zC,em];rfl,rfl⟩
    subst ey;refine hQ' _ _ s2 ⟨a2,rfl,yE (nK ez ha2),?_⟩;show _=some (HO.lst (((rows.getD i []).map (c*·)).map V.int));rw[e2,zqc,er];rfl
  ·intro H1 ys s1 e1 hly hr1;have hM0:=MatL.of e1 hr1;rw[hly,x2]at hM0;have ee:((List.range rows.length).map λj=>(rows.getD j []).map (c*·))=rows.map λr=>r.map (c*·):=by
    refine List.ext_getElem? λi=>?_;rw[zC,zC]
    by_cases hi:i<rows.length
    ·rw[yO hi,zqd hi];simp[zqc,hi]
    ·rw[vI (by simp;omega),vI ⋯];rfl
   rw[ee]at hM0;exact hQ a1 H1 ha1 s1 hM0
theorem ok_1f(T:Txt K mg t):FnOk P w K mg base CX0 6 t.a_1f t.d_1f pM' (sp_1f K):=by
 have G_16:=@ok_16 P w K mg base t T;apply T.F_1f.ok sc_1f
 ·obtain⟨b1,b2,a,rows,n,rfl,hM,hs,hn2,hn4,hb,hQ⟩:=h;refine⟨_,(pM (pZ (i:=1) sc_1f.nd rfl (Or.inr rfl) (oS T.z_len (pq 0)))
   (pQ (oA (lY (xs:=["i"]) (fr:=[("rows",0),("size",1)]) (g:=(pY 0)) (tt:=(tEl (nE (nI (pW (tVar 2) tNil)) (pY 0) (tEl (nL (sp_16 K) [] E0 (pW (tVar 2) (pW (tVar 0) (pW (tVar 1) tNil))))) 1 [("i",0),("rows",1)]))) (mF (sc:=pN s_1f) (N:=N_1f) rfl rfl (nofun)) rfl (nW rfl T.z_range (pK (pq 1) pL)) (λ_ _ _ hE1=>(kH (N:=["i","rows","size"]) (i:=0) hE1 rfl (nofun) rfl)) (λ_ _ _ hE1=>(mK (oX (N:=["i","rows","size"]) (fr:=[("i",0),("rows",1)]) (te:=(nL (sp_16 K) [] E0 (pW (tVar 2) (pW (tVar 0) (pW (tVar 1) tNil))))) hE1 rfl (nofun) rfl (nofun) (nW rfl T.z_range (pK (pv 2) pL)) (λ_ _ _ hE2=>(pU G_16 hr.mo T.F_16 (pK (pv 2) (pK (pv 0) (pK (pv 1) pL)))))))))))),?_⟩
  show tSeq _ _ _ [some (.ref a),none] H;obtain⟨m,rfl⟩:∃m,n=m+1:=⟨n-1,⋯⟩;right;refine jJ hM ?_;rw[hs.1];symm;refine oG λB eB=>?_;simp only[nI];ext;refine⟨⋯,⋯,λa1 ha1=>?_⟩;rw[zS];refine mG (RowR a1 λi=>(List.range (m+1)).map λk=>cofM m rows k i) ha1 ⋯ (RowR.mono (a:=a1)) ?_ ?_
  ·intro i H2 zs hi s2 ez Q' hQ';subst eB;show nE _ _ _ _ _ [some (.int (0+(i:Int))),some (.ref a),some (.int ((m+1:Nat):Int))] H2 Q';refine oG λB eB=>?_;simp only[nI];ext;refine⟨⋯,⋯,λa2 ha2=>?_⟩;rw[zS];refine mG (λk y _=>k<m+1/\y=.int (cofM m rows k i)) ha2 ⋯ (λ_ _ _ _ r _=>r) ?_ ?_
   ·intro k H3 zs3 hk s3 ez3 Q2 hQ2;subst eB;have s03:=s2.trans s3;show nL _ _ _ _ [some (.int (0+(k:Int))),some (.int (0+(i:Int))),some (.ref a)] H3 Q2;ext;refine⟨b1,b2,a,rows,k,i,m,by rw[qL,qL],hM.up s03,hs,hk,hi,⋯,⋯,hb,λH4 s4=>?_⟩;exact hQ2 _ _ s4 ⟨hk,rfl⟩
   ·intro H3 ys s3 e3 hly hr3;have ey:ys=((List.range (m+1)).map λk=>cofM m rows k i).map V.int:=by
     refine oZ (by simpa using hly) λj y e=>?_;obtain⟨hj,rfl⟩:=hr3 j y e;exact⟨_,by rw[zC,yO hj];rfl,rfl⟩
    subst ey;exact hQ' _ _ s3 ⟨a2,rfl,yE (nK ez ha2),e3⟩
  ·intro H2 ys s2 e2 hly hr2;have hM0:=MatL.of e2 hr2;rw[hly]at hM0;exact hQ a1 H2 ha1 s2 hM0
theorem Vq{d:Nat}(hd:d=2\/d=3):crsM d (idM d)=idM d:=by rcases hd with rfl|rfl <;> decide +kernel
def sp_1t(K:Frag):Sp:=λvs H Q _=>E2 λ(p:Addr)(d:Nat)=>A4 (vs=[.ref p]) (WyI K H p d) ((d=2\/d=3)) (∀r H',Same H H'->TbI H' r d->Q (.ref r) H')
theorem ok_1t(T:Txt K mg t):FnOk P w K mg base CX0 7 t.a_1t t.d_1t pO' (sp_1t K):=by
 have G_1j:=@ok_1j P w K mg base t T;have G_1k:=@ok_1k P w K mg base t T;have G_1f:=@ok_1f P w K mg base t T;apply T.F_1t.ok sc_1t
 ·obtain⟨p,d,rfl,hW,hd,hQ⟩:=h;have G_1:FnOk P w K mg base CX0 (d+1) t.a_1 t.d_1 pM' (sp_1 K d):=ok_1 T d;refine⟨_,(pM (pZ (i:=1) sc_1t.nd rfl (Or.inl rfl) (pU G_1j hr.mo T.F_1j (pK (pq 0) pL)))
   (pQ (oA (nJ (pK (pU G_1k hr.mo T.F_1k (pK (pU G_1f hr.mo T.F_1f (pK (pS (pq 1)) pL)) (pK (pS (pq 1)) pL))) (pK (pU G_1 hr.mo T.F_1 (pK (pS (pq 1)) pL)) pL)))))),?_⟩
  show tSeq _ _ _ [some (.ref p),none] H;right;refine⟨p,d,rfl,hW,hd,λr H1 s1⟨a,h1,h2⟩=>?_⟩;have bI:∀B,2<=B->nF B (idM d):=λB hB r hr z hz=>zE (yG (kM r hr z hz) (∅:1<2^2)) (zW ∅ hB);have l1:=(oN (d:=d)).1;symm;refine⟨true,r,_,_,_,rfl,rfl,SqB.tup h1,rfl,?_⟩;refine⟨false,false,a,idM d,d,rfl,h2.b,oN,⋯,⋯,bI _ ∅,λc H2 hc s2 hC=>?_⟩;rw[Vq hd]at hC;refine⟨true,r,_,_,_,rfl,rfl,SqB.tup (s2 _ _ h1),rfl,?_⟩;refine⟨false,false,c,idM d,1,rfl,hC.b,⋯,λx hx=>by rw[oN.2 x hx];omega,λx hx z hz=>yA (oM (show(1:Int).natAbs<2^1 by decide)) (oM (bI 2 ∅ x hx z hz)) ∅,λq H3 hq s3 hq3=>?_⟩;have e1m:((idM d).map λr=>r.map ((1:Int)*·))=idM d:=by
   rw[show(λr:LI'=>r.map ((1:Int)*·))=id from funext λr=>by
    show r.map ((1:Int)*·)=r
    conv=>rhs;rw[←rF r]
    exact wX λz _=>uB z,rF]
  rw[e1m]at hq3;have s23:=s2.trans s3;refine⟨true,r,_,_,_,rfl,rfl,SqB.tup (s23 _ _ h1),rfl,?_⟩;refine bY ⋯ ⋯ ((h2.up s23).b) oN (bI 2 ∅) ∅ λH4 s4=>?_;rw[Dp hd];exact⟨(by show 2<=sizeLine;decide),λp' hp'=>hQ p' _ (((s1.trans s23).trans s4).trans (Same.new hp')) ⟨q,pV,(hq3.up s4).up (Same.new hp')⟩⟩
theorem Vp{d:Nat}{ns:LI'}{u:Int}(h:ns.length=d):sumT ns u ((List.replicate d (0:Int)).map (-·)) 1=ns:=by
 subst h;unfold sumT
 induction ns with
 |nil=>rfl
 |cons n ns ih =>
  rw[zY,wL,zL,yV,ih];simp
def sp_1w(K:Frag):Sp:=λvs H Q _=>E5 λ(p q:Addr)(d:Nat)(ns:LI')(u:Int)=>A10 (vs=[.ref p,.ref q]) (TbI H p d) (oI H q ns u) ((d=2\/d=3)) (ns.length=d) (0<u) (u<2^400) (nA 2100 ns) (gl u ns=1) (∀r H',Same H H'->oI H' r ns u->Q (.ref r) H')
theorem ok_1w(T:Txt K mg t):FnOk P w K mg base CX0 3 t.a_1w t.d_1w pB' (sp_1w K):=by
 have G_1s:=@ok_1s P w K mg base t T;have G_10:=@ok_10 P w K mg base t T;apply T.F_1w.ok sc_1w
 ·obtain⟨p,q,d,ns,u,rfl,⟨a,h1,h2⟩,hP,hd,hl,u0,u1,bn,hg,hQ⟩:=h;have l1:=(oN (d:=d)).1;refine⟨_,(pQ (oA (jG G_10 hr.mo rfl T.F_10.m T.F_10.kp T.F_10.b .nil iD (pK (oX (sc:=pN s_1w) (N:=N_1w) (fr:=[("spot",1)]) (te:=(nL (sp_1s K) [] E0 (pW (tVar 0) (pW (tOp (rIxB K) (tVar 1) (tC (.int 0))) tNil)))) rfl rfl (nofun) rfl (nofun) (oH (pS (pq 0))) (λ_ _ _ hE1=>(pU G_1s hr.mo T.F_1s (pK (pv 0) (pK (pS (pv 1)) pL))))) (pK (pO oW (pS (pq 0)) (pS (pq 1))) pL))))),?_⟩;show tRet _ _ [some (.ref p),some (.ref q)] H;ext;exfalso;obtain⟨xs,x1,x2,x3⟩:=(h2.b (K:=K)).walk;refine⟨true,p,_,_,_,rfl,rfl,SqB.tup h1,rfl,false,a,rfl,⟨_,x1⟩,λa1 ha1=>?_⟩;refine oT (λj y _=>∃n,(mv (idM d) ns)[j]?=some n/\y=.int n) ha1 x1 (by rw[x2,l1];omega) (λ_ _ _ _ r _=>r) ?_ ?_
  ·intro i x H1 zs ex s1 ez Q' hQ';obtain⟨pr,r,rfl,er,hp⟩:=x3 i x ex;have hrl:r.length=d:=oN.2 r (zqb er);subst eB;show nL _ _ _ _ [some (.ref pr),some (.ref q)] H1 Q';ext;refine kC (hP.upS s1) λz hz=>?_;refine⟨false,true,pr,z,r,ns,rfl,hp.up s1,SqB.tup hz,⋯,⋯,λi2 m n e1 e2=>yA (oM (show m.natAbs<2^1 from yG (kM r (zqb er) m (zqb e1)) ∅)) (oM (bn n (zqb e2))) ∅,λH2 s2=>?_⟩;exact hQ' _ _ s2 ⟨_,by unfold mv;rw[zC,er];rfl,rfl⟩
  ·intro H1 ys s1 e1 hly hr1;have ey:ys=(mv (idM d) ns).map V.int:=oZ (by rw[hly,x2,l1,mB oN]) hr1;rw[dL hd hl]at ey;subst ey;refine⟨true,p,_,_,_,rfl,rfl,SqB.tup (s1 _ _ h1),rfl,?_⟩;refine jD (hP.upS s1) ?_
   try ext
   refine⟨yA (oM (show(1:Int).natAbs<2^1 by decide)) (oM (show u.natAbs<2^400 by omega)) ∅,?_⟩;rw[uB];refine⟨false,a1,ns,u,rfl,SqB.lst e1,⋯,lR (B:=400) ⋯ ∅,λz=>?_,λ_ _ r H2 s2 hR=>?_⟩
   ·rcases z with z|z
    ·omega
    ·rw[z]at hl;simp at hl;omega
   ·obtain⟨r1,r2⟩:=kE u0 hg;rw[r1,r2]at hR;exact hQ r H2 (s1.trans s2) hR
def sp_12(K:Frag):Sp:=λvs H Q _=>E5 λ(q p:Addr)(d:Nat)(ns:LI')(u:Int)=>A10 (vs=[.ref q,.ref p]) (WyI K H p d) (oI H q ns u) ((d=2\/d=3)) (ns.length=d) (0<u) (u<2^400) (nA 2100 ns) (gl u ns=1) (∀r H',Same H H'->oI H' r ns u->Q (.ref r) H')
theorem ok_12(T:Txt K mg t):FnOk P w K mg base CX0 8 t.a_12 t.d_12 pG' (sp_12 K):=by
 have G_a:=@ok_a P w K mg base t T;have G_1w:=@ok_1w P w K mg base t T;have G_1t:=@ok_1t P w K mg base t T;have G_q:=@ok_q P w K mg base t T;apply T.F_12.ok sc_12
 ·obtain⟨q,p,d,ns,u,rfl,hW,hP,hd,hl,u0,u1,bn,hg,hQ⟩:=h;refine⟨_,(pM (kP (pU G_a hr.mo T.F_a (pK (oS T.z_len (pS (pq 0))) (pK (pq 1) pL))))
   (pQ (oA (pU G_1w hr.mo T.F_1w (pK (pU G_1t hr.mo T.F_1t (pK (pq 1) pL)) (pK (pU G_q hr.mo T.F_q (pK (pq 0) (pK (pS (pq 1)) pL))) pL)))))),?_⟩
  show tSeq _ _ _ [some (.ref q),some (.ref p)] H;right;refine kC hP λx hx=>nU (b:=true) (SqB.tup hx) ?_;rw[hl];refine⟨p,d,rfl,hW,?_⟩;symm;refine⟨p,d,rfl,hW,hd,λr H1 s1 hr1=>?_⟩;obtain⟨v,so,h1,h2,h3⟩:=hW.up s1;refine⟨true,p,_,_,_,rfl,rfl,SqB.tup h1,rfl,?_⟩;refine⟨q,so,ns,List.replicate d 0,u,1,d,rfl,hP.upS s1,h3,hl,xO,hd,bn,λz hz=>by rw[wS hz];exact vF _,u0,u1,∅,∅,λr2 H2 s2 hr2=>?_⟩;rw[uE,Vp hl]at hr2;obtain⟨r1,r2'⟩:=kE u0 hg;rw[r1,r2']at hr2;exact⟨r,r2,d,ns,u,rfl,hr1.up s2,hr2,hd,hl,u0,u1,bn,hg,λr3 H3 s3 hr3=>hQ r3 H3 ((s1.trans s2).trans s3) hr3⟩
theorem Kz{ns:LI'}{d:Nat}(h:ns.length=d):oB (idM d,ns,1)=oQ d:=by
 show(idM d,oO 1 ns,(1:Int))=(idM d,List.replicate d 0,1);have:oO 1 ns=List.replicate d 0:=by
  refine List.eq_replicate_iff.mpr ⟨by unfold oO;rw[zqe];exact h,λz hz=>?_⟩;obtain⟨n,_,rfl⟩:=qW.mp hz;have:=fms n 1 ∅;omega
 rw[this]
def sp_o(K:Frag)(t:Adr):Sp:=λvs H Q _=>E5 λ(g v:Addr)(d:Nat)(ms:List Dd)(srt:Tb)=>A6 (vs=[.ref g,.ref v]) (GrpF K t H g d ms srt) (ChI K H v d) ((d=2\/d=3)) (oQ d∈srt.map (·.1)) (∀H',Same H H'->Q .non H')
theorem ok_o(T:Txt K mg t):FnOk P w K mg base CX0 10 t.a_o t.d_o pw' (sp_o K t):=by
 have G_u:=@ok_u P w K mg base t T;have G_1p:=@ok_1p P w K mg base t T;apply T.F_o.ok sc_o
 ·have hu:=hr.units;obtain⟨g,v,d,ms,srt,rfl,hG,⟨qs,h2,h3,h4⟩,hd,hs,hQ⟩:=h;have h2':∀{H'},Same H H'->SqB true K H' v (qs.map V.ref):=λs=>nM s _ _ h2;refine⟨_,(pQ (mX yS rfl (oH (pq 1)) (oV (i:=2) sc_o.nd rfl (Or.inl rfl))
   (pQ (oU (oR aV (Da (C:=t.a_d) (pq 0) T.cl_d T.me_u G_u hr.mo T.b_u .nil lL (pK (pU G_1p hr.mo T.F_1p (pK (pq 2) pL)) pL)) dX (oP _))
   (pQ kQ)
   oY)))),?_⟩
  refine mZ λB eB=>?_;simp only[iSeq];show qVar 1 [some (.ref g),some (.ref v),none] H _;ext;refine⟨true,⟨_,h2' (Same.refl _)⟩,?_⟩;refine kI (b:=true) (g:=pY 2) (tb:=B) (λi τ H'=>∃v2:Option V,τ=[some (.ref g),some (.ref v),v2]/\Same H H') ⟨none,rfl,Same.refl _⟩ (λi τ H' _⟨_,_,s⟩=>h2' s) ?_ ?_
  ·rintro i y τ H1 ey ⟨v2,rfl,s1⟩;obtain⟨q,hq,rfl⟩:=lB ey;have hi:i<d:=by rw[←h3];exact(zqa hq).1
   have hl:((idM d).getD i []).length=d:=by
    have hj:i<(idM d).length:=by rw[oN.1];exact hi
    exact oN.2 _ (by rw[zqc,zqd hj];exact xL hj)
   subst eB;show tIfS _ _ _ _ [some (.ref g),some (.ref v),some (.ref q)] H1;ext;simp only[kS];ext;obtain⟨dx1,lg,lo,ls,ln,i1,_⟩:=id (hG.up s1);refine⟨dx1,_,i1,rfl,q,_,1,d,rfl,(h4 i q hq).upS s1,hl,hd,∅,lR (B:=1) ∅ ∅,λr H2 s2 hr2=>?_⟩;obtain⟨r1,r2⟩:=kE (u:=1) (ns:=(idM d).getD i []) ∅ (iH _);rw[r1,r2]at hr2;refine⟨g,r,d,ms,srt,(idM d,(idM d).getD i [],1),rfl,hG.up (s1.trans s2),hr2,by show(idM d).length<=100;rw[oN.1];omega,by show((idM d).getD i []).length<=100;omega,by show(0:Int)<1;decide,λH3 s3=>?_⟩
   try ext
   rw[Kz hl];rcases Dq (y:=oQ d) (srt:=srt) (n:=0) with⟨z1,_⟩|⟨_,n,z2⟩
   ·exact absurd hs z1
   rw[z2]
   try ext
   rw[zN (by simp)];exact iteF ((s1.trans s2).trans s3)
  ·rintro τ H1 ⟨v2,rfl,s1⟩;exact hQ H1 s1
def sp_t(K:Frag):Sp:=λvs H Q _=>E4 λ(p q:Addr)(d:Nat)(x:Dd)=>A11 (vs=[.ref p,.ref q]) (DdS K H p x) (WyI K H q d) ((d=2\/d=3)) (Sq d x.1) (x.2.1.length=d) ((0<x.2.2/\x.2.2<2^150)) (nF 1000 x.1) (nA 1000 x.2.1) (gl x.2.2 x.2.1=1) (∀r H',Same H H'->DdAt K H' r x->Q (.ref r) H')
theorem ok_t(T:Txt K mg t):FnOk P w K mg base CX0 9 t.a_t t.d_t ["one","way"] (sp_t K):=by
 have G_a:=@ok_a P w K mg base t T;have G_1j:=@ok_1j P w K mg base t T;have G_1t:=@ok_1t P w K mg base t T;have G_1m:=@ok_1m P w K mg base t T;have G_19:=@ok_19 P w K mg base t T;have G_12:=@ok_12 P w K mg base t T;have G_1i:=@ok_1i P w K mg base t T;apply T.F_t.ok sc_t
 ·obtain⟨p,q,d,⟨M,ts,u⟩,rfl,hD,hW,hd,sM,lt,⟨u0,u1⟩,bM,bt,hg,hQ⟩:=h;replace sM:Sq d M:=sM;replace lt:ts.length=d:=lt;have l1:=(oN (d:=d)).1;have lM:=sM.1;have bI:nF 2 (idM d):=λr hr z hz=>yG (kM r hr z hz) ∅;have neM:∀{A:LM},Sq d A->A≠[]:=λh z=>by have:=h.1;rw[z]at this;simp at this;omega
  refine⟨_,(pM (kP (pU G_a hr.mo T.F_a (pK (oS T.z_len (pS (pq 0))) (pK (pq 1) pL))))
   (pM (pZ (i:=2) sc_t.nd rfl (Or.inl rfl) (pU G_1j hr.mo T.F_1j (pK (pq 1) pL)))
   (pM (pZ (i:=3) sc_t.nd rfl (Or.inl rfl) (pU G_1t hr.mo T.F_1t (pK (pq 1) pL)))
   (pM (pZ (i:=4) sc_t.nd rfl (Or.inl rfl) (pU G_1m hr.mo T.F_1m (pK (pU G_1m hr.mo T.F_1m (pK (pS (pq 3)) (pK (pS (pq 0)) pL))) (pK (pS (pq 2)) pL))))
   (pM (pZ (i:=5) sc_t.nd rfl (Or.inr rfl) (pO oW (pS (pq 3)) (pS (pq 2))))
   (pM (oU (kF (mJ (cY rfl) rfl T.z_any (nofun) (pK (oX (sc:=pN dA) (N:=N_t) (fr:=[("under",5)]) (te:=(tCB (λxs H Q=>∃(p:Addr)(bs:List Bool),xs=[.ref p]/\SqL K H p (bs.map V.bl)/\Q (.bl (bs.any id)) H) (pW (nE (iSeq K (tVar 0)) (pY 0) (tEl (tOp (rI0 λi j=>.bl (!decide (i=j))) (tOp (rI (λ_ j=>j≠0) λi j=>.int (i.fmod j)) (tVar 0) (tVar 1)) (tC (.int 0)))) 1 [("under",1)]) tNil))) rfl rfl (nofun) rfl (nofun) (oH (pq 4)) (λ_ _ _ hE1=>(mJ (cY rfl) rfl T.z_any (nofun) (pK (oX (N:=["row","under"]) (fr:=[("under",1)]) (te:=(tOp (rI0 λi j=>.bl (!decide (i=j))) (tOp (rI (λ_ j=>j≠0) λi j=>.int (i.fmod j)) (tVar 0) (tVar 1)) (tC (.int 0)))) hE1 rfl (nofun) rfl (nofun) (oH (pv 0)) (λ_ _ _ hE2=>(jZ lW (pO nN (pv 0) (pv 1)) pR (oP _)))) pL)))) pL)))
   (pQ kQ)
   oY)
   (pM (kZ (i:=6) (sc:=pN dA) (N:=N_t) (fr:=[("under",5)]) (te:=(nE (iSeq K (tVar 0)) (pY 0) (tEl (tOp (rI lH λi j=>.int (i.fdiv j)) (tVar 0) (tVar 1))) 1 [("under",1)])) rfl rfl (nofun) rfl sc_t.nd rfl rfl (nofun) (oH (pq 4)) (λ_ _ _ hE1=>(oX (N:=["row","under"]) (fr:=[("under",1)]) (te:=(tOp (rI lH λi j=>.int (i.fdiv j)) (tVar 0) (tVar 1))) hE1 rfl (nofun) rfl (nofun) (oH (pv 0)) (λ_ _ _ hE2=>(pO nX (pv 0) (pv 1))))))
   (pQ (oA (pU G_19 hr.mo T.F_19 (pK (pq 6) (pK (pU G_12 hr.mo T.F_12 (pK (pU G_1i hr.mo T.F_1i (pK (pq 0) (pK (pS (pq 1)) pL))) (pK (pq 1) pL))) pL)))))))))))),?_⟩
  show tSeq _ _ _ [some (.ref p),some (.ref q),none,none,none,none,none] H;right;refine dE hD λa ha=>jJ ha ?_;rw[lM];refine⟨q,d,rfl,hW,?_⟩;left;refine⟨q,d,rfl,hW,hd,λo H1 s1 ho=>?_⟩;left;refine⟨q,d,rfl,hW.up s1,hd,λn H2 s2 hn=>?_⟩;obtain⟨no,n1,n2⟩:=hn;obtain⟨oo,o1,o2⟩:=ho.up s2;have s02:=s1.trans s2;left;refine⟨true,n,_,_,_,rfl,rfl,SqB.tup n1,rfl,?_⟩;refine dE (hD.up s02) λa2 ha2=>?_;refine⟨false,false,true,true,no,a2,idM d,M,d,rfl,n2.b,ha2,neM sM,sM.2,λr hr=>by rw[oN.2 r hr,lM],⋯,⋯,⋯,?_,λc H3 hc s3 hC=>?_⟩
  ·exactλr hr z hz r' hr' y hy=>yA (oM (bI r hr z hz)) (oM (bM r' hr' y hy)) ∅
  rw[(lJ hd sM).1]at hC;have s23:=s2.trans s3;refine⟨true,o,_,_,_,rfl,rfl,SqB.tup (s3 _ _ o1),rfl,?_⟩;refine⟨false,false,false,false,c,oo,M,idM d,d,rfl,hC.b,(o2.up s3).b,neM oN,oN.2,λr hr=>by rw[sM.2 r hr,l1],⋯,⋯,⋯,?_,λc2 H4 hc2 s4 hC2=>?_⟩
  ·exactλr hr z hz r' hr' y hy=>yA (oM (bM r hr z hz)) (oM (bI r' hr' y hy)) ∅
  rw[(lJ hd sM).2]at hC2;have s04:=(s02.trans s3).trans s4;have s24:=s3.trans s4;left;refine⟨true,n,_,_,_,rfl,rfl,SqB.tup (s24 _ _ n1),rfl,?_⟩;refine⟨true,o,_,_,_,rfl,rfl,SqB.tup (s24 _ _ o1),rfl,?_⟩
  try ext
  refine⟨yA (oM (show(1:Int).natAbs<2^1 by decide)) (oM (show(1:Int).natAbs<2^1 by decide)) ∅,?_⟩;rw[show(1:Int)*1=1 by decide];obtain⟨xs,x1,x2,x3⟩:=(hC2.b (K:=K)).walk;have noB:∀(ys:List V),(∀(j:Nat) y,ys[j]?=some y->y=V.bl false)->ys=(List.replicate ys.length false).map V.bl:=λys h=>by
   refine xM (by rw[zqe,xO]) λj h1 h2=>?_;rw[wY,List.getElem_replicate];exact h j _ (zqd h1)
  have anyF:∀n:Nat,(List.replicate n false).any id=false:=λn=>by
   rw[uH];intro z hz;rw[wS hz]
   decide
  left;exfalso;refine⟨false,⟨_,x1⟩,λa1 ha1=>?_⟩;refine oT (λj y _=>y=V.bl false) ha1 x1 (by rw[x2,lM];omega) (λ_ _ _ _ h _=>h) ?_ ?_
  ·intro j y H5 zs ey s5 ez Q' hQ';obtain⟨pr,r,rfl,er,hp⟩:=x3 j y ey;have hrl:r.length=d:=sM.2 r (zqb er);subst eB;show tCB _ _ [some (.ref pr),some (.int 1)] H5 Q';ext;exfalso;refine⟨false,⟨_,hp.up s5⟩,λa3 ha3=>?_⟩;refine oT (λk y _=>y=V.bl false) ha3 (hp.up s5) (by rw[zqe];omega) (λ_ _ _ _ h _=>h) ?_ ?_
   ·intro k y H6 zs6 ey6 s6 ez6 Q6 hQ6;obtain⟨n',hn',rfl⟩:=nQ ey6;subst eB;show tOp _ _ _ [some (.int n'),some (.int 1)] H6 Q6;ext;have:=fms n' 1 ∅;refine⟨∅,hQ6 _ _ (Same.refl _) ?_⟩;rw[show n'.fmod 1=0 by omega];rfl
   ·intro H6 ys s6 e6 hly hr6;have ey:=noB ys hr6;refine⟨a3,rfl,List.replicate ys.length false,by rw[←ey];exact SqL.of e6,?_⟩;rw[anyF];exact hQ' _ _ s6 rfl
  ·intro H5 ys s5 e5 hly hr5;have ey:=noB ys hr5;refine⟨a1,rfl,List.replicate ys.length false,by rw[←ey];exact SqL.of e5,?_⟩;rw[anyF]
   try ext
   have s05:=s04.trans s5;have x1':=SqB.up x1 s5;left;exfalso;refine⟨false,⟨_,x1'⟩,λa2 ha2=>?_⟩;refine oT (RowR a2 λj=>M.getD j []) ha2 x1' (by rw[x2,lM];omega) (RowR.mono (a:=a2)) ?_ ?_
   ·intro j y H6 zs ey6 s6 ez6 Q6 hQ6;obtain⟨pr,r,rfl,er,hp⟩:=x3 j y ey6;have hrl:r.length=d:=sM.2 r (zqb er);have erD:M.getD j []=r:=by rw[zqc,er];rfl
    have hp6:=(hp.up s5).up s6;subst eB;show nE _ _ _ _ _ [some (.ref pr),some (.int 1)] H6 Q6;exfalso;refine⟨false,⟨_,hp6⟩,λa3 ha3=>?_⟩;refine oT (λk y _=>∃n,r[k]?=some n/\y=.int n) ha3 hp6 (by rw[zqe];omega) (λ_ _ _ _ h _=>h) ?_ ?_
    ·intro k y H7 zs7 ey7 s7 ez7 Q7 hQ7;obtain⟨n',hn',rfl⟩:=nQ ey7;subst eB;show tOp _ _ _ [some (.int n'),some (.int 1)] H7 Q7;ext;refine⟨⟨∅,∅⟩,hQ7 _ _ (Same.refl _) ⟨n',hn',?_⟩⟩;rw[uZ]
    ·intro H7 ys7 s7 e7 hly7 hr7;have ey7:ys7=r.map V.int:=oZ (by rw[hly7,zqe]) hr7;subst ey7;exact hQ6 _ _ s7 ⟨a3,rfl,yE (nK ez6 ha3),by dsimp only;rw[erD];exact e7⟩
   ·intro H6 ys6 s6 e6 hly6 hr6;have hR:=MatL.of e6 hr6;have e:(List.range ys6.length).map (λj=>M.getD j [])=M:=by
     rw[hly6,x2];refine xM (by rw[zqe,List.length_range]) λi h1 h2=>?_;rw[wY,List.getElem_range,zqc,zqd h2];rfl
    rw[e]at hR;have s06:=s05.trans s6;obtain⟨v,so,w1,w2,w3⟩:=hW.up s06;symm;refine⟨true,q,_,_,_,rfl,rfl,SqB.tup w1,rfl,?_⟩;have fi:Fine d M ts u:=⟨sM,lt,u0,bM.le ∅,bt.le ∅,by have:u<2^150:=u1;omega⟩;refine⟨p,so,M,ts,List.replicate d 0,u,1,d,rfl,hD.up s06,w3.s,fi,⋯,⋯,xO,λz hz=>by rw[wS hz];exact vF _,∅,∅,λr7 H7 s7 hr7=>?_⟩;rw[(aL hd sM lt).1,uE]at hr7;obtain⟨r1,r2⟩:=kE u0 hg;rw[r1,r2]at hr7;refine⟨r7,q,d,ts,u,rfl,hW.up (s06.trans s7),hr7,hd,lt,u0,by have:u<2^150:=u1;omega,bt.le ∅,hg,λr8 H8 s8 hr8=>?_⟩;exact⟨false,false,a2,r8,M,ts,u,rfl,((hR.up s7).up s8).b,hr8,⋯,λr9 H9 s9 hr9=>hQ r9 H9 (((s06.trans s7).trans s8).trans s9) hr9⟩
def sp_1h(K:Frag):Sp:=λvs H Q _=>E4 λ(a s:Addr)(qs:LA)(d:Nat)=>A7 (vs=[.ref a,.ref s]) (H a=some (.lst (qs.map V.ref))) (qs.length=d) ((∀(i:Nat) q,qs[i]?=some q->oI H q ((idM d).getD i []) 1)) (oI H s (List.replicate d 0) 1) ((d=2\/d=3)) (∀r H',Same H H'->WyI K H' r d->Q (.ref r) H')
theorem ok_1h(T:Txt K mg t):FnOk P w K mg base CX0 6 t.a_1h t.d_1h py' (sp_1h K):=by
 have G_10:=@ok_10 P w K mg base t T;apply T.F_1h.ok sc_1h
 ·obtain⟨a,so,qs,d,rfl,ha,hl,hq,hs,hd,hQ⟩:=h;have G_1:FnOk P w K mg base CX0 (d+1) t.a_1 t.d_1 pM' (sp_1 K d):=ok_1 T d;refine⟨_,(pM (pZ (i:=2) sc_1h.nd rfl (Or.inr rfl) (oS T.z_len (pq 0)))
   (pM (oU (oR cG (pq 2) (nJ (pK pR (pK pR pL))) rfl)
   (pQ kQ)
   oY)
   (pM (oU (PW.pt (jP (kF (mJ (cY rfl) rfl T.z_any (nofun) (pK (oX (sc:=pN s_1h) (N:=N_1h) (fr:=[("axes",2)]) (te:=(tOp (rI0 λi j=>.bl (!decide (i=j))) (tCB (lN K) (pW (tOp (rIxB K) (tVar 0) (tC (.int 0))) tNil)) (tVar 1))) rfl rfl (nofun) rfl (nofun) (oH (pq 0)) (λ_ _ _ hE1=>(jZ lW (oS T.z_len (pS (pv 0))) (pv 1) (oP _)))) pL))) (gL (oR lW (oS T.z_len (pS (pq 1))) (pq 2) (oP _)))))
   (pQ kQ)
   oY)
   (pM (oU (oR mS (pU G_1 hr.mo T.F_1 (pK (oX (sc:=pN s_1h) (N:=N_1h) (fr:=[]) (te:=(tOp (rIxB K) (tVar 0) (tC (.int 0)))) rfl rfl (nofun) rfl (nofun) (oH (pq 0)) (λ_ _ _ hE1=>(pS (pv 0)))) pL)) pR (oP _))
   (pQ kQ)
   oY)
   (pQ (oA (nJ (pK (nS lO rfl T.z_tuple (nofun) (pK (oX (sc:=pN s_1h) (N:=N_1h) (fr:=[]) (te:=(nL (sp_10 K t.a_1u) [] E0 (pW (tOp (rIxB K) (tVar 0) (tC (.int 0))) (pW (tOp (rIxB K) (tVar 0) (tC (.int 1))) tNil)))) rfl rfl (nofun) rfl (nofun) (oH (pq 0)) (λ_ _ _ hE1=>(jG G_10 hr.mo rfl T.F_10.m T.F_10.kp T.F_10.b .nil iD (pK (pS (pv 0)) (pK (pS (pv 0)) pL))))) pL)) (pK (jG G_10 hr.mo rfl T.F_10.m T.F_10.kp T.F_10.b .nil iD (pK (pS (pq 1)) (pK (pS (pq 1)) pL))) pL))))))))),?_⟩
  show tSeq _ _ _ [some (.ref a),some (.ref so),none] H;right;refine⟨false,a,_,rfl,SqB.lst ha,?_⟩;rw[zqe,hl];left;refine⟨by show 2<=sizeLine;decide,λp1 hp1=>?_⟩;have s1:Same H (upd H p1 (.tup [.int 2,.int 3])):=Same.new hp1;refine⟨p1,_,rfl,.inr (SqT.of pV),rfl,rfl,_,rfl,?_⟩;generalize upd H p1 (.tup [.int 2,.int 3])=H1 at s1;rw[inV2,zK (show(d:Int)=2\/(d:Int)=3 by omega)];refine iteF ?_;have rowL:∀i,i<d->((idM d).getD i []).length=d:=λi hi=>by
   have hj:i<(idM d).length:=by rw[oN.1];exact hi
   exact oN.2 _ (by rw[zqc,zqd hj];exact xL hj)
  have lt':∀{i q},qs[i]?=some q->i<d:=λe=>by rw[←hl];exact(zqa e).1
  have hS:∀{H'},Same H H'->SqB false K H' a (qs.map V.ref):=λs=>SqB.lst (s _ _ ha);left;exfalso;refine⟨false,⟨_,hS s1⟩,λa1 ha1=>?_⟩;refine oT (λj y _=>y=V.bl false) ha1 (hS s1) (by rw[zqe];omega) (λ_ _ _ _ h _=>h) ?_ ?_
  ·intro j y H2 zs ey s2 ez Q' hQ';obtain⟨q,hq',rfl⟩:=lB ey;subst eB;show tOp _ _ _ [some (.ref q),some (.int d)] H2 Q';ext;refine kC ((hq j q hq').upS (s1.trans s2)) λx hx=>nU (b:=true) (SqB.tup hx) ?_
   try ext
   refine hQ' _ _ (Same.refl _) ?_;rw[rowL j (lt' hq'),zK rfl];rfl
  ·intro H2 ys s2 e2 hly hr2;have ey:ys=(List.replicate ys.length false).map V.bl:=by
    refine xM (by rw[zqe,xO]) λj h1 h2=>?_;rw[wY,List.getElem_replicate];exact hr2 j _ (zqd h1)
   have anyF:(List.replicate ys.length false).any id=false:=by
    rw[uH];intro z hz;rw[wS hz]
    decide
   refine⟨a1,rfl,List.replicate ys.length false,by rw[←ey];exact SqL.of e2,?_⟩;rw[anyF]
   try ext
   have s02:=s1.trans s2;refine kC (hs.upS s02) λx hx=>nU (b:=true) (SqB.tup hx) ?_
   try ext
   rw[xO,zK rfl];refine iteF ?_;have bI:nF 2 (idM d):=λr hr z hz=>yG (kM r hr z hz) ∅;left;exfalso;refine⟨false,⟨_,hS s02⟩,λa2 ha2=>?_⟩;refine oT (λj y _=>∃q,y=V.ref q/\SqT K H q (((idM d).getD j []).map V.int)) ha2 (hS s02) (by rw[zqe];omega) (λ_ _ _ _ h _=>h) ?_ ?_
   ·intro j y H3 zs ey s3 ez Q' hQ';obtain⟨q,hq',rfl⟩:=lB ey;obtain⟨z,z1,z2⟩:=hq j q hq';subst eB;show tOp _ _ _ [some (.ref q)] H3 Q';ext;exact⟨true,q,_,_,_,rfl,rfl,SqB.tup ((s02.trans s3) _ _ z1),rfl,hQ' _ _ (Same.refl _) ⟨z,rfl,SqT.of z2⟩⟩
   ·intro H3 ys3 s3 e3 hly3 hr3;have s03:=s02.trans s3;have hps:∃ps:LA,ys3=ps.map V.ref/\Paired (λq r=>SqT K H q (r.map V.int)) ps (idM d):=fP (by rw[hly3,zqe,hl,oN.1]) λj y ej=>by
     obtain⟨q,f1,f2⟩:=hr3 j y ej;have hj:j<(idM d).length:=by rw[oN.1,←hl,←zqe (f:=V.ref),←hly3];exact(zqa ej).1
     obtain⟨r,er⟩:=mI rfl hj;exact⟨q,r,f1,er,by rw[zqc,er]at f2;exact f2⟩
    obtain⟨ps,rfl,hp⟩:=hps;have hM:MatB false true K H3 a2 (idM d):=⟨ps,SqB.lst e3,nP hp,λi q r e2 e3=>by
     obtain⟨r',er,z⟩:=lC hp e2;rw[e3]at er;cases er;exact nM s03 _ _ z⟩
    refine bY ⋯ ⋯ hM oN bI ∅ λH4 s4=>?_;rw[Dp hd]
    try ext
    have s04:=s03.trans s4;rw[zN ∅];refine iteF ?_;obtain⟨c1,c2⟩:=(⟨λi hi=>kE (u:=1) (ns:=(idM d).getD i []) ∅ (iH _),kE (u:=1) (ns:=List.replicate d 0) ∅ (iH _)⟩:(∀i,i<d->redT 1 ((idM d).getD i [])=(idM d).getD i []/\redU 1 ((idM d).getD i [])=1)/\(redT 1 (List.replicate d 0)=List.replicate d 0/\redU 1 (List.replicate d 0)=1));symm;exfalso;refine⟨false,⟨_,hS s04⟩,λa3 ha3=>?_⟩;refine oT (λj y H'=>∃q',y=V.ref q'/\oI (offH a3 H') q' ((idM d).getD j []) 1) ha3 (hS s04) (by rw[zqe];omega) (λ_ _ _ _⟨q',f1,f2⟩sx=>⟨q',f1,f2.upS (dI sx)⟩) ?_ ?_
    ·intro j y H5 zs ey s5 ez Q' hQ';obtain⟨q,hq',rfl⟩:=lB ey;have hj:=lt' hq';have hP:=(hq j q hq').upS (s04.trans s5);subst eB;show nL _ _ _ _ [some (.ref q)] H5 Q';ext;refine kC hP λx hx=>jD hP ?_;refine⟨true,x,_,1,rfl,SqB.tup hx,by rw[rowL j hj];omega,lR (B:=1) ∅ ∅,λz=>?_,λ_ _ r H6 s6 hR=>?_⟩
     ·rcases z with z|z
      ·omega
      ·have:=rowL j hj;rw[z]at this;simp at this;omega
     ·rw[(c1 j hj).1,(c1 j hj).2]at hR;obtain⟨z,z1,z2⟩:=hR;have tk:=gE (K:=K) (s6 _ _ ez);exact hQ' _ _ s6 ⟨r,rfl,z,tk.k _ _ z1,tk.k _ _ z2⟩
    ·intro H5 ys5 s5 e5 hly5 hr5;have hps:∃ps:LA,ys5=ps.map V.ref/\Paired (λq r=>oI H5 q r 1) ps (idM d):=fP (by rw[hly5,zqe,hl,oN.1]) λj y ej=>by
      obtain⟨q,f1,f2⟩:=hr5 j y ej;have hj:j<(idM d).length:=by rw[oN.1,←hl,←zqe (f:=V.ref),←hly5];exact(zqa ej).1
      obtain⟨r,er⟩:=mI rfl hj;exact⟨q,r,f1,er,by rw[zqc,er]at f2;exact f2.upS dH⟩
     obtain⟨ps5,rfl,hp5⟩:=hps;refine⟨a3,_,rfl,.inl ⟨SqL.of e5,λl hl1=>?_⟩⟩;have s6:Same H5 (upd H5 l (.tup (ps5.map V.ref))):=Same.new hl1;have el:(upd H5 l (.tup (ps5.map V.ref))) l=some (.tup (ps5.map V.ref)):=pV;generalize upd H5 l (.tup (ps5.map V.ref))=H6 at s6 el;have hP6:=hs.upS ((s04.trans s5).trans s6);refine kC hP6 λx hx=>jD hP6 ?_;refine⟨true,x,_,1,rfl,SqB.tup hx,by rw[xO];omega,lR (B:=1) ∅ ∅,λz=>?_,λ_ _ r H7 s7 hR=>?_⟩
     ·rcases z with z|z
      ·omega
      ·have:=wC List.length z;rw[xO]at this;simp at this;omega
     ·rw[c2.1,c2.2]at hR;refine⟨(by show 2<=sizeLine;decide),λp' hp'=>?_⟩;have s8:Same H7 (upd H7 p' (.tup [.ref l,.ref r])):=Same.new hp';refine hQ p' _ ((((s04.trans s5).trans s6).trans s7).trans s8) ⟨l,r,pV,⟨ps5,SqT.of (s8 _ _ (s7 _ _ el)),(nP hp5).trans oN.1,λi q e=>?_⟩,hR.upS s8⟩;obtain⟨r',er,z⟩:=lC hp5 e;have:(idM d).getD i []=r':=by rw[zqc,er];rfl
      rw[this];exact z.upS ((s6.trans s7).trans s8)
noncomputable def ldX(σ ω:SP')(T:List Dd):List Dd:=(T.filter λx=>decide (Kp σ ω x)).map (exD σ ω)
theorem Ky{σ ω:SP'}{T:List Dd}{x:Dd}:ldX σ ω (T++[x])=ldX σ ω T++if Kp σ ω x then[exD σ ω x] else[]:=by
 unfold ldX;rw[List.filter_append,xD];congr 1
 by_cases h:Kp σ ω x
 ·rw[zJ h,List.filter_cons_of_pos (by simpa using h)];rfl
 ·rw[zI h,List.filter_cons_of_neg (by simpa using h)];rfl
theorem Vo{σ ω:SP'}{T:List Dd}:(ldX σ ω T).length<=T.length:=by
 unfold ldX;rw[zqe];exact List.length_filter_le _ _
def DlAt(K:Frag)(H:Hp)(r:Addr)(L:List Dd):Prop:=∃ps:LA,H r=some (.lst (ps.map V.ref))/\Paired (λp x=>Dt K H (.ref p) (dat x)) ps L
def sp_j(K:Frag)(t:Adr):Sp:=λvs H Q _=>E8 λ(g q o:Addr)(d:Nat)(ms:List Dd)(srt:Tb)(σ ω:SP')=>A10 (vs=[.ref g,.ref q,.ref o]) (GrpF K t H g d ms srt) ((d=2\/d=3)) ((∀y∈srt,MbOk d y.1)) (srt.length<=200) (oI H q σ.1 σ.2) (SpOk d σ) (oI H o ω.1 ω.2) (SpW d ω) (∀r H',Same H H'->DlAt K H' r (ldX σ ω (srt.map (·.1)))->Q (.ref r) H')
theorem Vn{d:Nat}{ω:SP'}{ms:LI'}(hω:SpW d ω)(hm:nA 120 ms):nA 126 (gapT ω.2 ω.1 ms):=λz hz=>by
 obtain⟨i,n,m,en,em,rfl⟩:=aO hz;exact Jc hω.pos (hω.bits _ (zqb en)) (hm _ (zqb em))
theorem Kx{d:Nat}:nF 200000 (idM d):=λr hr z hz=>zE (show z.natAbs<2^1 from yG (kM r hr z hz) ∅) (zW ∅ ∅)
theorem Vm{d:Nat}(hd:d=2\/d=3){σ ω:SP'}{x:Dd}(hσ:SpOk d σ)(hω:SpW d ω)(hx:MbOk d x):(redU (ω.2*mvU σ x) (sumT ω.1 ω.2 ((mvT σ x).map (-·)) (mvU σ x))=1↔Kp σ ω x)/\(Kp σ ω x->redT (ω.2*mvU σ x) (sumT ω.1 ω.2 ((mvT σ x).map (-·)) (mvU σ x))=gapT ω.2 ω.1 (mvT σ x)):=by
 have mo:=iN hd hσ hx;have key:Kp σ ω x->redU (ω.2*mvU σ x) (sumT ω.1 ω.2 ((mvT σ x).map (-·)) (mvU σ x))=1/\redT (ω.2*mvU σ x) (sumT ω.1 ω.2 ((mvT σ x).map (-·)) (mvU σ x))=gapT ω.2 ω.1 (mvT σ x):=λk=>by
  have:=Ua (ns:=ω.1) (ms:=mvT σ x) (hω.len.trans mo.len.symm) hω.pos k.2;rw[k.1];exact this
 exact⟨⟨λh=>Ub (hω.len.trans mo.len.symm) hω.pos mo.pos hω.low mo.low h,λk=>(key k).1⟩,λk=>(key k).2⟩
theorem ok_j(T:Txt K mg t):FnOk P w K mg base CX0 9 t.a_j t.d_j po' (sp_j K t):=by
 have G_2:=@ok_2 P w K mg base t T;have G_q:=@ok_q P w K mg base t T;have G_1i:=@ok_1i P w K mg base t T;have G_1g:=@ok_1g P w K mg base t T;have G_1p:=@ok_1p P w K mg base t T;apply T.F_j.ok sc_j
 ·have hu:=hr.units;obtain⟨g,q,o,d,ms,srt,σ,ω,rfl,hG,hd,hm,l200,hP,hσ,hO,hω,hQ⟩:=h;refine⟨_,(pM (pZ (i:=3) sc_j.nd rfl (Or.inl rfl) (lG pL))
   (pM (mX yS rfl (oH (iQ (C:=t.a_d) (pq 0) T.cl_d T.me_2 G_2 hr.mo T.b_2 .nil lL)) (oV (i:=4) sc_j.nd rfl (Or.inl rfl))
   (pM (pZ (i:=5) sc_j.nd rfl (Or.inl rfl) (pU G_q hr.mo T.F_q (pK (pq 2) (pK (pU G_1i hr.mo T.F_1i (pK (pq 4) (pK (pq 1) pL))) pL))))
   (pQ (oU (oR mS (pS (pq 5)) pR (oP _))
   (pQ (kP (cH vX vN vQ fX (pq 3) (pK (pU G_1g hr.mo T.F_1g (pK (pq 4) (pK (pU G_1p hr.mo T.F_1p (pK (pq 5) pL)) pL))) pL))))
   oY))))
   (pQ (oA (pq 3))))),?_⟩
  show tSeq _ _ _ [some (.ref g),some (.ref q),some (.ref o),none,none,none] H;right;refine⟨by show 0<=sizeLine;decide,λr hr0=>?_⟩;have s1:Same H (upd H r (.lst [])):=Same.new hr0;have er:(upd H r (.lst [])) r=some (.lst ([]:List V)):=pV;generalize upd H r (.lst [])=H1 at s1 er;subst e1;refine st λN1 e1=>mZ λB eB=>?_;simp only[iSeq];ext;simp only[kS];ext;have hG1:=hG.up s1;obtain⟨dx,lg,lo',ls',ln',i1,_⟩:=id hG1;refine⟨dx,_,i1,rfl,g,d,ms,srt,rfl,hG1,λl os H2 s2 hl0 hl hos=>?_⟩;have ll:os.length=srt.length:=nP hos;refine⟨false,l,rfl,⟨_,SqB.lst hl⟩,?_⟩;have lr:l≠r:=λz=>by rw[z,er]at hl0;cases hl0
  have s02:=s1.trans s2;refine kI (b:=false) (g:=pY 4) (tb:=B) (λi τ H'=>∃(ps:LA)(v4 v5:Option V),τ=[some (.ref g),some (.ref q),some (.ref o),some (.ref r),v4,v5]/\Same H H'/\H' l=some (.lst (os.map V.ref))/\Paired (λp x=>Dt K H' (.ref p) (dat x.1)) os srt/\H' r=some (.lst (ps.map V.ref))/\Paired (λp x=>Dt K H' (.ref p) (dat x)) ps (ldX σ ω ((srt.map (·.1)).take i)))
   ⟨[],none,none,rfl,s02,hl,hos,s2 _ _ er,.nil⟩ (λi τ H' _⟨_,_,_,_,_,h,_⟩=>SqB.lst h) ?_ ?_
  ·rintro i y τ H3 ey ⟨ps,v4,v5,rfl,s3,hl3,ho3,er3,hp3⟩;obtain⟨m,hq',rfl⟩:=lB ey;obtain⟨x,ex,hx3⟩:=lC ho3 hq';have mx:=hm x (zqb ex);have fx:=mx.fine;have mo:=iN hd hσ mx;have ex1:(srt.map (·.1))[i]?=some x.1:=by rw[zC,ex];rfl
   have tk1:(srt.map (·.1)).take (i+1)=(srt.map (·.1)).take i++[x.1]:=Ct ex1;obtain⟨kg1,kg2⟩:=Vm hd hσ hω mx;subst eB;show tSeq _ _ _ [some (.ref g),some (.ref q),some (.ref o),some (.ref r),some (.ref m),v5] H3;refine st λN2 e2=>?_;ext;have v1:=hσ.le;have v2:=mo.le;have v3:=hω.le;refine⟨m,q,x.1.1,x.1.2.1,σ.1,x.1.2.2,σ.2,d,rfl,fO hx3,(hP.upS s3).s,fx,⋯,⋯,hσ.len,hσ.bits.le ∅,hσ.pos,⋯,λr4 H4 s4 hr4=>?_⟩;refine⟨o,r4,ω.1,mvT σ x.1,ω.2,mvU σ x.1,d,rfl,hO.upS (s3.trans s4),hr4,hω.len,mo.len,hd,hω.bits.le ∅,mo.bits.le ∅,hω.pos,⋯,mo.pos,⋯,λr5 H5 s5 hr5=>?_⟩;have s35:=s4.trans s5;have hl5:=s35 _ _ hl3;have er5:=s35 _ _ er3;have ho5:=Paired.mapP ho3 λ_(z:Dd×List Nat)h=>mC (nM s35) 4 (mP z.1) h;have hp5:=Paired.mapP hp3 λ_(z:Dd)h=>mC (nM s35) 4 (mP z) h;have hx5:Dt K H5 (.ref m) (dat x.1):=mC (nM s35) 4 (mP x.1) hx3;have s05:=s3.trans s35;subst e2;ext;refine gD hr5.s ?_
   by_cases hk:Kp σ ω x.1
   case neg =>
    try ext
    rw[zN (λz=>hk (kg1.mp z))]
    try ext
    refine⟨s05,hl5,ho5,ps,er5,?_⟩;rw[tk1,Ky,zI hk,vG];exact hp5
   have k1:=kg1.mpr hk;rw[k1,kg2 hk]at hr5;rw[k1]
   try ext
   refine⟨tyL er5,?_⟩;have lg:=Du (v:=ω.2) hω.len mo.len;refine⟨r5,gapT ω.2 ω.1 (mvT σ x.1),1,d,rfl,hr5,lg,hd,∅,lR (B:=1) ∅ ∅,λr6 H6 s6 hr6=>?_⟩;obtain⟨a1,a2⟩:=kE (u:=1) (ns:=gapT ω.2 ω.1 (mvT σ x.1)) ∅ (iH _);rw[a1,a2]at hr6;have fg:Fine d (idM d) (gapT ω.2 ω.1 (mvT σ x.1)) 1:=⟨oN,lg,∅,Kx,(Vn hω mo.bits).le ∅,∅⟩;refine⟨m,r6,x.1.1,idM d,x.1.2.1,gapT ω.2 ω.1 (mvT σ x.1),x.1.2.2,1,d,rfl,(fO hx5).up s6,hr6.s,fx,fg,⋯,⋯,λr7 H7 s7 hr7=>?_⟩;have hr7':DdAt K H7 r7 (behD d x.1 (idM d,gapT ω.2 ω.1 (mvT σ x.1),1)):=hr7;rw[Vw hd hσ hω mx]at hr7';have s57:=s6.trans s7;have er7:=s57 _ _ er5;have lps:ps.length<=200:=by
    rw[nP hp5];refine yL Vo ?_;rw[yW,zqe];omega
   refine⟨r,_,_,rfl,rfl,er7,by rw[zqe];exact yL (show ps.length+1<=1000 by omega) ∅,?_⟩;have tk:TK K H7 (upd H7 r (.lst (ps.map V.ref++[.ref r7]))):=TK.off er7 (λ_ z=>by cases z) (λ_ _ z=>by cases z) λ_ hc=>oE hc;refine⟨Same.over hr0 (s05.trans s57),by rw[oE lr];exact s57 _ _ hl5,Paired.mapP ho5 λ_(z:Dd×List Nat)h=>mC tk.t 4 (mP z.1) (mC (nM s57) 4 (mP z.1) h),ps++[r7],by rw[pV,xD];rfl,?_⟩;rw[tk1,Ky,zJ hk];exact tY (Paired.mapP hp5 λ_(z:Dd)h=>mC tk.t 4 (mP z) (mC (nM s57) 4 (mP z) h)) (mC tk.t 4 (mP _) hr7'.dt)
  ·rintro τ H3 ⟨ps,v4,v5,rfl,s3,hl3,ho3,er3,hp3⟩;rw[zqe,ll,←zqe (f:=λx:Dd×List Nat=>x.1),vS]at hp3;symm;exact hQ r H3 s3 ⟨ps,er3,hp3⟩
theorem Vl{α β:Type}{F:α->β->Prop}{ps qs:List α}{ms ns:List β}(h:Paired F ps ms)(h':Paired F qs ns):Paired F (ps++qs) (ms++ns):=by
 induction h with
 |nil=>exact h'
 |cons h _ ih=>exact .cons h ih
def sp_7(K:Frag)(t:Adr):Sp:=λvs H Q _=>E9 λ(g wy:Addr)(k p:Nat)(L:List Stp)(S:LI')(su:Int)(ms:List Dd)(srt:Tb)=>A7 (vs=[.ref g,.ref wy,.int 200]) (GrpF K t H g (famD k) ms srt) (WyI K H wy (famD k)) (kL k p L S su) ((∀m∈ms,InF (frm k p L S su) (oB m))) (srt.Perm (tab (famD k) (ms.map oB) 192)) (∀g' ms' srt' H',Same H H'->GrpF K t H' g' (famD k) ms' srt'->(∀x,x∈srt'.map (·.1)↔x∈srt.map (·.1))->srt'.length<=200->Q (.ref g') H')
theorem ok_7(T:Txt K mg t):FnOk P w K mg base CX0 16 t.a_7 t.d_7 pt' (sp_7 K t):=by
 have G_p:=@ok_p P w K mg base t T;have G_a:=@ok_a P w K mg base t T;have G_o:=@ok_o P w K mg base t T;have G_g:=@ok_g P w K mg base t T;have G_2:=@ok_2 P w K mg base t T;have G_t:=@ok_t P w K mg base t T;have G_1l:=@ok_1l P w K mg base t T;have G_h:=@ok_h P w K mg base t T;have G_1p:=@ok_1p P w K mg base t T;have G_14:=@ok_14 P w K mg base t T;apply T.F_7.ok sc_7
 ·have hu:=hr.units;obtain⟨g,wy,k,p,L,S,su,ms,srt,rfl,hG,hW,ok,hms,pm,hQ⟩:=h;have hd:=mW k;have okF:=ok.frm;have hss:∀s∈ms.map oB,InF (frm k p L S su) s:=λs h=>by
   obtain⟨m,hm,rfl⟩:=qW.mp h;exact hms m hm
  have tb:=fN okF hss 192;have lsrt:srt.length<=192:=by rw[pm.length_eq];exact tb.1
  have hin:∀y∈srt,InF (frm k p L S su) y.1:=λy hy=>tb.2 y (pm.mem_iff.mp hy);have hm:∀y∈srt,MbOk (famD k) y.1:=λy hy=>Ji ok (hin y hy);have hst:oQ (famD k)∈srt.map (·.1):=(pm.map (·.1)).mem_iff.mpr (qW.mpr ⟨_,fK,rfl⟩);refine⟨_,(pM (kP (pU G_p hr.mo T.F_p (pK (pq 2) pL)))
   (pM (kP (pU G_a hr.mo T.F_a (pK (iQ (C:=t.a_d) (pq 0) T.cl_d T.me_g G_g hr.mo T.b_g .nil lL) (pK (pq 1) pL))))
   (pM (kP (pU G_o hr.mo T.F_o (pK (pq 0) (pK (pS (pq 1)) pL))))
   (pM (kZ (i:=3) (sc:=pN s_7) (N:=N_7) (fr:=[("way",1)]) (te:=(nL (sp_t K) [] E0 (pW (tVar 0) (pW (tVar 1) tNil)))) rfl rfl (nofun) rfl sc_7.nd rfl rfl (nofun) (oH (iQ (C:=t.a_d) (pq 0) T.cl_d T.me_2 G_2 hr.mo T.b_2 .nil lL)) (λ_ _ _ hE1=>(pU G_t hr.mo T.F_t (pK (pv 0) (pK (pv 1) pL)))))
   (pM (oU (oR fT (pU G_1l hr.mo T.F_1l (pK (oS T.z_len (pq 3)) (pK (pS (pq 1)) pL))) (pq 2) (oP _))
   (pQ kQ)
   oY)
   (pM (kZ (i:=4) (sc:=pN s_7) (N:=N_7) (fr:=[]) (te:=(tTup (pW (tCB (iU K) (pW (tVar 0) tNil)) (pW (tC (.int 1)) tNil)))) rfl rfl (nofun) rfl sc_7.nd rfl rfl (nofun) (oH (pU G_h hr.mo T.F_h (pK (iQ (C:=t.a_d) (pq 0) T.cl_d T.me_g G_g hr.mo T.b_g .nil lL) pL))) (λ_ _ _ hE1=>(nJ (pK (nS lO rfl T.z_tuple (nofun) (pK (pv 0) pL)) (pK pR pL)))))
   (pQ (oA (pU G_14 hr.mo T.F_14 (pK (iQ (C:=t.a_d) (pq 0) T.cl_d T.me_g G_g hr.mo T.b_g .nil lL) (pK (pO cI (pq 3) (oX (sc:=pN s_7) (N:=N_7) (fr:=[("way",1)]) (te:=(nL (sp_t K) [] E0 (pW (nL (sp_1p K) [] E0 (pW (tVar 0) tNil)) (pW (tVar 1) tNil)))) rfl rfl (nofun) rfl (nofun) (oH (pq 4)) (λ_ _ _ hE1=>(pU G_t hr.mo T.F_t (pK (pU G_1p hr.mo T.F_1p (pK (pv 0) pL)) (pK (pv 1) pL)))))) pL))))))))))),?_⟩
  show tSeq _ _ _ [some (.ref g),some (.ref wy),some (.int 200),none,none] H;right;refine⟨200,rfl,∅,∅,?_⟩;left;simp only[kS];ext;obtain⟨dx,lg,lo,ls,ln,i1,_⟩:=id hG;refine⟨dx,_,i1,rfl,g,famD k,ms,srt,rfl,hG,wy,famD k,rfl,hW,?_⟩;obtain⟨wv,wq,w1,w2,w3⟩:=id hW;have kW:∀{H'},Same H H'->SqB true K H' wy [.ref wv,.ref wq]:=λs=>SqB.tup (s _ _ w1);left;refine⟨true,wy,_,_,_,rfl,rfl,kW (Same.refl _),rfl,?_⟩;refine⟨g,wv,famD k,ms,srt,rfl,hG,w2,hd,hst,λH1 s1=>?_⟩;left;refine oG λB eB=>?_;simp only[iSeq,kS];ext;have hG1:=hG.up s1;obtain⟨dx1,lg1,lo1,ls1,ln1,j1,_⟩:=id hG1;refine⟨dx1,_,j1,rfl,g,famD k,ms,srt,rfl,hG1,λl os H2 s2 hl0 hl hos=>?_⟩;have lo':os.length=srt.length:=nP hos;have s02:=s1.trans s2;refine⟨false,l,rfl,⟨_,SqB.lst hl⟩,λa1 ha1=>?_⟩;refine oT (DdR K a1 (srt.map (·.1))) ha1 (SqB.lst hl) (by rw[zqe];omega) DdR.mono ?_ ?_
  ·intro j y H3 zs ey s3 ez Q' hQ';obtain⟨m,hq',rfl⟩:=lB ey;obtain⟨x,ex,hx⟩:=lC hos hq';have mx:=hm x (zqb ex);have x1:=mx.le;subst eB;show nL _ _ _ _ [some (.ref m),some (.ref wy)] H3 Q';ext;refine⟨m,wy,famD k,x.1,rfl,(fO hx).up s3,hW.up (s02.trans s3),hd,mx.sq,mx.len,⟨mx.pos,⋯⟩,mx.bm.le ∅,λz hz=>?_,mx.low,λr H4 s4 hr4=>?_⟩
   ·have b3:=mx.bt z hz;exact zE (show z.natAbs<2^7 by omega) (zW ∅ ∅)
   ·exact hQ' _ _ s4 ⟨r,x.1,rfl,by rw[zC,ex];rfl,hr4.tk (gE (s4 _ _ ez))⟩
  ·intro H3 ys s3 e3 hly hr3;obtain⟨qs,rfl,hqs⟩:=aC (by rw[hly,zqe,zqe];exact lo') hr3;have lq:qs.length=srt.length:=by rw[nP hqs,zqe]
   have s03:=s02.trans s3;left;refine⟨false,a1,_,rfl,SqB.lst e3,true,wy,_,_,_,rfl,rfl,kW s03,rfl,?_⟩;rw[zqe,lq];refine⟨srt.length,famD k,wv,rfl,w2.up s03,hd,⋯,λH4 s4=>?_⟩
   try ext
   have s04:=s03.trans s4;rw[zN ⋯];refine iteF ?_;have hG4:=hG.up s04;obtain⟨dx4,lg4,lo4,ls4,ln4,j4,_⟩:=id hG4;left;exfalso;simp only[kS];ext;refine⟨dx4,_,j4,rfl,g,famD k,ms,srt,rfl,hG4,famD k,rfl,⋯,λr5 H5 hr0 s5 hr5=>?_⟩;obtain⟨xs,x1,x2,x3⟩:=(hr5.b (K:=K)).walk;have l1:=(oN (d:=famD k)).1;have rowL:∀i,i<famD k->((idM (famD k)).getD i []).length=famD k:=λi hi=>by
    have hj:i<(idM (famD k)).length:=by rw[oN.1];exact hi
    exact oN.2 _ (by rw[zqc,zqd hj];exact xL hj)
   refine⟨false,r5,rfl,⟨_,x1⟩,λa2 ha2=>?_⟩;refine oT (λj y H'=>∃q',y=V.ref q'/\oI (offH a2 H') q' ((idM (famD k)).getD j []) 1) ha2 x1 (by rw[x2,l1];omega) (λ_ _ _ _⟨q',f1,f2⟩sx=>⟨q',f1,f2.upS (dI sx)⟩) ?_ ?_
   ·intro j y H6 zs ey s6 ez Q' hQ';obtain⟨pr,r,rfl,er,hp⟩:=x3 j y ey;subst eB;show tTup _ [some (.ref pr)] H6 Q';ext;refine⟨pr,_,rfl,.inl ⟨hp.up s6,λl1 hl1=>?_⟩⟩;have s7:Same H6 (upd H6 l1 (.tup (r.map V.int))):=Same.new hl1;have el:(upd H6 l1 (.tup (r.map V.int))) l1=some (.tup (r.map V.int)):=pV;generalize upd H6 l1 (.tup (r.map V.int))=H7 at s7 el;refine⟨(by show 2<=sizeLine;decide),λp1 hp1=>?_⟩;have s8:Same H7 (upd H7 p1 (.tup [.ref l1,.int 1])):=Same.new hp1;have s68:=s7.trans s8;have tk:=gE (K:=K) (s68 _ _ ez);have erD:(idM (famD k)).getD j []=r:=by rw[zqc,er];rfl
    exact hQ' _ _ s68 ⟨p1,rfl,by rw[erD];exact⟨l1,tk.k _ _ pV,tk.k _ _ (s8 _ _ el)⟩⟩
   ·intro H6 ys s6 e6 hly6 hr6;have s06:=(s04.trans s5).trans s6;symm;simp only[kS];ext;have hps:∃ps:LA,ys=ps.map V.ref/\Paired (λq r=>oI H6 q r 1) ps (idM (famD k)):=fP (by rw[hly6,x2]) λj y ej=>by
     obtain⟨q,f1,f2⟩:=hr6 j y ej;have hj:j<(idM (famD k)).length:=by rw[←x2,←hly6];exact(zqa ej).1
     obtain⟨r,er⟩:=mI rfl hj;exact⟨q,r,f1,er,by rw[zqc,er]at f2;exact f2.upS dH⟩
    obtain⟨ps,rfl,hp⟩:=hps;have lps:ps.length=famD k:=(nP hp).trans l1;have hG6:=hG.up s06;obtain⟨dx6,lg6,lo6,ls6,ln6,j6,_⟩:=id hG6;refine⟨dx6,_,j6,rfl,g,famD k,ms,srt,rfl,hG6,?_⟩;exfalso;refine⟨false,⟨_,SqB.lst e6⟩,λa3 ha3=>?_⟩;refine oT (DdR K a3 ((idM (famD k)).map λr=>(idM (famD k),r,1))) ha3 (SqB.lst e6) (by rw[zqe];omega) DdR.mono ?_ ?_
    ·intro j y H7 zs ey s7 ez Q' hQ';obtain⟨q,hq',rfl⟩:=lB ey;obtain⟨r,er,hr7⟩:=lC hp hq';have hrl:r.length=famD k:=oN.2 r (zqb er);have rb:∀z∈r,z.natAbs<2^1:=λz hz=>yG (kM r (zqb er) z hz) ∅;subst eB;show nL _ _ _ _ [some (.ref q),some (.ref wy)] H7 Q';ext;refine⟨q,r,1,famD k,rfl,hr7.upS s7,hrl,hd,∅,lR (B:=1) ∅ ∅,λr8 H8 s8 hr8=>?_⟩;obtain⟨a1',a2'⟩:=kE (u:=1) (ns:=r) ∅ (iH _);rw[a1',a2']at hr8;refine⟨r8,wy,famD k,(idM (famD k),r,1),rfl,nZ.s hr8,hW.up ((s06.trans s7).trans s8),hd,oN,hrl,⟨by show(0:Int)<1;decide,by show(1:Int)<2^150;decide⟩,λr hr z hz=>zE (yG (kM r hr z hz) (∅:1<2^1)) (zW ∅ ∅),λz hz=>zE (rb z hz) (zW ∅ ∅),iH _,λr9 H9 s9 hr9=>?_⟩;have s79:=s8.trans s9;exact hQ' _ _ s79 ⟨r9,_,rfl,by rw[zC,er];rfl,hr9.tk (gE (s79 _ _ ez))⟩
    ·intro H7 ys7 s7 e7 hly7 hr7;obtain⟨us,rfl,hus⟩:=aC (by rw[hly7,zqe,zqe,lps,l1]) hr7;have lus:us.length=famD k:=by rw[nP hus,zqe,l1]
     have s37:=((s4.trans s5).trans s6).trans s7;have s07:=s06.trans s7;refine⟨a1,a3,_,_,rfl,rfl,s37 _ _ e3,e7,by rw[zqe,zqe];exact yL (show qs.length+us.length<=1000 by omega) ∅,λl8 hl8=>?_⟩;have s8:Same H7 (upd H7 l8 (.lst (qs.map V.ref++us.map V.ref))):=Same.new hl8;have e8:(upd H7 l8 (.lst (qs.map V.ref++us.map V.ref))) l8=some (.lst ((qs++us).map V.ref)):=by rw[pV,xD]
     generalize upd H7 l8 (.lst (qs.map V.ref++us.map V.ref))=H8 at s8 e8;have hin':∀m∈srt.map (·.1)++(idM (famD k)).map λr=>((idM (famD k),r,1):Dd),mQ (famD k) m/\oB m∈srt.map (·.1)/\InF (frm k p L S su) (oB m):=λm hm'=>by
      rcases pH.mp hm' with h|h
      ·obtain⟨y,hy,rfl⟩:=qW.mp h;have mx:=hm y hy;rw[mx.rest];exact⟨mx.fine,h,hin y hy⟩
      ·obtain⟨r,hr',rfl⟩:=qW.mp h;have hrl:r.length=famD k:=oN.2 r hr';rw[Kz hrl];exact⟨⟨oN,hrl,by show(0:Int)<1;decide,Kx,λz hz=>zE (yG (kM r hr' z hz) (∅:1<2^1)) (zW ∅ ∅),by show(1:Int)<_;decide⟩,hst,dQ okF⟩
     refine⟨false,l8,qs++us,_,k,p,L,S,su,rfl,SqB.lst e8,Vl (Paired.mapP hqs λ_ _ z=>(z.up s37).up s8) (Paired.mapP hus λ_ _ z=>z.up s8),ok,λm hm'=>⟨(hin' m hm').1,(hin' m hm').2.2⟩,by rw[zX,zqe,zqe,l1];omega,λg' ms' srt' H9 s9 hG9 gi hall=>?_⟩;have hss':∀s∈ms'.map oB,InF (frm k p L S su) s:=λs h=>by
      obtain⟨m,hm',rfl⟩:=qW.mp h;exact(hin' m (gi.sub m hm')).2.2
     have tb':=fN okF hss' 192;have G:=Uh okF hss (N:=192) (zG _);refine hQ g' ms' srt' H9 (s07.trans (s8.trans s9)) hG9 (λx=>⟨λhx=>?_,λhx=>?_⟩) (by rw[gi.pm.length_eq];exact yL tb'.1 ∅)
     ·obtain⟨y,hy,rfl⟩:=qW.mp hx;refine(pm.map (·.1)).mem_iff.mpr (Vs G (λs h=>?_) y (gi.pm.mem_iff.mp hy));obtain⟨m,hm',rfl⟩:=qW.mp h;exact(pm.map (·.1)).mem_iff.mp (hin' m (gi.sub m hm')).2.1
     ·have:=hall x (wA _ hx);obtain⟨y,hy,rfl⟩:=qW.mp hx;rw[(hm y hy).rest]at this;exact this
def sp_1c(K:Frag)(t:Adr):Sp:=λvs H Q _=>E8 λ(g q o:Addr)(d:Nat)(ms:List Dd)(srt:Tb)(σ ω:SP')=>A11 (vs=[.ref g,.ref q,.ref o]) (GrpF K t H g d ms srt) ((d=2\/d=3)) ((∀y∈srt,MbOk d y.1)) (srt.length<=200) (oI H q σ.1 σ.2) (SpOk d σ) (oI H o ω.1 ω.2) (SpW d ω) (((∀x∈srt.map (·.1),¬ Kp σ ω x)->∀H',Same H H'->Q .non H')) (∀r x H',Same H H'->x∈srt.map (·.1)->Kp σ ω x->Dt K H' (.ref r) (dat (exD σ ω x))->Q (.ref r) H')
theorem ok_1c(T:Txt K mg t):FnOk P w K mg base CX0 10 t.a_1c t.d_1c po' (sp_1c K t):=by
 have G_j:=@ok_j P w K mg base t T;apply T.F_1c.ok sc_1c
 ·obtain⟨g,q,o,d,ms,srt,σ,ω,rfl,hG,hd,hm,l200,hP,hσ,hO,hω,hQ1,hQ2⟩:=h;refine⟨_,(pM (pZ (i:=3) sc_1c.nd rfl (Or.inl rfl) (pU G_j hr.mo T.F_j (pK (pq 0) (pK (pq 1) (pK (pq 2) pL)))))
   (pQ (oA (aR (oR fT (oS T.z_len (pq 3)) pR (oP _)) (pS (pq 3)) dX)))),?_⟩
  show tSeq _ _ _ [some (.ref g),some (.ref q),some (.ref o),none] H;right;refine⟨g,q,o,d,ms,srt,σ,ω,rfl,hG,hd,hm,l200,hP,hσ,hO,hω,λr H1 s1 hL=>?_⟩;obtain⟨ps,h1,h2⟩:=hL;have lp:=nP h2;symm;refine⟨false,r,_,rfl,SqB.lst h1,_,_,rfl,rfl,_,rfl,?_⟩;rw[zqe,lp];have ld:∀z,z∈ldX σ ω (srt.map (·.1)) ↔ ∃x∈srt.map (·.1),Kp σ ω x/\z=exD σ ω x:=λz=>by
   unfold ldX;rw[qW];constructor
   ·rintro⟨x,hx,rfl⟩;obtain⟨a,b⟩:=List.mem_filter.mp hx;exact⟨x,a,yM b,rfl⟩
   ·rintro⟨x,hx,k,rfl⟩;exact⟨x,List.mem_filter.mpr ⟨hx,zK k⟩,rfl⟩
  generalize ldX σ ω (srt.map (·.1))=LL at h2 ld lp ⊢;cases h2 with
  |nil =>
   rw[zN (by simp)];exact iteF (hQ1 (λx hx k=>by have:=(ld _).mpr ⟨x,hx,k,rfl⟩;cases this) H1 s1)
  |@cons p0 z ps zs hz _ =>
   rw[zK (by simp)];obtain⟨x,hx,k,rfl⟩:=(ld z).mp (.head _);exact iteT (gF (i:=0) h1 rfl rfl (hQ2 p0 x H1 s1 hx k hz))
def iO(K:Frag)(H:Hp)(l:Addr)(srt:Tb):Prop:=∃os:LA,H l=some (.lst (os.map V.ref))/\Paired (λp x=>Dt K H (.ref p) (dat x.1)) os srt
theorem iO.up{K:Frag}{H H':Hp}{l:Addr}{srt:Tb}(h:iO K H l srt)(s:Same H H'):iO K H' l srt:=by
 obtain⟨os,h1,h2⟩:=h;exact⟨os,s _ _ h1,Paired.mapP h2 λ_(z:Dd×List Nat)h=>mC (nM s) 4 (mP z.1) h⟩
theorem Vk{K:Frag}{H:Hp}{l:Addr}{srt:Tb}{Q:VK}{n:Nat}{I:Int}{y:Dd×List Nat}(h:iO K H l srt)(e:srt[n]?=some y)(hI:I=n)(q:∀p,Dt K H (.ref p) (dat y.1)->Q (.ref p) H):rIxB K (.ref l) (.int I) H Q:=by
 obtain⟨os,h1,h2⟩:=h;obtain⟨p,ep⟩:=mI (nP h2) (zqa e).1;obtain⟨y',ey,hp⟩:=lC h2 ep;rw[e]at ey;cases ey;exact gF (i:=n) h1 (by rw[zC,ep];rfl) hI (q p hp)
theorem Vj{K:Frag}{H:Hp}{ps:LA}{L:List Dd}(h:Paired (λp x=>Dt K H (.ref p) (dat x)) ps L):∃qs:List (V×PyData),qs.map (·.1)=ps.map V.ref/\qs.map (·.2)=L.map dat/\∀q∈qs,Dt K H q.1 q.2:=by
 induction h with
 |nil=>exact⟨[],rfl,rfl,λq hq=>by cases hq⟩
 |@cons p x ps L hd _ ih =>
  obtain⟨qs,a,b,c⟩:=ih;refine⟨(.ref p,dat x):: qs,by rw[zL,zL,a],by rw[zL,zL,b],λq hq=>?_⟩;rcases xE.mp hq with e|e
  ·rw[e];exact hd
  ·exact c q e
theorem Vi{K:Frag}{H:Hp}{l:Addr}{srt:Tb}(h:iO K H l srt):DlAt K H l (srt.map (·.1)):=by
 obtain⟨os,h1,h2⟩:=h;refine⟨os,h1,?_⟩;clear h1
 induction h2 with
 |nil=>exact .nil
 |cons h _ ih=>exact .cons h ih
theorem Vh{K:Frag}{H:Hp}{l p:Addr}{L:List Dd}{x:Dd}{neg:Bool}{Q:VK}(h:DlAt K H l L)(hx:Dt K H (.ref p) (dat x))(m:x∈L)(q:Q (.bl (!neg)) H):rInD K neg (.ref p) (.ref l) H Q:=by
 obtain⟨ps,h1,h2⟩:=h;obtain⟨qs,a,b,c⟩:=Vj h2;have hq:∀y∈qs,tT 4 y.2=true/\Dt K H y.1 y.2:=λy hy=>by
  refine⟨?_,c y hy⟩;have:y.2∈L.map dat:=by rw[←b];exact qW.mpr ⟨y,hy,rfl⟩
  obtain⟨z,_,e⟩:=qW.mp this;rw[←e];exact mP z
 have an:(qs.any λy=>decide (y.2=dat x))=true:=by
  have:dat x∈qs.map (·.2):=by rw[b];exact qW.mpr ⟨x,m,rfl⟩
  obtain⟨y,hy,e⟩:=qW.mp this;exact List.any_eq_true.mpr ⟨y,hy,zK e⟩
 refine⟨l,qs,dat x,rfl,.inl (by rw[a];exact SqL.of h1),hq,mP x,hx,?_⟩;rw[an];cases neg <;> exact q
def sp_y(K:Frag):Sp:=λvs H Q _=>E9 λ(o l q p:Addr)(d:Nat)(srt:Tb)(σ ω:SP')(x:Dd)=>A12 (vs=[.ref o,.ref l,.ref q,.ref p]) (Dt K H (.ref o) (dat (exD σ ω x))) (iO K H l srt) (x∈srt.map (·.1)) (MbOk d x) (Kp σ ω x) (oI H q σ.1 σ.2) (SpOk d σ) (oI H p ω.1 ω.2) (SpW d ω) ((d=2\/d=3)) (∀H',Same H H'->Q (.bl true) H')
theorem ok_y(T:Txt K mg t):FnOk P w K mg base CX0 4 t.a_y t.d_y pc' (sp_y K):=by
 have G_m:=@ok_m P w K mg base t T;have G_v:=@ok_v P w K mg base t T;have G_f:=@ok_f P w K mg base t T;have G_8:=@ok_8 P w K mg base t T;have G_z:=@ok_z P w K mg base t T;apply T.F_y.ok sc_y
 ·have hu:=hr.units;obtain⟨o,l,q,p,d,srt,σ,ω,x,rfl,hz,hM,hx,mx,hk,hP,hσ,hO,hω,hd,hQ⟩:=h;have isT:∀(a:Addr)(xs:List V)(Q':VK)(H:Hp),SqT K H a xs->Q' (.bl true) H->rIsi K [.ref a,.ty "tuple"] H Q':=λa xs Q' H h1 h2=>⟨_,_,_,_,rfl,.tupS h1,rfl,T.h_f,h2⟩;have x1:=mx.le;have x2:=mx.pos;have v1:=hσ.le;have v2:=hσ.pos;have dS:DdS K H o (exD σ ω x):=fO hz;have lx':=Je hd hσ hω mx;obtain⟨kt,ku⟩:=Vx hd hσ hω mx hk;obtain⟨w0,w1,g1,g2,g3⟩:=id dS;have kR:∀{H'},Same H H'->SqB true K H' o [.ref w0,.ref w1,.int x.2.2]:=λs=>nM s _ _ g1;have kN:∀{H'},Same H H'->SqB true K H' w1 ((exD σ ω x).2.1.map V.int):=λs=>nM s _ _ g3;refine⟨_,(pM (oU (PW.pt (jP (jY (kF (mJ cJ rfl T.z_isinstance (nofun) (pK (pq 0) (pK (dZ (v:=.ty "tuple") rfl T.z_tuple (nofun) rfl) pL))))) (jP (oR lW (oS T.z_len (pq 0)) pR (oP _)) (jP (jY (kF (pU G_m hr.mo T.F_m (pK (pS (pq 0)) pL)))) (gL (jY (kF (pU G_v hr.mo T.F_v (pK (pS (pq 0)) pL)))))))))
   (pQ (oA kO))
   oY)
   (pM (oU (PW.pt (jP (oR lW (oS T.z_len (pS (pq 0))) (oS T.z_len (pS (pq 2))) (oP _)) (jP (oR fS (pS (pq 0)) pR (oP _)) (gL (oR (Nx hu) (pU G_f hr.mo T.F_f (pK (pS (pq 0)) (pK (pS (pq 0)) pL))) (nJ (pK (pS (pq 0)) (pK (pS (pq 0)) pL))) (oP _))))))
   (pQ (oA kO))
   oY)
   (pM (oU (oR (Rp hu) (nJ (pK (pS (pq 0)) (pK (pS (pU G_z hr.mo T.F_z (pK (nJ (pK (pS (pq 0)) (pK (pS (pq 0)) pL))) pL))) (pK (pS (pq 0)) pL)))) (pq 1) rfl)
   (pQ (oA kO))
   oY)
   (pQ (oA (jZ (Ed hu) (pU G_8 hr.mo T.F_8 (pK (pq 0) (pK (pq 2) pL))) (pq 3) (oP _))))))),?_⟩
  show tSeq _ _ _ [some (.ref o),some (.ref l),some (.ref q),some (.ref p)] H;right;refine isT o _ _ _ (kR (Same.refl _)) ?_;ext;refine⟨true,o,_,rfl,kR (Same.refl _),_,_,rfl,rfl,_,rfl,iteF ?_⟩;refine⟨true,o,_,_,_,rfl,rfl,kR (Same.refl _),rfl,?_⟩;refine⟨w1,(exD σ ω x).2.1,rfl,g3,⋯,λH1 s1=>?_⟩;refine⟨true,rfl,iteF ?_⟩;refine⟨true,o,_,_,_,rfl,rfl,kR s1,rfl,?_⟩;refine⟨x.2.2,rfl,true,rfl,iteF ?_⟩;left;refine⟨true,o,_,_,_,rfl,rfl,kR s1,rfl,nU (kN s1) ?_⟩;refine jV (hP.upS s1).s λzq hzq=>nU (b:=true) hzq ?_;refine⟨_,_,rfl,rfl,_,rfl,?_⟩;rw[lx',hσ.len,zK rfl];refine iteF ⟨true,o,_,_,_,rfl,rfl,kR s1,rfl,_,_,rfl,rfl,_,rfl,?_⟩;rw[zN (show¬ x.2.2<1 by omega)];refine iteF ⟨true,o,_,_,_,rfl,rfl,kR s1,rfl,true,o,_,_,_,rfl,rfl,kR s1,rfl,?_⟩;refine⟨true,w1,(exD σ ω x).2.1,x.2.2,rfl,kN s1,⋯,x2,lR (B:=20) ⋯ ∅,λr2 H2 s2 hr2=>?_⟩;have s02:=s1.trans s2;obtain⟨r1,r2'⟩:=kE x2 (Jd hd hσ hω mx);rw[r1,r2']at hr2;refine⟨true,o,_,_,_,rfl,rfl,kR s02,rfl,true,o,_,_,_,rfl,rfl,kR s02,rfl,?_⟩;refine⟨(by show 2<=sizeLine;decide),λp1 hp1=>?_⟩;have s3:Same H2 (upd H2 p1 (.tup [.ref w1,.int x.2.2])):=Same.new hp1;have ep1:(upd H2 p1 (.tup [.ref w1,.int x.2.2])) p1=some (.tup [.ref w1,.int x.2.2]):=pV;generalize upd H2 p1 (.tup [.ref w1,.int x.2.2])=H3 at s3 ep1;have s03:=s02.trans s3;refine Ow 3 ∅ (PlS.dt (hr2.upS s3).s) (PlS.dt (K:=K) ⟨w1,SqT.of ep1,kN s03⟩) (aN _ _) (aN _ _) (b:=true) (by simp) ?_
  try ext
  left;refine⟨true,o,_,_,_,rfl,rfl,kR s03,rfl,true,o,_,_,_,rfl,rfl,kR s03,rfl,true,o,_,_,_,rfl,rfl,kR s03,rfl,?_⟩;refine⟨(by show 2<=sizeLine;decide),λp5 hp5=>?_⟩;have s5:Same H3 (upd H3 p5 (.tup [.ref w1,.int x.2.2])):=Same.new hp5;have ep5:(upd H3 p5 (.tup [.ref w1,.int x.2.2])) p5=some (.tup [.ref w1,.int x.2.2]):=pV;generalize upd H3 p5 (.tup [.ref w1,.int x.2.2])=H5 at s5 ep5;have s05:=s03.trans s5;refine⟨p5,(exD σ ω x).2.1,x.2.2,rfl,⟨w1,SqT.of ep5,kN s05⟩,⋯,x2,λr6 H6 s6 hr6=>?_⟩;have er:oB (exD σ ω x)=x:=Vz hd hσ hω mx;have er2:oO x.2.2 (exD σ ω x).2.1=x.2.1:=wC (λz:Dd=>z.2.1) er;rw[er2]at hr6;have s06:=s05.trans s6;refine jV hr6.s λz6 hz6=>?_;refine⟨true,o,_,_,_,rfl,rfl,kR s06,rfl,?_⟩;refine⟨(by show 3<=sizeLine;decide),λp7 hp7=>?_⟩;have s7:Same H6 (upd H6 p7 (.tup [.ref w0,.ref z6,.int x.2.2])):=Same.new hp7;have ep7:(upd H6 p7 (.tup [.ref w0,.ref z6,.int x.2.2])) p7=some (.tup [.ref w0,.ref z6,.int x.2.2]):=pV;generalize upd H6 p7 (.tup [.ref w0,.ref z6,.int x.2.2])=H7 at s7 ep7;have s07:=s06.trans s7;have hx7:Dt K H7 (.ref p7) (dat x):=DdS.dt (x:=x) ⟨w0,z6,SqT.of ep7,g2.up s07,nM s7 _ _ hz6⟩;refine Vh (Vi (hM.up s07)) hx7 hx ⟨_,rfl,iteF ?_⟩;symm;refine⟨o,q,exD σ ω x,σ.1,σ.2,d,rfl,dS.up s07,(hP.upS s07).s,mx.sq,hd,lx',hσ.len,mx.bm.le ∅,(Vy hd hσ hω mx).le ∅,hσ.bits.le ∅,x2,by show x.2.2<2^150;omega,v2,⋯,λr4 H8 s8 hr4=>?_⟩;have hr4':oI H8 r4 (mvT σ (exD σ ω x)) (mvU σ (exD σ ω x)):=hr4;rw[kt,ku]at hr4';have s08:=s07.trans s8;exact Fq 3 ∅ (PlS.dt hr4'.s) (PlS.dt (hO.upS s08).s) (aN _ _) (aN _ _) (b:=true) (by simp) (hQ H8 s08)
theorem Vg{B:Nat}{w:Int}{TT:LI'}(h0:0<w)(hb:nA B TT):nA B (redT w TT):=λz hz=>by
 obtain⟨t,ht,hl⟩:=(dO (ts:=TT) h0).1 z hz;exact yG hl (hb t ht)
theorem Kw{d:Nat}{TT:LI'}{w:Int}(hl:TT.length=d)(h0:0<w)(h1:w<=288)(hb:nA 60 TT):SpOk d (redT w TT,redU w TT):=by
 obtain⟨_,r2,r3⟩:=dO (ts:=TT) h0;exact⟨by rw[Jh];exact hl,Vg h0 hb,r2,qH r3 h1,Cu ⋯⟩
noncomputable def jX(v:Int)(ns fs:LI'):LI':=List.zipWith (λn f=>n+f*v) ns fs
theorem Kv{d:Nat}{v:Int}{ns fs:LI'}(h1:ns.length=d)(h2:fs.length=d):Cong v (jX v ns fs) ns:=by
 refine⟨by show(List.zipWith _ _ _).length=_;rw[yH,h1,h2,wT],λi a b ea eb=>?_⟩;obtain⟨f,ef⟩:=mI h2 (aP h1 eb);have ea':(jX v ns fs)[i]?=some (b+f*v):=jW eb ef;rw[ea']at ea;cases ea;exact⟨f,by rw[wR];omega⟩
def sp_l(K:Frag):Sp:=λvs H Q _=>E11 λ(c:Int)(l q fq:Addr)(k p:Nat)(L:List Stp)(S:LI')(su:Int)(srt:Tb)(σ:SP')=>A10 (vs=[.int c,.ref l,.ref q,.ref fq]) (iO K H l srt) ((∀y∈srt,MbOk (famD k) y.1)) (0<srt.length) (srt.length<=200) (oI H q σ.1 σ.2) (SpOk (famD k) σ) (gH H fq k p L S su) (kL k p L S su) (∀r o b H'(ω:SP'),Same H H'->H' r=some (.tup [.ref o,.bl b])->oI H' o ω.1 ω.2->SpW (famD k) ω->(b=true->∃x∈srt.map (·.1),Kp σ ω x)->Q (.ref r) H')
theorem ok_l(T:Txt K mg t):FnOk P w K mg base CX0 4 t.a_l t.d_l pb' (sp_l K):=by
 have G_5:=@ok_5 P w K mg base t T;have G_8:=@ok_8 P w K mg base t T;have G_b:=@ok_b P w K mg base t T;apply T.F_l.ok sc_l
 ·have hu:=hr.units;obtain⟨c,l,q,fq,k,p,L,S,su,srt,σ,rfl,hM,hm,n0,l200,hP,hσ,hF,ok,hQ⟩:=h;have hd:=mW k;have dv:∀x y:Int,y≠0->y.natAbs<1073741824->lH x y:=λx y h1 h2=>⟨h1,zE ((tU ⋯).mpr (show y.natAbs<2^30 from h2)) ∅⟩;refine⟨_,(pM (oU (oR mS (pO nN (pq 0) pR) pR (oP _))
   (pQ (oA (nJ (pK (pU G_5 hr.mo T.F_5 (pK (pO nX (pq 0) pR) (pK (pq 3) pL))) (pK kO pL)))))
   oY)
   (pM (pZ (i:=4) sc_l.nd rfl (Or.inr rfl) (pU G_8 hr.mo T.F_8 (pK (nD ix_B (pq 1) (pO nN (pO nX (pq 0) pR) (oS T.z_len (pq 1))) (λ_ _=>rfl)) (pK (pq 2) pL))))
   (pM (pZ (i:=5) sc_l.nd rfl (Or.inr rfl) (oX (sc:=pN fE) (N:=N_l) (fr:=[]) (te:=(tOp (rI0 λi j=>.int (i-j)) (tOp (rI (λ_ j=>j≠0) λi j=>.int (i.fmod j)) (tOp (rI0 λi j=>.int (i+j)) (tVar 0) (tC (.int 3))) (tC (.int 7))) (tC (.int 3)))) rfl rfl (nofun) rfl (nofun) (oH (pU G_b hr.mo T.F_b (pK (pO nX (pq 0) pR) (pK pR (pK (oS T.z_len (pS (pq 2))) pL))))) (λ_ _ _ hE1=>(pO jE (pO nN (pO nR (pv 0) pR) pR) pR))))
   (pM (oU (oR mS (pO nN (pq 0) pR) pR (oP _))
   (pM (pZ (i:=6) sc_l.nd rfl (Or.inr rfl) (pO Ls pR pR))
   (pQ (pZ (i:=5) sc_l.nd rfl (Or.inr rfl) (oX (sc:=pN fE) (N:=N_l) (fr:=[("_law_most",6)]) (te:=(tOp (rI0 λi j=>.int (i-j)) (tOp (rI (λ_ j=>j≠0) λi j=>.int (i.fmod j)) (tOp (rI0 λi j=>.int (i+j)) (tVar 0) (tVar 1)) (tOp (rI0 λi j=>.int (i+j)) (tOp (rI (λi j=>IntMulOk i j) λi j=>.int (i*j)) (tC (.int 2)) (tVar 1)) (tC (.int 1)))) (tVar 1))) rfl rfl (nofun) rfl (nofun) (oH (pU G_b hr.mo T.F_b (pK (pO nX (pq 0) pR) (pK (pO nR (pO oW pR (pq 6)) pR) (pK (oS T.z_len (pq 5)) pL))))) (λ_ _ _ hE1=>(pO jE (pO nN (pO nR (pv 0) (pv 1)) (pO nR (pO oW pR (pv 1)) pR)) (pv 1)))))))
   oY)
   (pM (kZ (i:=7) (sc:=pN fE) (N:=N_l) (fr:=[("_law_reached_here",4),("_law_far",5)]) (te:=(tOp (rI0 λi j=>.int (i+j)) (tOp (rIxB K) (tOp (rIxB K) (tVar 1) (tC (.int 0))) (tVar 0)) (tOp (rI (λi j=>IntMulOk i j) λi j=>.int (i*j)) (tOp (rIxB K) (tVar 2) (tVar 0)) (tOp (rIxB K) (tVar 1) (tC (.int 1)))))) rfl rfl (nofun) rfl sc_l.nd rfl rfl (nofun) (nW rfl T.z_range (pK (oS T.z_len (pq 5)) pL)) (λ_ _ _ hE1=>(pO nR (nD ix_B (pS (pv 1)) (pv 0) (λ_ _=>rfl)) (pO oW (nD ix_B (pv 2) (pv 0) (λ_ _=>rfl)) (pS (pv 1))))))
   (pQ (oA (nJ (pK (nJ (pK (nS lO rfl T.z_tuple (nofun) (pK (pq 7) pL)) (pK (pS (pq 4)) pL))) (pK kO pL)))))))))),?_⟩
  show tSeq _ _ _ [some (.int c),some (.ref l),some (.ref q),some (.ref fq),none,none,none,none] H;right;refine⟨∅,ite2 (λ_=>?_) λ_=>?_⟩
  ·refine⟨dv _ _ ∅ ∅,?_⟩;refine⟨_,fq,k,p,L,S,su,rfl,hF,ok,λo H1 TT w s1 ho w0 w1 lT bT=>?_⟩;refine⟨(by show 2<=sizeLine;decide),λr hr0=>?_⟩;have s2:Same H1 (upd H1 r (.tup [.ref o,.bl false])):=Same.new hr0;exact hQ r o false _ (redT w TT,redU w TT) (s1.trans s2) pV (ho.upS s2) (Kw lT w0 ⋯ (bT.le ∅)).wid λz=>by cases z
  obtain⟨os,o1,o2⟩:=id hM;have lo:os.length=srt.length:=nP o2;left;refine⟨dv _ _ ∅ ∅,?_⟩;refine⟨false,l,_,rfl,SqB.lst o1,?_⟩;rw[zqe,lo];have fm:=fms (c.fdiv 3) srt.length ⋯;refine⟨_,_,rfl,rfl,⋯,?_⟩;obtain⟨n,en⟩:=xG fm.1;have hn:n<srt.length:=⋯
  obtain⟨y0,ey⟩:=mI (l:=srt) rfl hn;refine Vk (I:=(c.fdiv 3).fmod srt.length) hM ey en λmp hmp=>?_;have mx:=hm y0 (zqb ey);have mo:=iN hd hσ mx;have x1:=mx.le;have x2:=mx.pos;have v1:=hσ.le;have v2:=hσ.pos;have bt':nA 7 y0.1.2.1:=λz hz=>by have:=mx.bt z hz;have e:(2:Nat)^7=128:=rfl;omega
  refine⟨mp,q,y0.1,σ.1,σ.2,famD k,rfl,fO hmp,hP.s,mx.sq,hd,mx.len,hσ.len,mx.bm.le ∅,bt'.le ∅,hσ.bits.le ∅,x2,⋯,v2,⋯,λr1 H1 s1 hr1=>?_⟩;have hr1':oI H1 r1 (mvT σ y0.1) (mvU σ y0.1):=hr1;clear hr1;left;exfalso;refine⟨dv _ _ ∅ ∅,?_⟩;refine jV (hP.upS s1).s λzq hzq=>nU (b:=true) hzq ?_;rw[hσ.len];refine⟨_,7,famD k,rfl,∅,∅,⋯,λd1 H2 ds s2 hd0 ed ld bd=>?_⟩;refine⟨false,d1,rfl,⟨_,SqB.lst ed⟩,λa1 ha1=>?_⟩;refine oT (λj y _=>∃n,(ds.map λn=>(n+3).fmod 7-3)[j]?=some n/\y=.int n) ha1 (SqB.lst ed) (by rw[zqe];omega) (λ_ _ _ _ h _=>h) ?_ ?_
  ·intro j v H3 zs hv _ _ Q' hQ';obtain⟨n,hn,rfl⟩:=nQ hv;subst eB;show tOp _ _ _ [some (.int n)] H3 Q';ext;exact⟨∅,hQ' _ H3 (Same.refl _) ⟨_,by rw[zC,hn];rfl,rfl⟩⟩
  intro H3 ys s3 e3 hly hr3;have ey3:ys=(ds.map λn=>(n+3).fmod 7-3).map V.int:=oZ (by rw[hly];simp) hr3;subst ey3;have s13:=s2.trans s3;have lf1:(ds.map λn=>(n+3).fmod 7-3).length=famD k:=by rw[zqe];exact ld
  have bf1:∀f∈ds.map λn=>(n+3).fmod 7-3,f.natAbs<=1000000000:=λf hf=>by
   obtain⟨n,_,rfl⟩:=qW.mp hf;have:=fms (n+3) 7 ∅;omega
  generalize (ds.map λn=>(n+3).fmod 7-3)=fs at e3 lf1 bf1;subst e1;refine st λN1 e1=>?_;have go:∀(a1:Addr)(v6:Option V)(fs:LI') H2,Same H1 H2->H2 a1=some (.lst (fs.map V.int))->fs.length=famD k->(∀f∈fs,f.natAbs<=1000000000)->N1 [some (.int c),some (.ref l),some (.ref q),some (.ref fq),some (.ref r1),some (.ref a1),v6,none] H2:=by
   intro a1 v6 fs H2 s2 ea1 lf bf;left;refine oG λB eB=>?_;simp only[nI];ext;refine nU (SqB.lst ea1) ?_;rw[lf];refine⟨_,rfl,⋯,⋯,λa2 ha2=>?_⟩;rw[zS];have lr:=mo.len;refine mG (λj y _=>∃n,(jX (mvU σ y0.1) (mvT σ y0.1) fs)[j]?=some n/\y=.int n) ha2 ⋯ (λ_ _ _ _ r _=>r) ?_ ?_
   ·intro j H4 zs hj s4 ez Q2 hQ2;obtain⟨n,en'⟩:=mI lr hj;obtain⟨f,ef⟩:=mI lf hj;have hr4:=hr1'.upS (s2.trans s4);subst eB;show tOp _ _ _ [some (.int (0+(j:Int))),some (.ref r1),some (.ref a1)] H4 Q2;ext;refine jV hr4.s λz hz=>?_;refine⟨true,z,_,_,_,rfl,rfl,(hz:SqB true K H4 z _),nY (mU en') ⋯,?_⟩;refine⟨false,a1,_,_,_,rfl,rfl,SqB.lst (s4 _ _ ea1),nY (mU ef) ⋯,?_⟩;refine gD hr4.s ?_
    try ext
    have:=bf f (zqb ef);have u1:=mo.le;have u2:=mo.pos;exact⟨wJ (wO ⋯ ⋯),hQ2 _ _ (Same.refl _) ⟨_,jW en' ef,rfl⟩⟩
   ·intro H4 ys s4 e4 hly4 hr4;have lm:=(Kv (v:=mvU σ y0.1) lr lf).1;have ey4:ys=(jX (mvU σ y0.1) (mvT σ y0.1) fs).map V.int:=oZ (by rw[hly4,lm,lr]) hr4;subst ey4;symm;refine⟨a2,_,rfl,.inl ⟨SqL.of e4,λl5 hl5=>?_⟩⟩;have s5:Same H4 (upd H4 l5 (.tup ((jX (mvU σ y0.1) (mvT σ y0.1) fs).map V.int))):=Same.new hl5;have el:(upd H4 l5 (.tup ((jX (mvU σ y0.1) (mvT σ y0.1) fs).map V.int))) l5=some (.tup ((jX (mvU σ y0.1) (mvT σ y0.1) fs).map V.int)):=pV;generalize upd H4 l5 (.tup ((jX (mvU σ y0.1) (mvT σ y0.1) fs).map V.int))=H5 at s5 el;have s15:=(s2.trans s4).trans s5;refine gD (hr1'.upS s15).s ?_;refine⟨(by show 2<=sizeLine;decide),λo ho=>⟨(by show 2<=sizeLine;decide),λr hr0=>?_⟩⟩;have s6:Same H5 (upd H5 o (.tup [.ref l5,.int (mvU σ y0.1)])):=Same.new ho;have eo:(upd H5 o (.tup [.ref l5,.int (mvU σ y0.1)])) o=some (.tup [.ref l5,.int (mvU σ y0.1)]):=pV;generalize upd H5 o (.tup [.ref l5,.int (mvU σ y0.1)])=H6 at s6 eo hr0;have s7:Same H6 (upd H6 r (.tup [.ref o,.bl true])):=Same.new hr0;have cg:=Kv (v:=mvU σ y0.1) lr lf;refine hQ r o true _ (jX (mvU σ y0.1) (mvT σ y0.1) fs,mvU σ y0.1) (((s1.trans s15).trans s6).trans s7) pV ⟨l5,s7 _ _ eo,s7 _ _ (s6 _ _ el)⟩ ⟨lm.trans lr,λz hz=>?_,mo.pos,mo.le,cg.gl.trans mo.low⟩ λ_=>⟨y0.1,qW.mpr ⟨y0,zqb ey,rfl⟩,rfl,(cg.rest_eq mo.pos).symm⟩;obtain⟨i,n,f,en',ef,rfl⟩:=aO (show z∈List.zipWith _ _ _ from hz);exact nab2 (mo.bits _ (zqb en')) (nabm (show f.natAbs<2^30 from yG (bf f (zqb ef)) ∅) (aQ mo.pos mo.le (∅:72*288<2^15))) ∅
  ext;refine⟨∅,ite2 (λ_=>?_) λ_=>go a1 none fs H3 s13 e3 lf1 bf1⟩;refine⟨⟨∅,∅,∅⟩,?_⟩;rw[show(10:Int)^Int.toNat 9=1000000000 by decide];exfalso;refine⟨dv _ _ ∅ ∅,xZ ∅,?_⟩;refine nU (SqB.lst e3) ?_;rw[lf1];refine⟨_,2*1000000000+1,famD k,rfl,∅,∅,⋯,λd4 H4 ds4 s4 hd4 ed4 ld4 bd4=>?_⟩;refine⟨false,d4,rfl,⟨_,SqB.lst ed4⟩,λa4 ha4=>?_⟩;refine oT (λj y _=>∃n,(ds4.map λn=>(n+1000000000).fmod (2*1000000000+1)-1000000000)[j]?=some n/\y=.int n) ha4 (SqB.lst ed4) (by rw[zqe];omega) (λ_ _ _ _ h _=>h) ?_ ?_
  ·intro j v H5 zs hv _ _ Q' hQ';obtain⟨n,hn,rfl⟩:=nQ hv;subst eB;show tOp _ _ _ [some (.int n),some (.int 1000000000)] H5 Q';ext;exact⟨xZ ∅,∅,hQ' _ H5 (Same.refl _) ⟨_,by rw[zC,hn];rfl,rfl⟩⟩
  intro H5 ys s5 e5 hly5 hr5;have ey5:ys=(ds4.map λn=>(n+1000000000).fmod (2*1000000000+1)-1000000000).map V.int:=oZ (by rw[hly5];simp) hr5;subst ey5;refine go a4 _ _ H5 ((s13.trans s4).trans s5) e5 (by rw[zqe];exact ld4) λf hf=>?_;obtain⟨n,_,rfl⟩:=qW.mp hf;have:=fms (n+1000000000) (2*1000000000+1) ∅;omega
def PlL(K:Frag)(H:Hp)(a:Addr)(D:List (SP')):Prop:=∃qs:LA,H a=some (.lst (qs.map V.ref))/\Paired (λp(e:SP')=>Dt K H (.ref p) (plD e.1 e.2)) qs D
theorem Vf{K:Frag}{H:Hp}{l p:Addr}{D:List (SP')}{ns:LI'}{u:Int}{Q:VK}(h:PlL K H l D)(hx:Dt K H (.ref p) (plD ns u))(m:(ns,u)∉D)(q:Q (.bl false) H):rInD K false (.ref p) (.ref l) H Q:=by
 obtain⟨ps,h1,h2⟩:=h;have hq:∃qs:List (V×PyData),qs.map (·.1)=ps.map V.ref/\qs.map (·.2)=D.map (λe=>plD e.1 e.2)/\∀q∈qs,tT 4 q.2=true/\Dt K H q.1 q.2:=by
  clear h1 m
  induction h2 with
  |nil=>exact⟨[],rfl,rfl,λq hq=>by cases hq⟩
  |@cons p x ps L hd _ ih =>
   obtain⟨qs,a,b,c⟩:=ih;refine⟨(.ref p,plD x.1 x.2):: qs,by rw[zL,zL,a],by rw[zL,zL,b],λq hq=>?_⟩;rcases xE.mp hq with e|e
   ·rw[e];exact⟨pl_t _ _,hd⟩
   ·exact c q e
 obtain⟨qs,a,b,c⟩:=hq;have an:(qs.any λy=>decide (y.2=plD ns u))=false:=by
  rw[uH];intro y hy e;have:y.2∈qs.map (·.2):=qW.mpr ⟨y,hy,rfl⟩;rw[b]at this;obtain⟨z,hz,ez⟩:=qW.mp this;rw[yM e]at ez;obtain⟨e1,e2⟩:=Vv.mp ez;exact m (by rw[←e1,←e2];exact hz)
 refine⟨l,qs,plD ns u,rfl,.inl (by rw[a];exact SqL.of h1),c,pl_t _ _,hx,?_⟩;rw[an];exact q
theorem Ve{d:Nat}(hd:d=2\/d=3){σ:SP'}(hσ:SpOk d σ):Kp σ σ (oQ d):=by
 have e:mvT σ (oQ d)=σ.1/\mvU σ (oQ d)=σ.2:=by
  show redT (1*σ.2) (movT (idM d) (List.replicate d 0) 1 σ.1 σ.2)=σ.1/\redU (1*σ.2) (movT (idM d) (List.replicate d 0) 1 σ.1 σ.2)=σ.2;rw[(aL hd oN hσ.len).2,uB];exact kE hσ.pos hσ.low
 exact⟨e.2,by rw[e.1]⟩
theorem Ku{K:Frag}{H:Hp}{F:List Int×Int->Prop}:∀{ys:List V},(∀(j:Nat) y,ys[j]?=some y->∃p e,y=V.ref p/\F e/\Dt K H (.ref p) (plD e.1 e.2))->∃(ps:LA)(D:List (SP')),ys=ps.map V.ref/\Paired (λp(e:SP')=>Dt K H (.ref p) (plD e.1 e.2)) ps D/\∀e∈D,F e
 |[],_=>⟨[],[],rfl,.nil,λe he=>by cases he⟩
 |y:: ys,h=>by
  obtain⟨p,e,rfl,he,hd⟩:=h 0 y rfl;obtain⟨ps,D,e1,h1,h2⟩:=Ku (K:=K) (H:=H) (F:=F) (ys:=ys) λj z ej=>h (j+1) z (by simpa using ej);refine⟨p:: ps,e:: D,by rw[e1];rfl,.cons hd h1,λz hz=>?_⟩;rcases xE.mp hz with q|q
  ·rw[q];exact he
  ·exact h2 z q
theorem ok_1r(T:Txt K mg t):FnOk P w K mg base CX0 18 t.a_1r t.d_1r pE' (Ea K):=by
 have G_k:=@ok_k P w K mg base t T;have G_i:=@ok_i P w K mg base t T;have G_e:=@ok_e P w K mg base t T;have G_0:=@ok_0 P w K mg base t T;have G_2:=@ok_2 P w K mg base t T;have G_5:=@ok_5 P w K mg base t T;have G_8:=@ok_8 P w K mg base t T;have G_z:=@ok_z P w K mg base t T;have G_y:=@ok_y P w K mg base t T;have G_1c:=@ok_1c P w K mg base t T;have G_1h:=@ok_1h P w K mg base t T;have G_7:=@ok_7 P w K mg base t T;have G_l:=@ok_l P w K mg base t T;apply T.F_1r.ok sc_1r
 ·have hu:=hr.units;obtain⟨a,ns,rfl,hS,hlen,hbits,hQ⟩:=h;have hS':SqB false K H a (ns.map V.int):=hS;refine⟨_,(pM (pZ (i:=1) sc_1r.nd rfl (Or.inl rfl) (pU G_k hr.mo T.F_k (pK (pq 0) pL)))
   (pM (pZ (i:=2) sc_1r.nd rfl (Or.inl rfl) (pU G_i hr.mo T.F_i (pK (fW sl_B (pq 0) (iB pR) (iB (pO nR pR (pO nN (pO nX (pU G_e hr.mo T.F_e (pK (pq 0) (pK pR pL))) pR) pR)))) (pK (pq 1) pL))))
   (pM (pZ (i:=3) sc_1r.nd rfl (Or.inl rfl) (aZ (C:=t.a_d) (T.mk_d) G_0 hr.mo rfl T.m_d T.bd_Group___init__ (dvs:=[.int 200]) (.cons ⟨_,rfl⟩ .nil) lL (pK (oS T.z_len (pS (pS (pq 1)))) (pK (pq 2) pL))))
   (pM (pZ (i:=4) sc_1r.nd rfl (Or.inr rfl) (iQ (C:=t.a_d) (pq 3) T.cl_d T.me_2 G_2 hr.mo T.b_2 .nil lL))
   (pM (pZ (i:=5) sc_1r.nd rfl (Or.inr rfl) (pU G_5 hr.mo T.F_5 (pK (pU G_e hr.mo T.F_e (pK (pq 0) (pK pR pL))) (pK (pq 1) pL))))
   (pM (oU (jY (kF (pU G_y hr.mo T.F_y (pK (pU G_1c hr.mo T.F_1c (pK (pq 3) (pK (pq 5) (pK (pq 5) pL)))) (pK (pq 4) (pK (pq 5) (pK (pq 5) pL)))))))
   (pQ (oA kO))
   oY)
   (pM (iR (i:=6) (xs:=["_law_i"]) (fr:=[("_law_spot",5)]) (g:=(pY 0)) (tt:=(tEl (tTup (pW (tCB (iU K) (pW (nE (nI (pW (tCB (lN K) (pW (tOp (rIxB K) (tVar 1) (tC (.int 0))) tNil)) tNil)) (pY 0) (tEl (tCB (λxs H Q=>(∃i,xs=[.int i]/\Q (.int i) H)\/∃k,xs=[.bl k]/\Q (.int (if k then 1 else 0)) H) (pW (tOp (rI0 λi j=>.bl (decide (i=j))) (tVar 1) (tVar 0)) tNil))) 1 [("_law_i",0)]) tNil)) (pW (tC (.int 1)) tNil))))) (mF (sc:=pN s_1r) (N:=N_1r) rfl rfl (nofun)) rfl sc_1r.nd rfl rfl (nW rfl T.z_range (pK (oS T.z_len (pS (pq 5))) pL)) (λ_ _ _ hE1=>(kH (N:=["_law_i","_law_spot"]) (i:=0) hE1 rfl (nofun) rfl)) (λ_ _ _ hE1=>(mK (nJ (pK (nS lO rfl T.z_tuple (nofun) (pK (oX (N:=["_law_i","_law_spot"]) (fr:=[("_law_i",0)]) (te:=(tCB (λxs H Q=>(∃i,xs=[.int i]/\Q (.int i) H)\/∃k,xs=[.bl k]/\Q (.int (if k then 1 else 0)) H) (pW (tOp (rI0 λi j=>.bl (decide (i=j))) (tVar 1) (tVar 0)) tNil))) hE1 rfl (nofun) rfl (nofun) (nW rfl T.z_range (pK (oS T.z_len (pS (pv 1))) pL)) (λ_ _ _ hE2=>(nS aW rfl T.z_int (nofun) (pK (jZ mS (pv 1) (pv 0) (oP _)) pL)))) pL)) (pK pR pL))))))
   (pM (pZ (i:=7) sc_1r.nd rfl (Or.inl rfl) (jG G_7 hr.mo rfl T.m_7 T.F_7.kp T.bd_changed (dvs:=[.int 200]) (.cons ⟨_,rfl⟩ .nil) lL (pK (pq 3) (pK (pU G_1h hr.mo T.F_1h (pK (pq 6) (pK (nJ (pK (nS lO rfl T.z_tuple (nofun) (pK (oX (sc:=pN s_1r) (N:=N_1r) (fr:=[]) (te:=(tC (.int 0))) rfl rfl (nofun) rfl (nofun) (oH (pS (pq 5))) (λ_ _ _ hE1=>pR)) pL)) (pK pR pL))) pL))) pL))))
   (pM (oU (jY (kF (pU G_y hr.mo T.F_y (pK (pU G_1c hr.mo T.F_1c (pK (pq 7) (pK (pq 5) (pK (pq 5) pL)))) (pK (pq 4) (pK (pq 5) (pK (pq 5) pL)))))))
   (pQ (oA kO))
   oY)
   (pM (pZ (i:=8) sc_1r.nd rfl (Or.inl rfl) (fW sl_B (pq 0) (iB pR) (iB pR)))
   (pM (mX yS rfl (oH (pq 8)) (oV (i:=9) sc_1r.nd rfl (Or.inl rfl))
   (pM (jQ (pU G_l hr.mo T.F_l (pK (pq 9) (pK (pq 4) (pK (pq 5) (pK (pq 1) pL))))) (lE rfl (nB (oV (i:=10) sc_1r.nd rfl (Or.inl rfl)) (nB (oV (i:=11) sc_1r.nd rfl (Or.inl rfl)) lD))))
   (pM (pZ (i:=12) sc_1r.nd rfl (Or.inl rfl) (pU G_1c hr.mo T.F_1c (pK (nD ix_B (lG (pK (pq 3) (pK (pq 7) pL))) (pO nN (pO nX (pq 9) pR) pR) (λ_ _=>rfl)) (pK (pq 5) (pK (pq 10) pL)))))
   (pQ (oU (oR aV (pq 12) dX (oP _))
   (pM (kZ (i:=13) (sc:=pN s_1r) (N:=N_1r) (fr:=[("_law_members",4)]) (te:=(tOp (rIxB K) (tVar 1) (tOp (rI (λ_ j=>j≠0) λi j=>.int (i.fmod j)) (tVar 0) (tCB (lN K) (pW (tVar 1) tNil))))) rfl rfl (nofun) rfl sc_1r.nd rfl rfl (nofun) (oH (pq 8)) (λ_ _ _ hE1=>(nD ix_B (pv 1) (pO nN (pv 0) (oS T.z_len (pv 1))) (λ_ _=>rfl))))
   (pM (kZ (i:=14) (sc:=pN s_1r) (N:=N_1r) (fr:=[("_law_spot",5)]) (te:=(nL (sp_z K) [] E0 (pW (nL (sp_8 K) [] E0 (pW (tVar 0) (pW (tVar 1) tNil))) tNil))) rfl rfl (nofun) rfl sc_1r.nd rfl rfl (nofun) (oH (pq 13)) (λ_ _ _ hE1=>(pU G_z hr.mo T.F_z (pK (pU G_8 hr.mo T.F_8 (pK (pv 0) (pK (pv 1) pL))) pL))))
   (pQ (oU (PW.pt (jP (kF (pq 11)) (gL (oR (Rq hu) (pU G_z hr.mo T.F_z (pK (pq 10) pL)) (pq 14) rfl))))
   (pQ (oA kO))
   oY))))
   (pQ (oU (jY (kF (pU G_y hr.mo T.F_y (pK (pq 12) (pK (pq 4) (pK (pq 5) (pK (pq 10) pL)))))))
   (pQ (oA kO))
   oY)))))))
   (pQ (oA kO))))))))))))),?_⟩
  show tSeq _ _ _ [some (.ref a),none,none,none,none,none,none,none,none,none,none,none,none,none,none] H;right;refine⟨a,ns,rfl,hS,λfq k p SL S su H1 s1 hF ok=>?_⟩;have hd:=mW k;left;refine⟨a,ns,2,rfl,hS'.up s1,∅,?_⟩;generalize ns.getD (Int.toNat 2) 0=c2
  try ext
  refine⟨⟨∅,∅⟩,∅,?_⟩;refine⟨false,a,_,rfl,hS'.up s1,(by intro e;cases e),λr2 hr2=>?_⟩;rw[eI];have f4:=fms (c2.fdiv 12) 4 ∅;obtain⟨n4,en4⟩:=xG (show 0<=3+(c2.fdiv 12).fmod 4 by omega);rw[en4];have hcs:((ns.drop (HT.sIx ns.length 0 (some 3))).take (HT.sIx ns.length ns.length (some (n4:Int))-HT.sIx ns.length 0 (some 3))).length<=3:=by
   rw[yW,show((3:Int))=((3:Nat):Int) from rfl,HT.sIx_nat,HT.sIx_nat];omega
  generalize (ns.drop (HT.sIx ns.length 0 (some 3))).take (HT.sIx ns.length ns.length (some (n4:Int))-HT.sIx ns.length 0 (some 3))=cs at hcs;have hC:(upd H1 r2 (seqO false (cs.map V.int))) r2=some (.lst (cs.map V.int)):=pV;have s2:Same H1 (upd H1 r2 (seqO false (cs.map V.int))):=Same.new hr2;generalize upd H1 r2 (seqO false (cs.map V.int))=H2 at hC s2;refine⟨false,r2,fq,cs,k,p,SL,S,su,rfl,SqB.lst hC,hcs,hF.up s2,ok,λmk mps ms H3 s3 emk hmk hms lms=>?_⟩;have hF3:=hF.up (s2.trans s3);obtain⟨lq,sp,sl,f1,f2,f3,f4'⟩:=id hF3;have okF:=ok.frm;have hss:∀s∈ms.map oB,InF (frm k p SL S su) s:=λs hs=>by
   obtain⟨m,hm,rfl⟩:=qW.mp hs;exact(hms m hm).2
  have tb:=fN okF hss 192;left;simp only[cF];ext;refine⟨true,fq,_,_,_,rfl,rfl,SqB.tup f1,rfl,true,sp,_,_,_,rfl,rfl,SqB.tup f3,rfl,?_⟩;refine nU (SqB.lst f4') ?_;rw[ok.lS]
  try ext
  intro g dx hg hdx hne;have s4:Same H3 (upd (upd H3 dx (.own g)) g (.ins t.a_d dx [])):=(Same.new hdx).trans (Same.new (by rw[oE (yE hne)];exact hg));refine⟨false,famD k,mk,g,dx,mps,ms,InF (frm k p SL S su),192,rfl,pV,hd,SqB.lst (s4 _ _ emk),Paired.mapP hmk λ_ _ z=>z.up s4,⋯,λs hs=>(hms s hs).1,λs hs=>(gI ok (hms s hs).2).1,λx hx=>(gI ok hx).1,dQ okF,λx s hx hs=>aJ okF hx (hms s hs).2,
   yL tb.1 ∅,tb.1,λy hy=>(gI ok (tb.2 y hy)).1,dN,λsrt H5 s5 hG pm=>⟨rfl,?_⟩⟩
  have s05:Same H3 H5:=λb o e=>s5 b o (λz=>by rw[z,hg]at e;cases e) (s4 _ _ e);have lsrt:srt.length<=192:=by rw[pm.length_eq];exact tb.1
  have hm:∀y∈srt,MbOk (famD k) y.1:=λy hy=>Ji ok (tb.2 y (pm.mem_iff.mp hy));have n0:0<srt.length:=by rw[pm.length_eq];exact List.length_pos_of_mem fK
  have hst:oQ (famD k)∈srt.map (·.1):=(pm.map (·.1)).mem_iff.mpr (qW.mpr ⟨_,fK,rfl⟩);have hS5:SqB false K H5 a (ns.map V.int):=hS'.up (((s1.trans s2).trans s3).trans s05);have hF5:=hF3.up s05;clear s4 f1 f2 f3 f4' hF3 s5;left;simp only[kS];ext;obtain⟨dx5,lg5,lo5,ls5,ln5,j5,_⟩:=id hG;refine⟨dx5,_,j5,rfl,g,famD k,ms,srt,rfl,hG,λl os H6 s6 hl0 hl hos=>?_⟩;have hM6:iO K H6 l srt:=⟨os,hl,hos⟩;clear hl hos;left;refine⟨a,ns,7,rfl,hS5.up s6,∅,?_⟩;generalize ns.getD (Int.toNat 7) 0=c7;refine⟨c7,fq,k,p,SL,S,su,rfl,hF5.up s6,ok,λq H7 TT w7 s7 hP w0 w1 lT bT=>?_⟩;have hσ:SpOk (famD k) (redT w7 TT,redU w7 TT):=Kw lT w0 ⋯ (bT.le ∅);have s67:=s6.trans s7;have hM7:=hM6.up s7;have hG7:=hG.up s67;have hS7:=hS5.up s67;have hF7:=hF5.up s67;obtain⟨σ,eσ⟩:∃σ:List Int×Int,σ=(redT w7 TT,redU w7 TT):=⟨_,rfl⟩;replace hP:oI H7 q σ.1 σ.2:=by rw[eσ];exact hP
  rw[←eσ]at hσ;clear eσ hM6 hF5 hS5 hG;have v1:=hσ.le;have v2:=hσ.pos;have ks:=Ve hd hσ;have hmx:∀x∈srt.map (·.1),MbOk (famD k) x:=λx hx=>by
   obtain⟨y,hy,rfl⟩:=qW.mp hx;exact hm y hy
  left;refine⟨g,q,q,famD k,ms,srt,σ,σ,rfl,hG7,hd,hm,⋯,hP,hσ,hP,hσ.wid,λno=>absurd ks (no _ hst),λr8 x8 H8 s8 hx8 k8 hr8=>?_⟩;refine⟨r8,l,q,q,famD k,srt,σ,σ,x8,rfl,hr8,hM7.up s8,hx8,hmx x8 hx8,k8,hP.upS s8,hσ,hP.upS s8,hσ.wid,hd,λH9 s9=>?_⟩;refine⟨true,rfl,iteF ?_⟩;have s79:=s8.trans s9;left;refine oG λB eB=>?_;simp only[nI];ext;refine jV (hP.upS s79).s λzq hzq=>nU (b:=true) hzq ?_;rw[hσ.len];refine⟨_,rfl,⋯,⋯,λa1 ha1=>?_⟩;rw[zS];have l1:=(oN (d:=famD k)).1;refine mG (λj y H'=>∃q',y=V.ref q'/\oI (offH a1 H') q' ((idM (famD k)).getD j []) 1) ha1 ⋯ (λ_ _ _ _⟨q',f1,f2⟩sx=>⟨q',f1,f2.upS (dI sx)⟩) ?_ ?_
  ·intro j H10 zs hj s10 ez Q' hQ';subst eB;show tTup _ [some (.int (0+(j:Int))),some (.ref q)] H10 Q';ext;refine oG λB eB=>?_;simp only[nI];ext;refine jV (hP.upS (s79.trans s10)).s λzq hzq=>nU (b:=true) hzq ?_;rw[hσ.len];refine⟨_,rfl,⋯,⋯,λa2 ha2=>?_⟩;rw[zS];obtain⟨r,er⟩:=mI l1 hj;have erD:(idM (famD k)).getD j []=r:=by rw[zqc,er];rfl
   have hrl:r.length=famD k:=oN.2 r (zqb er);have err:r=(List.range (famD k)).map λi=>if j=i then(1:Int) else 0:=by
    unfold idM at er;rw[zC,yO hj]at er;exact(zR er).symm
   refine mG (λi y _=>∃n,r[i]?=some n/\y=.int n) ha2 ⋯ (λ_ _ _ _ h _=>h) ?_ ?_
   ·intro i H11 zs11 hi s11 ez11 Q11 hQ11;subst eB;show tCB _ _ [some (.int (0+(i:Int))),some (.int (0+(j:Int)))] H11 Q11;ext;refine .inr (hQ11 _ _ (Same.refl _) ⟨_,by rw[err,zC,yO hi];rfl,?_⟩);show _=V.int (if j=i then 1 else 0)
    by_cases z:j=i
    ·rw[zJ z,zK ⋯];rfl
    ·rw[zI z,zN ⋯];rfl
   ·intro H11 ys s11 e11 hly hr11;have ey:ys=r.map V.int:=oZ (by rw[hly,hrl]) hr11;subst ey;refine⟨a2,_,rfl,.inl ⟨SqL.of e11,λl2 hl2=>?_⟩⟩;have s12:Same H11 (upd H11 l2 (.tup (r.map V.int))):=Same.new hl2;have el:(upd H11 l2 (.tup (r.map V.int))) l2=some (.tup (r.map V.int)):=pV;generalize upd H11 l2 (.tup (r.map V.int))=H12 at s12 el;refine⟨(by show 2<=sizeLine;decide),λp1 hp1=>?_⟩;have s13:Same H12 (upd H12 p1 (.tup [.ref l2,.int 1])):=Same.new hp1;have s1013:=(s11.trans s12).trans s13;have tk:=gE (K:=K) (s1013 _ _ ez);exact hQ' _ _ s1013 ⟨p1,rfl,by rw[erD];exact⟨l2,tk.k _ _ pV,tk.k _ _ (s13 _ _ el)⟩⟩
  intro H10 ys s10 e10 hly10 hr10;have hps:∃ps:LA,ys=ps.map V.ref/\Paired (λq r=>oI H10 q r 1) ps (idM (famD k)):=fP (by rw[hly10,l1]) λj y ej=>by
   obtain⟨q,f1,f2⟩:=hr10 j y ej;have hj:j<(idM (famD k)).length:=by rw[l1,←hly10];exact(zqa ej).1
   obtain⟨r,er⟩:=mI rfl hj;exact⟨q,r,f1,er,by rw[zqc,er]at f2;exact f2.upS dH⟩
  obtain⟨ups,rfl,hups⟩:=hps;have lups:ups.length=famD k:=(nP hups).trans l1;have s710:=s79.trans s10;left;exfalso;refine jV (hP.upS s710).s λzq hzq=>?_;refine⟨true,zq,rfl,⟨_,(hzq:SqB true K H10 zq _)⟩,λa3 ha3=>?_⟩;refine oT (λj y _=>∃n,(List.replicate (famD k) (0:Int))[j]?=some n/\y=.int n) ha3 (hzq:SqB true K H10 zq _) (by rw[zqe,hσ.len];omega) (λ_ _ _ _ h _=>h) ?_ ?_
  ·intro j y H11 zs ey s11 ez Q' hQ';have hj:j<famD k:=by rw[←hσ.len,←zqe (f:=V.int)];exact(zqa ey).1
   subst eB;show tC _ [some y] H11 Q';ext;exact hQ' _ _ (Same.refl _) ⟨0,by rw[vW,zJ hj],rfl⟩
  intro H11 ys s11 e11 hly11 hr11;have ey:ys=(List.replicate (famD k) (0:Int)).map V.int:=oZ (by rw[hly11,zqe,hσ.len];simp) hr11;subst ey;refine⟨a3,_,rfl,.inl ⟨SqL.of e11,λl2 hl2=>?_⟩⟩;have s12:Same H11 (upd H11 l2 (.tup ((List.replicate (famD k) (0:Int)).map V.int))):=Same.new hl2;have el:(upd H11 l2 (.tup ((List.replicate (famD k) (0:Int)).map V.int))) l2=some (.tup ((List.replicate (famD k) (0:Int)).map V.int)):=pV;generalize upd H11 l2 (.tup ((List.replicate (famD k) (0:Int)).map V.int))=H12 at s12 el;refine⟨(by show 2<=sizeLine;decide),λp1 hp1=>?_⟩;have s13:Same H12 (upd H12 p1 (.tup [.ref l2,.int 1])):=Same.new hp1;have ep1:oI (upd H12 p1 (.tup [.ref l2,.int 1])) p1 (List.replicate (famD k) 0) 1:=⟨l2,pV,s13 _ _ el⟩;generalize upd H12 p1 (.tup [.ref l2,.int 1])=H13 at s13 ep1;have s1013:=(s11.trans s12).trans s13;refine⟨a1,p1,ups,famD k,rfl,s1013 _ _ e10,lups,λi q' e=>?_,ep1,hd,λwy H14 s14 hW=>?_⟩
  ·obtain⟨r',er,z⟩:=lC hups e;have:(idM (famD k)).getD i []=r':=by rw[zqc,er];rfl
   rw[this];exact z.upS s1013
  have s714:=(s710.trans s1013).trans s14;refine⟨g,wy,k,p,SL,S,su,ms,srt,rfl,hG7.up s714,hW,ok,λm h=>(hms m h).2,pm,λg2 ms2 srt2 H15 s15 hG15 es2 l2s=>?_⟩;have s715:=s714.trans s15;have hm2:∀y∈srt2,MbOk (famD k) y.1:=λy hy=>hmx y.1 ((es2 _).mp (qW.mpr ⟨y,hy,rfl⟩));left;refine⟨g2,q,q,famD k,ms2,srt2,σ,σ,rfl,hG15,hd,hm2,l2s,hP.upS s715,hσ,hP.upS s715,hσ.wid,λno=>absurd ks (no _ ((es2 _).mpr hst)),λr16 x16 H16 s16 hx16 k16 hr16=>?_⟩;replace hx16:=(es2 _).mp hx16;refine⟨r16,l,q,q,famD k,srt,σ,σ,x16,rfl,hr16,hM7.up (s715.trans s16),hx16,hmx x16 hx16,k16,hP.upS (s715.trans s16),hσ,hP.upS (s715.trans s16),hσ.wid,hd,λH17 s17=>?_⟩;refine⟨true,rfl,iteF ?_⟩;have s1517:=s16.trans s17;have s717:=s715.trans s1517;left;refine⟨false,a,_,rfl,hS7.up s717,(by intro e;cases e),λrs hrs=>?_⟩;rw[eI];have lcs:((ns.drop (HT.sIx ns.length 0 (some 14))).take (HT.sIx ns.length ns.length (some 44)-HT.sIx ns.length 0 (some 14))).length<=100:=by
   rw[yW,vO];omega
  generalize (ns.drop (HT.sIx ns.length 0 (some 14))).take (HT.sIx ns.length ns.length (some 44)-HT.sIx ns.length 0 (some 14))=cs2 at lcs;have hC2:(upd H17 rs (seqO false (cs2.map V.int))) rs=some (.lst (cs2.map V.int)):=pV;have s18:Same H17 (upd H17 rs (seqO false (cs2.map V.int))):=Same.new hrs;generalize upd H17 rs (seqO false (cs2.map V.int))=H18 at hC2 s18;have s718:=s717.trans s18;have s1518:=s1517.trans s18;subst e1;refine st λN1 e1=>mZ λB eB=>?_;simp only[iSeq];ext;refine⟨false,⟨_,SqB.lst hC2⟩,?_⟩;refine kI (b:=false) (g:=pY 9) (tb:=B) (λi τ H'=>∃v9 v10 v11 v12 v13 v14:Option V,τ=[some (.ref a),some (.ref fq),some (.ref mk),some (.ref g),some (.ref l),some (.ref q),some (.ref a1),some (.ref g2),some (.ref rs),v9,v10,v11,v12,v13,v14]/\Same H18 H') ⟨none,none,none,none,none,none,rfl,Same.refl _⟩ (λi τ H' _⟨_,_,_,_,_,_,_,s⟩=>SqB.lst (s _ _ hC2)) ?_ ?_
  case refine_2 =>
   rintro τ H19 ⟨v9,v10,v11,v12,v13,v14,rfl,s19⟩;symm;exact hQ _
  rintro i y τ H19 ey ⟨v9,v10,v11,v12,v13,v14,rfl,s19⟩;obtain⟨c,ec,rfl⟩:=nQ ey;have s719:=s718.trans s19;have s1519:=s1518.trans s19;subst eB;show tSeq _ _ _ [some (.ref a),some (.ref fq),some (.ref mk),some (.ref g),some (.ref l),some (.ref q),some (.ref a1),some (.ref g2),some (.ref rs),some (.int c),v10,v11,v12,v13,v14] H19;refine st λN2 e2=>?_;ext;refine⟨c,l,q,fq,k,p,SL,S,su,srt,σ,rfl,hM7.up s719,hm,n0,⋯,hP.upS s719,hσ,hF7.up s719,ok,λr20 o20 b20 H20 ω s20 er20 hO hω hb=>?_⟩;refine⟨r20,_,rfl,SqT.of er20,rfl,?_⟩;simp only[nC,gNil,pY];refine⟨_,_,rfl,_,_,rfl,rfl,?_⟩;have s720:=s719.trans s20;have s1520:=s1519.trans s20;have hgi:∃(n:Nat)(gi:Addr)(msi:List Dd)(srti:Tb),(c.fdiv 7).fmod 2=n/\[V.ref g,V.ref g2][n]?=some (V.ref gi)/\GrpF K t H20 gi (famD k) msi srti/\(∀y∈srti,MbOk (famD k) y.1)/\srti.length<=200/\∀x,x∈srti.map (·.1)↔x∈srt.map (·.1):=by
   have:=fms (c.fdiv 7) 2 ∅;rcases(show(c.fdiv 7).fmod 2=0\/(c.fdiv 7).fmod 2=1 by omega) with e|e
   ·exact⟨0,g,ms,srt,e,rfl,hG7.up s720,hm,⋯,λ_=>Iff.rfl⟩
   ·exact⟨1,g2,ms2,srt2,e,rfl,hG15.up s1520,hm2,l2s,es2⟩
  obtain⟨n,gi,msi,srti,en,egi,hGi,hmi,li,esi⟩:=hgi;subst e2;refine st λN2 e2=>?_;ext;refine⟨(by show 2<=sizeLine;decide),λl21 hl21=>?_⟩;have s21:Same H20 (upd H20 l21 (.lst [.ref g,.ref g2])):=Same.new hl21;have e21:(upd H20 l21 (.lst [.ref g,.ref g2])) l21=some (.lst [.ref g,.ref g2]):=pV;generalize upd H20 l21 (.lst [.ref g,.ref g2])=H21 at s21 e21;refine⟨⟨∅,∅⟩,∅,?_⟩;refine gF (i:=n) e21 egi en ?_;have s721:=s720.trans s21;have s1821:=(s19.trans s20).trans s21;refine⟨gi,q,o20,famD k,msi,srti,σ,ω,rfl,hGi.up s21,hd,hmi,li,hP.upS s721,hσ,hO.upS s21,hω,λno H22 s22=>?_,λr22 x22 H22 s22 hx22 k22 hr22=>?_⟩
  case refine_2 =>
   replace hx22:=(esi _).mp hx22;have s722:=s721.trans s22;subst e2;ext
   try rw[zN (by simp)]
   try refine iteF ?_
   refine⟨r22,l,q,o20,famD k,srt,σ,ω,x22,rfl,hr22,hM7.up s722,hx22,hmx x22 hx22,k22,hP.upS s722,hσ,hO.upS (s21.trans s22),hω,hd,λH23 s23=>?_⟩;refine⟨true,rfl,iteF ?_⟩;exact(s1821.trans s22).trans s23
  replace no:=λx hx=>no x ((esi x).mpr hx);have s722:=s721.trans s22;have s1822:=s1821.trans s22;subst e2;ext
  try rw[zK rfl]
  try refine iteT ?_
  have hb20:b20=false:=by
   cases b20 with
   |false=>rfl
   |true =>
    obtain⟨x,hx,kx⟩:=hb rfl;exact absurd kx (no x hx)
  subst hb20;have hM22:=hM7.up s722;exfalso;refine⟨false,⟨_,SqB.lst (s1822 _ _ hC2)⟩,λa4 ha4=>?_⟩;refine oT (λj y _=>∃(p:Addr)(x:Dd),y=V.ref p/\x∈srt.map (λz:Dd×List Nat=>z.1)/\Dt K H22 (.ref p) (dat x)) ha4 (SqB.lst (s1822 _ _ hC2)) (by rw[zqe];omega) (λ_ _ _ _ h _=>h) ?_ ?_
  ·intro j y H23 zs ey s23 ez Q' hQ';obtain⟨n',hn',rfl⟩:=nQ ey;obtain⟨os,o1,o2⟩:=id (hM22.up s23);have lo:os.length=srt.length:=nP o2;subst eB;show tOp _ _ _ [some (.int n'),some (.ref l)] H23 Q';ext;refine⟨false,l,_,rfl,SqB.lst o1,?_⟩;rw[zqe,lo];have fm:=fms n' srt.length ⋯;refine⟨_,_,rfl,rfl,⋯,?_⟩;obtain⟨n,en⟩:=xG fm.1;have hn:n<srt.length:=⋯
   obtain⟨os',p1,p2⟩:=hM22;obtain⟨mp,emp⟩:=mI (nP p2) hn;obtain⟨y,ey,hmp⟩:=lC p2 emp;have eo:os'=os:=by
    have:=s23 _ _ p1;rw[o1]at this;have:=HO.lst.inj (zR this);exact(List.map_inj_right (λ_ _ e=>V.ref.inj e)).mp this.symm
   subst eo;exact gF (i:=n) o1 (by rw[zC,emp];rfl) en (hQ' _ _ (Same.refl _) ⟨mp,y.1,rfl,qW.mpr ⟨y,zqb ey,rfl⟩,hmp⟩)
  intro H23 ys s23 e23 hly23 hr23;exfalso;refine⟨false,⟨_,SqB.lst e23⟩,λa5 ha5=>?_⟩;refine oT (λj y H'=>∃(p:Addr)(x:Dd),y=V.ref p/\x∈srt.map (λz:Dd×List Nat=>z.1)/\oI (offH a5 H') p (oO (mvU σ x) (mvT σ x)) (mvU σ x)) ha5 (SqB.lst e23) (by rw[hly23,zqe];omega) (λ_ _ _ _⟨q',x',f1,f2,f3⟩sx=>⟨q',x',f1,f2,f3.upS (dI sx)⟩) ?_ ?_
  ·intro j y H24 zs ey s24 ez Q' hQ';obtain⟨mp,x,rfl,hx,hmp⟩:=hr23 j y ey;have mx:=hmx x hx;have mo:=iN hd hσ mx;have x1:=mx.le;have x2:=mx.pos;have s724:=(s722.trans s23).trans s24;have bt':nA 7 x.2.1:=λz hz=>by have:=mx.bt z hz;have e:(2:Nat)^7=128:=rfl;omega
   subst eB;show nL _ _ _ _ [some (.ref mp),some (.ref q)] H24 Q';ext;refine⟨mp,q,x,σ.1,σ.2,famD k,rfl,(fO hmp).up (s23.trans s24),(hP.upS s724).s,mx.sq,hd,mx.len,hσ.len,mx.bm.le ∅,bt'.le ∅,hσ.bits.le ∅,x2,⋯,v2,⋯,λr4 H25 s25 hr4=>?_⟩;refine⟨r4,mvT σ x,mvU σ x,rfl,oI.s hr4,by rw[mo.len];omega,mo.pos,λr5 H26 s26 hr5=>?_⟩;have s2426:=s25.trans s26;obtain⟨z,z1,z2⟩:=hr5;have tk:=gE (K:=K) (s2426 _ _ ez);exact hQ' _ _ s2426 ⟨r5,x,rfl,hx,z,tk.k _ _ z1,tk.k _ _ z2⟩
  intro H24 ys24 s24 e24 hly24 hr24;have s2024:=((s21.trans s22).trans s23).trans s24;refine⟨o20,ω.1,ω.2,rfl,(hO.upS s2024).s,by rw[hω.len];omega,hω.pos,λr6 H25 s25 hr6=>?_⟩;obtain⟨ps,D,rfl,hp,hD⟩:=Ku (K:=K) (H:=H25) (F:=λe=>∃x∈srt.map (·.1),e=(oO (mvU σ x) (mvT σ x),mvU σ x)) λj y ej=>by
   obtain⟨pp,x,f1,f2,f3⟩:=hr24 j y ej;exact⟨pp,_,f1,⟨x,f2,rfl⟩,PlS.dt ((f3.upS dH).upS s25).s⟩
  refine Vf ⟨ps,s25 _ _ e24,hp⟩ (PlS.dt hr6.s) (λm=>?_) ⟨_,rfl,iteF (((s1822.trans s23).trans s24).trans s25)⟩;obtain⟨x,hx,e⟩:=hD _ m;have e1:=wC Prod.fst e;have e2:=wC Prod.snd e;dsimp only at e1 e2;exact no x hx ⟨e2.symm,by rw[e1,e2]⟩
end
theorem us1{α:Type}{us:List α}(h:us.length=1):∃a0,us=[a0]:=match us,h with|[a0],_=>⟨a0,rfl⟩
theorem us2{α:Type}{us:List α}(h:us.length=2):∃a0 a1,us=[a0,a1]:=match us,h with|[a0,a1],_=>⟨a0,a1,rfl⟩
theorem us3{α:Type}{us:List α}(h:us.length=3):∃a0 a1 a2,us=[a0,a1,a2]:=match us,h with|[a0,a1,a2],_=>⟨a0,a1,a2,rfl⟩
theorem us4{α:Type}{us:List α}(h:us.length=4):∃a0 a1 a2 a3,us=[a0,a1,a2,a3]:=match us,h with|[a0,a1,a2,a3],_=>⟨a0,a1,a2,a3,rfl⟩
theorem us5{α:Type}{us:List α}(h:us.length=5):∃a0 a1 a2 a3 a4,us=[a0,a1,a2,a3,a4]:=match us,h with|[a0,a1,a2,a3,a4],_=>⟨a0,a1,a2,a3,a4,rfl⟩
abbrev caG(K:Frag)(C:Addr):Prop:=findIn K (.ref C) "__class__"=some (some (.builtin "object.__class__"))
abbrev nG(K:Frag)(x:Str)(f:Addr):Prop:=nsIn K mainGlobals x=some (some (.ref f))
local macro_rules | `(tactic| walk_at "1")=>`(tactic| (intro _ _ _ _ _ _ us hl; obtain ⟨_,hh⟩:=us1 hl; subst hh; rfl))
local macro_rules | `(tactic| walk_at "2")=>`(tactic| (intro _ _ _ _ _ _ us hl; obtain ⟨_,_,hh⟩:=us2 hl; subst hh; rfl))
theorem txt_mk{K:Frag}{h:Heap}{mg:MT}(X:K.In h)(G:h.Ns mainGlobals mg)
  {C_1x C_1u C_1v C_20 C_1z C_d C_21 C_1y f_13 f_15 f_10 f_s f_11 f_18 f_q f_h f_1s f_1e f_1m f_1b f_1 f_16 f_1f f_1k f_19 f_1n f_1o f_1p f_1i f_1g f_1q f_j f_1c f_1h f_a f_1j f_1t f_1w f_12 f_t f_p f_w f_1d f_g f_c f_2 f_u f_14 f_o f_1l f_e f_v f_b f_x f_f f_n f_9 f_1a f_r f_17 f_3 f_6 f_4 f_k f_i f_8 f_z f_5 f_m f_y f_l f_1r:Addr}{d_13 d_15 d_10 d_s d_11 d_18 d_q d_h d_1s d_1e d_1m d_1b d_1 d_16 d_1f d_1k d_19 d_1n d_1o d_1p d_1i d_1g d_1q d_j d_1c d_1h d_a d_1j d_1t d_1w d_12 d_t d_p d_w d_1d d_g d_c d_2 d_u d_14 d_o d_1l d_e d_v d_b d_x d_f d_n d_9 d_1a d_r d_17 d_3 d_6 d_4 d_k d_i d_8 d_z d_5 d_m d_y d_l d_1r:FuncData}
  {f_0:Addr}{od_0 an_0:Option Addr}{sl_0:Array (Option Value)}{oc_0 kV_0 dc_0 pm_0 cd_0 ct_0:Value}
  {T_Group___init__:Addr}{oT_Group___init__:Value}{dT_Group___init__:Option Addr}{nT_Group___init__:Nat}{sT_Group___init__:Array (Option Value)}{kT_Group___init__:Tok}
  {f_7:Addr}{od_7 an_7:Option Addr}{sl_7:Array (Option Value)}{oc_7 kV_7 dc_7 pm_7 cd_7 ct_7:Value}
  {T_changed:Addr}{oT_changed:Value}{dT_changed:Option Addr}{nT_changed:Nat}{sT_changed:Array (Option Value)}{kT_changed:Tok}
  {tk_MOST_MEMBERS:Tok}
  (n_1x:nG K "CrystalError" C_1x)
  (n_1u:nG K "NoPlace" C_1u)
  (n_1v:nG K "NoDeed" C_1v)
  (n_20:nG K "TooMany" C_20)
  (n_1z:nG K "NoNumber" C_1z)
  (n_d:nG K "Group" C_d)
  (n_21:nG K "NotKept" C_21)
  (n_1y:nG K "NoChange" C_1y)
  (n_13:nG K "divisor" f_13)
  (F_13:Fun K "divisor" "divisor" s_13 f_13 d_13)
  (n_15:nG K "multiple" f_15)
  (F_15:Fun K "multiple" "multiple" s_15 f_15 d_15)
  (n_10:nG K "place" f_10)
  (F_10:Fun K "place" "place" s_10 f_10 d_10)
  (n_s:nG K "rest_place" f_s)
  (F_s:Fun K "rest_place" "rest_place" bO f_s d_s)
  (n_11:nG K "place_sum" f_11)
  (F_11:Fun K "place_sum" "place_sum" s_11 f_11 d_11)
  (n_18:nG K "opposite" f_18)
  (F_18:Fun K "opposite" "opposite" s_18 f_18 d_18)
  (n_q:nG K "place_less" f_q)
  (F_q:Fun K "place_less" "place_less" Bm f_q d_q)
  (n_h:nG K "still_rows" f_h)
  (F_h:Fun K "still_rows" "still_rows" bP f_h d_h)
  (n_1s:nG K "dot" f_1s)
  (F_1s:Fun K "dot" "dot" s_1s f_1s d_1s)
  (n_1e:nG K "turned" f_1e)
  (F_1e:Fun K "turned" "turned" s_1e f_1e d_1e)
  (n_1m:nG K "times" f_1m)
  (F_1m:Fun K "times" "times" s_1m f_1m d_1m)
  (n_1b:nG K "without" f_1b)
  (F_1b:Fun K "without" "without" s_1b f_1b d_1b)
  (n_1:nG K "determinant" f_1)
  (F_1:Fun K "determinant" "determinant" s_1 f_1 d_1)
  (n_16:nG K "cofactor" f_16)
  (F_16:Fun K "cofactor" "cofactor" s_16 f_16 d_16)
  (n_1f:nG K "crossed" f_1f)
  (F_1f:Fun K "crossed" "crossed" s_1f f_1f d_1f)
  (n_1k:nG K "scaled" f_1k)
  (F_1k:Fun K "scaled" "scaled" s_1k f_1k d_1k)
  (n_19:nG K "joined" f_19)
  (F_19:Fun K "joined" "joined" s_19 f_19 d_19)
  (n_1n:nG K "deed" f_1n)
  (F_1n:Fun K "deed" "deed" s_1n f_1n d_1n)
  (n_1o:nG K "still" f_1o)
  (F_1o:Fun K "still" "still" s_1o f_1o d_1o)
  (n_1p:nG K "move" f_1p)
  (F_1p:Fun K "move" "move" s_1p f_1p d_1p)
  (n_1i:nG K "moved" f_1i)
  (F_1i:Fun K "moved" "moved" s_1i f_1i d_1i)
  (n_1g:nG K "behind" f_1g)
  (F_1g:Fun K "behind" "behind" s_1g f_1g d_1g)
  (n_1q:nG K "rest" f_1q)
  (F_1q:Fun K "rest" "rest" s_1q f_1q d_1q)
  (n_j:nG K "all_leading" f_j)
  (F_j:Fun K "all_leading" "all_leading" Bl f_j d_j)
  (n_1c:nG K "leading" f_1c)
  (F_1c:Fun K "leading" "leading" s_1c f_1c d_1c)
  (n_1h:nG K "change" f_1h)
  (F_1h:Fun K "change" "change" s_1h f_1h d_1h)
  (n_a:nG K "check_beside" f_a)
  (F_a:Fun K "check_beside" "check_beside" Bk f_a d_a)
  (n_1j:nG K "forth" f_1j)
  (F_1j:Fun K "forth" "forth" s_1j f_1j d_1j)
  (n_1t:nG K "home" f_1t)
  (F_1t:Fun K "home" "home" s_1t f_1t d_1t)
  (n_1w:nG K "led" f_1w)
  (F_1w:Fun K "led" "led" s_1w f_1w d_1w)
  (n_12:nG K "new_place" f_12)
  (F_12:Fun K "new_place" "new_place" s_12 f_12 d_12)
  (n_t:nG K "new_deed" f_t)
  (F_t:Fun K "new_deed" "new_deed" dA f_t d_t)
  (n_p:nG K "check_most" f_p)
  (F_p:Fun K "check_most" "check_most" Bj f_p d_p)
  (n_w:nG K "check_axes" f_w)
  (F_w:Fun K "check_axes" "check_axes" Bi f_w d_w)
  (n_1d:nG K "closed" f_1d)
  (F_1d:Fun K "closed" "closed" s_1d f_1d d_1d)
  (n_0:findIn K (.ref C_d) "__init__"=some (some (.ref f_0)))
  (l_0:K.lookup f_0=some ⟨oc_0,od_0,.func (fnOf "__init__" "Group.__init__" (kU s_0) (mY s_0) (pN s_0) (.ref T_Group___init__) kV_0 dc_0 pm_0 an_0 cd_0 ct_0),sl_0⟩)
  (t_Group___init__:K.lookup T_Group___init__=some ⟨oT_Group___init__,dT_Group___init__,.seq #[.int 200 kT_Group___init__] nT_Group___init__,sT_Group___init__⟩)
  (c_0:codeIn K cd_0 "Group.__init__"=true)
  (k_0:keepIn K (.ref f_0)=true)
  (n_g:findIn K (.ref C_d) "axes"=some (some (.ref f_g)))
  (F_g:Fun K "axes" "Group.axes" Bh f_g d_g)
  (n_c:findIn K (.ref C_d) "makers"=some (some (.ref f_c)))
  (F_c:Fun K "makers" "Group.makers" Bg f_c d_c)
  (n_2:findIn K (.ref C_d) "members"=some (some (.ref f_2)))
  (F_2:Fun K "members" "Group.members" s_2 f_2 d_2)
  (n_u:findIn K (.ref C_d) "at"=some (some (.ref f_u)))
  (F_u:Fun K "at" "Group.at" Bf f_u d_u)
  (n_14:nG K "group_of" f_14)
  (F_14:Fun K "group_of" "group_of" s_14 f_14 d_14)
  (n_o:nG K "check_moves" f_o)
  (F_o:Fun K "check_moves" "check_moves" Be f_o d_o)
  (n_1l:nG K "grown" f_1l)
  (F_1l:Fun K "grown" "grown" s_1l f_1l d_1l)
  (n_7:nG K "changed" f_7)
  (l_7:K.lookup f_7=some ⟨oc_7,od_7,.func (fnOf "changed" "changed" (kU s_7) (mY s_7) (pN s_7) (.ref T_changed) kV_7 dc_7 pm_7 an_7 cd_7 ct_7),sl_7⟩)
  (t_changed:K.lookup T_changed=some ⟨oT_changed,dT_changed,.seq #[.int 200 kT_changed] nT_changed,sT_changed⟩)
  (c_7:codeIn K cd_7 "changed"=true)
  (k_7:keepIn K (.ref f_7)=true)
  (n_e:nG K "_law_cell_at" f_e)
  (F_e:Fun K "_law_cell_at" "_law_cell_at" Bd f_e d_e)
  (n_v:nG K "_law_whole" f_v)
  (F_v:Fun K "_law_whole" "_law_whole" Bc f_v d_v)
  (n_b:nG K "_law_digits" f_b)
  (F_b:Fun K "_law_digits" "_law_digits" Bb f_b d_b)
  (n_x:nG K "_law_shared" f_x)
  (F_x:Fun K "_law_shared" "_law_shared" Ba f_x d_x)
  (n_f:nG K "_law_place" f_f)
  (F_f:Fun K "_law_place" "_law_place" bQ f_f d_f)
  (n_n:nG K "_law_family" f_n)
  (F_n:Fun K "_law_family" "_law_family" dB f_n d_n)
  (n_9:nG K "_law_rows_times" f_9)
  (F_9:Fun K "_law_rows_times" "_law_rows_times" s_9 f_9 d_9)
  (n_1a:nG K "_law_led" f_1a)
  (F_1a:Fun K "_law_led" "_law_led" s_1a f_1a d_1a)
  (n_r:nG K "_law_maker" f_r)
  (F_r:Fun K "_law_maker" "_law_maker" bU f_r d_r)
  (n_17:nG K "_law_step" f_17)
  (F_17:Fun K "_law_step" "_law_step" s_17 f_17 d_17)
  (n_3:nG K "_law_rows_there" f_3)
  (F_3:Fun K "_law_rows_there" "_law_rows_there" s_3 f_3 d_3)
  (n_6:nG K "_law_tops_there" f_6)
  (F_6:Fun K "_law_tops_there" "_law_tops_there" s_6 f_6 d_6)
  (n_4:nG K "_law_deed_there" f_4)
  (F_4:Fun K "_law_deed_there" "_law_deed_there" s_4 f_4 d_4)
  (n_k:nG K "_law_frame" f_k)
  (F_k:Fun K "_law_frame" "_law_frame" dC f_k d_k)
  (n_i:nG K "_law_makers" f_i)
  (F_i:Fun K "_law_makers" "_law_makers" Cz f_i d_i)
  (n_8:nG K "_law_reached" f_8)
  (F_8:Fun K "_law_reached" "_law_reached" s_8 f_8 d_8)
  (n_z:nG K "_law_rest" f_z)
  (F_z:Fun K "_law_rest" "_law_rest" bV f_z d_z)
  (n_5:nG K "_law_asked_at" f_5)
  (F_5:Fun K "_law_asked_at" "_law_asked_at" s_5 f_5 d_5)
  (n_m:nG K "_law_numbers" f_m)
  (F_m:Fun K "_law_numbers" "_law_numbers" bW f_m d_m)
  (n_y:nG K "_law_leads" f_y)
  (F_y:Fun K "_law_leads" "_law_leads" Cy f_y d_y)
  (n_l:nG K "_law_other" f_l)
  (F_l:Fun K "_law_other" "_law_other" fE f_l d_l)
  (n_1r:nG K "law" f_1r)
  (F_1r:Fun K "law" "law" s_1r f_1r d_1r)
  (n_MOST_MEMBERS:nsIn K mainGlobals "MOST_MEMBERS"=some (some (.int 200 tk_MOST_MEMBERS)))
  (y_any:nsIn K mainGlobals "any"=some none)
  (y_sum:nsIn K mainGlobals "sum"=some none)
  (y_zip:nsIn K mainGlobals "zip"=some none)
  (y_enumerate:nsIn K mainGlobals "enumerate"=some none)
  (y_range:nsIn K mainGlobals "range"=some none)
  (y_len:nsIn K mainGlobals "len"=some none)
  (y_abs:nsIn K mainGlobals "abs"=some none)
  (y_isinstance:nsIn K mainGlobals "isinstance"=some none)
  (y_int:nsIn K mainGlobals "int"=some none)
  (y_bool:nsIn K mainGlobals "bool"=some none)
  (y_list:nsIn K mainGlobals "list"=some none)
  (y_tuple:nsIn K mainGlobals "tuple"=some none)
  (y_sorted:nsIn K mainGlobals "sorted"=some none)
  (y_dict:nsIn K mainGlobals "dict"=some none)
  (q_d:kitOne K (.type "int") (.type "int")=some true)
  (q_e:kitOne K (.type "int") (.type "bool")=some false)
  (q_k_tt:kitOne K (.type "tuple") (.type "tuple")=some true)
  (q_g:kitOne K (.type "list") (.type "list")=some true)
  (q_8:PySem.W.excIn K C_1u [.type "ValueError",.type "Exception",.type "BaseException",.type "object"] "ValueError.__new__"=true)
  (q_9:PySem.W.excIn K C_1v [.type "ValueError",.type "Exception",.type "BaseException",.type "object"] "ValueError.__new__"=true)
  (q_a:L2.Cls K C_d)
  (q_b:L2.Mk K C_d f_0)
  (q_0:L2.Meth K C_d "members" f_2)
  (q_3:findIn K (.ref C_d) "dimension"=some none)
  (q_c:findIn K (.ref C_d) "given"=some none)
  (q_6:findIn K (.ref C_d) "ordered"=some none)
  (q_4:findIn K (.ref C_d) "shortest"=some none)
  (q_7:findIn K (.ref C_d) "numbers"=some none)
  (q_2:L2.Meth K C_d "axes" f_g)
  (q_1:L2.Meth K C_d "makers" f_c)
  (q_5:L2.Meth K C_d "at" f_u)
  :∃t,Txt K mg t:=by
 have F_0:=Ga (st:=s_0) (ds:=[.int 200 kT_Group___init__]) l_0 c_0 k_0 t_Group___init__;have b_0:=F_0.bindsA (ps:=pi') λ_ _ _ _ _ _ _ us hl=>by obtain⟨_,_,_,_,rfl⟩:=us4 hl;exact⟨_,rfl,rfl⟩
 have bd_Group___init__:=F_0.binds (ps:=pi') λ_ _ _ _ _ _ _ us hl=>by obtain⟨_,_,_,rfl⟩:=us3 (Nat.succ.inj hl);exact⟨_,rfl,rfl⟩
 have b_g:=F_g.binds (ps:=pN') (by walk_at "1");have b_c:=F_c.binds (ps:=pN') (by walk_at "1");have b_2:=F_2.binds (ps:=pN') (by walk_at "1");have b_u:=F_u.binds (ps:=pH') (by walk_at "2");have F_7:=Ga (st:=s_7) (ds:=[.int 200 kT_changed]) l_7 c_7 k_7 t_changed;have b_7:=F_7.bindsA (ps:=pt') λ_ _ _ _ _ _ _ us hl=>by obtain⟨_,_,_,rfl⟩:=us3 hl;exact⟨_,rfl,rfl⟩
 have bd_changed:=F_7.binds (ps:=pt') λ_ _ _ _ _ _ _ us hl=>by obtain⟨_,_,rfl⟩:=us2 (Nat.succ.inj hl);exact⟨_,rfl,rfl⟩
 obtain⟨_,_,_,_,_,_,_,_,_,rfl,_,_⟩:=id F_1r.ex;exact⟨⟨f_13,f_15,f_10,f_s,f_11,f_18,f_q,f_h,f_1s,f_1e,f_1m,f_1b,f_1,f_16,f_1f,f_1k,f_19,f_1n,f_1o,f_1p,f_1i,f_1g,f_1q,f_j,f_1c,f_1h,f_a,f_1j,f_1t,f_1w,f_12,f_t,f_p,f_w,f_1d,f_0,f_g,f_c,f_2,f_u,f_14,f_o,f_1l,f_7,f_e,f_v,f_b,f_x,f_f,f_n,f_9,f_1a,f_r,f_17,f_3,f_6,f_4,f_k,f_i,f_8,f_z,f_5,f_m,f_y,f_l,f_1r,_,_,_,_,_,_,_,_,_,_,_,_,_,_,_,_,_,_,_,_,_,_,_,_,_,_,_,_,_,_,_,_,_,_,_,_,_,_,_,_,_,_,_,_,_,_,_,_,_,_,_,_,_,_,_,_,_,_,_,_,_,_,_,_,_,_,C_1x,C_1u,C_1v,C_20,C_1z,C_d,C_21,C_1y,kT_Group___init__,kT_changed⟩,⟨⟨F_13,zZ X G n_13,F_13.binds (λ_ _ _ _ _ _ us hl=>by obtain⟨_,_,rfl⟩:=us2 hl;rfl)⟩,⟨F_15,zZ X G n_15,F_15.binds (λ_ _ _ _ _ _ us hl=>by obtain⟨_,rfl⟩:=us1 hl;rfl)⟩,⟨F_10,zZ X G n_10,F_10.binds (λ_ _ _ _ _ _ us hl=>by obtain⟨_,_,rfl⟩:=us2 hl;rfl)⟩,⟨F_s,zZ X G n_s,F_s.binds (λ_ _ _ _ _ _ us hl=>by obtain⟨_,rfl⟩:=us1 hl;rfl)⟩,⟨F_11,zZ X G n_11,F_11.binds (λ_ _ _ _ _ _ us hl=>by obtain⟨_,_,rfl⟩:=us2 hl;rfl)⟩,⟨F_18,zZ X G n_18,F_18.binds (λ_ _ _ _ _ _ us hl=>by obtain⟨_,rfl⟩:=us1 hl;rfl)⟩,⟨F_q,zZ X G n_q,F_q.binds (λ_ _ _ _ _ _ us hl=>by obtain⟨_,_,rfl⟩:=us2 hl;rfl)⟩,⟨F_h,zZ X G n_h,F_h.binds (λ_ _ _ _ _ _ us hl=>by obtain⟨_,rfl⟩:=us1 hl;rfl)⟩,⟨F_1s,zZ X G n_1s,F_1s.binds (λ_ _ _ _ _ _ us hl=>by obtain⟨_,_,rfl⟩:=us2 hl;rfl)⟩,⟨F_1e,zZ X G n_1e,F_1e.binds (λ_ _ _ _ _ _ us hl=>by obtain⟨_,rfl⟩:=us1 hl;rfl)⟩,⟨F_1m,zZ X G n_1m,F_1m.binds (λ_ _ _ _ _ _ us hl=>by obtain⟨_,_,rfl⟩:=us2 hl;rfl)⟩,⟨F_1b,zZ X G n_1b,F_1b.binds (λ_ _ _ _ _ _ us hl=>by obtain⟨_,_,_,rfl⟩:=us3 hl;rfl)⟩,⟨F_1,zZ X G n_1,F_1.binds (λ_ _ _ _ _ _ us hl=>by obtain⟨_,rfl⟩:=us1 hl;rfl)⟩,⟨F_16,zZ X G n_16,F_16.binds (λ_ _ _ _ _ _ us hl=>by obtain⟨_,_,_,rfl⟩:=us3 hl;rfl)⟩,⟨F_1f,zZ X G n_1f,F_1f.binds (λ_ _ _ _ _ _ us hl=>by obtain⟨_,rfl⟩:=us1 hl;rfl)⟩,⟨F_1k,zZ X G n_1k,F_1k.binds (λ_ _ _ _ _ _ us hl=>by obtain⟨_,_,rfl⟩:=us2 hl;rfl)⟩,⟨F_19,zZ X G n_19,F_19.binds (λ_ _ _ _ _ _ us hl=>by obtain⟨_,_,rfl⟩:=us2 hl;rfl)⟩,⟨F_1n,zZ X G n_1n,F_1n.binds (λ_ _ _ _ _ _ us hl=>by obtain⟨_,_,_,rfl⟩:=us3 hl;rfl)⟩,⟨F_1o,zZ X G n_1o,F_1o.binds (λ_ _ _ _ _ _ us hl=>by obtain⟨_,rfl⟩:=us1 hl;rfl)⟩,⟨F_1p,zZ X G n_1p,F_1p.binds (λ_ _ _ _ _ _ us hl=>by obtain⟨_,rfl⟩:=us1 hl;rfl)⟩,⟨F_1i,zZ X G n_1i,F_1i.binds (λ_ _ _ _ _ _ us hl=>by obtain⟨_,_,rfl⟩:=us2 hl;rfl)⟩,⟨F_1g,zZ X G n_1g,F_1g.binds (λ_ _ _ _ _ _ us hl=>by obtain⟨_,_,rfl⟩:=us2 hl;rfl)⟩,⟨F_1q,zZ X G n_1q,F_1q.binds (λ_ _ _ _ _ _ us hl=>by obtain⟨_,rfl⟩:=us1 hl;rfl)⟩,⟨F_j,zZ X G n_j,F_j.binds (λ_ _ _ _ _ _ us hl=>by obtain⟨_,_,_,rfl⟩:=us3 hl;rfl)⟩,⟨F_1c,zZ X G n_1c,F_1c.binds (λ_ _ _ _ _ _ us hl=>by obtain⟨_,_,_,rfl⟩:=us3 hl;rfl)⟩,⟨F_1h,zZ X G n_1h,F_1h.binds (λ_ _ _ _ _ _ us hl=>by obtain⟨_,_,rfl⟩:=us2 hl;rfl)⟩,⟨F_a,zZ X G n_a,F_a.binds (λ_ _ _ _ _ _ us hl=>by obtain⟨_,_,rfl⟩:=us2 hl;rfl)⟩,⟨F_1j,zZ X G n_1j,F_1j.binds (λ_ _ _ _ _ _ us hl=>by obtain⟨_,rfl⟩:=us1 hl;rfl)⟩,⟨F_1t,zZ X G n_1t,F_1t.binds (λ_ _ _ _ _ _ us hl=>by obtain⟨_,rfl⟩:=us1 hl;rfl)⟩,⟨F_1w,zZ X G n_1w,F_1w.binds (λ_ _ _ _ _ _ us hl=>by obtain⟨_,_,rfl⟩:=us2 hl;rfl)⟩,⟨F_12,zZ X G n_12,F_12.binds (λ_ _ _ _ _ _ us hl=>by obtain⟨_,_,rfl⟩:=us2 hl;rfl)⟩,⟨F_t,zZ X G n_t,F_t.binds (λ_ _ _ _ _ _ us hl=>by obtain⟨_,_,rfl⟩:=us2 hl;rfl)⟩,⟨F_p,zZ X G n_p,F_p.binds (λ_ _ _ _ _ _ us hl=>by obtain⟨_,rfl⟩:=us1 hl;rfl)⟩,⟨F_w,zZ X G n_w,F_w.binds (λ_ _ _ _ _ _ us hl=>by obtain⟨_,_,rfl⟩:=us2 hl;rfl)⟩,⟨F_1d,zZ X G n_1d,F_1d.binds (λ_ _ _ _ _ _ us hl=>by obtain⟨_,_,_,rfl⟩:=us3 hl;rfl)⟩,F_0,bd_Group___init__,b_0,F_g,b_g,F_c,b_c,F_2,b_2,F_u,b_u,⟨F_14,zZ X G n_14,F_14.binds (λ_ _ _ _ _ _ us hl=>by obtain⟨_,_,rfl⟩:=us2 hl;rfl)⟩,⟨F_o,zZ X G n_o,F_o.binds (λ_ _ _ _ _ _ us hl=>by obtain⟨_,_,rfl⟩:=us2 hl;rfl)⟩,⟨F_1l,zZ X G n_1l,F_1l.binds (λ_ _ _ _ _ _ us hl=>by obtain⟨_,_,rfl⟩:=us2 hl;rfl)⟩,F_7,bd_changed,zZ X G n_7,b_7,⟨F_e,zZ X G n_e,F_e.binds (λ_ _ _ _ _ _ us hl=>by obtain⟨_,_,rfl⟩:=us2 hl;rfl)⟩,⟨F_v,zZ X G n_v,F_v.binds (λ_ _ _ _ _ _ us hl=>by obtain⟨_,rfl⟩:=us1 hl;rfl)⟩,⟨F_b,zZ X G n_b,F_b.binds (λ_ _ _ _ _ _ us hl=>by obtain⟨_,_,_,rfl⟩:=us3 hl;rfl)⟩,⟨F_x,zZ X G n_x,F_x.binds (λ_ _ _ _ _ _ us hl=>by obtain⟨_,_,rfl⟩:=us2 hl;rfl)⟩,⟨F_f,zZ X G n_f,F_f.binds (λ_ _ _ _ _ _ us hl=>by obtain⟨_,_,rfl⟩:=us2 hl;rfl)⟩,⟨F_n,zZ X G n_n,F_n.binds (λ_ _ _ _ _ _ us hl=>by obtain⟨_,rfl⟩:=us1 hl;rfl)⟩,⟨F_9,zZ X G n_9,F_9.binds (λ_ _ _ _ _ _ us hl=>by obtain⟨_,_,rfl⟩:=us2 hl;rfl)⟩,⟨F_1a,zZ X G n_1a,F_1a.binds (λ_ _ _ _ _ _ us hl=>by obtain⟨_,_,rfl⟩:=us2 hl;rfl)⟩,⟨F_r,zZ X G n_r,F_r.binds (λ_ _ _ _ _ _ us hl=>by obtain⟨_,_,_,rfl⟩:=us3 hl;rfl)⟩,⟨F_17,zZ X G n_17,F_17.binds (λ_ _ _ _ _ _ us hl=>by obtain⟨_,_,rfl⟩:=us2 hl;rfl)⟩,⟨F_3,zZ X G n_3,F_3.binds (λ_ _ _ _ _ _ us hl=>by obtain⟨_,_,rfl⟩:=us2 hl;rfl)⟩,⟨F_6,zZ X G n_6,F_6.binds (λ_ _ _ _ _ _ us hl=>by obtain⟨_,_,rfl⟩:=us2 hl;rfl)⟩,⟨F_4,zZ X G n_4,F_4.binds (λ_ _ _ _ _ _ us hl=>by obtain⟨_,_,_,_,_,rfl⟩:=us5 hl;rfl)⟩,⟨F_k,zZ X G n_k,F_k.binds (λ_ _ _ _ _ _ us hl=>by obtain⟨_,rfl⟩:=us1 hl;rfl)⟩,⟨F_i,zZ X G n_i,F_i.binds (λ_ _ _ _ _ _ us hl=>by obtain⟨_,_,rfl⟩:=us2 hl;rfl)⟩,⟨F_8,zZ X G n_8,F_8.binds (λ_ _ _ _ _ _ us hl=>by obtain⟨_,_,rfl⟩:=us2 hl;rfl)⟩,⟨F_z,zZ X G n_z,F_z.binds (λ_ _ _ _ _ _ us hl=>by obtain⟨_,rfl⟩:=us1 hl;rfl)⟩,⟨F_5,zZ X G n_5,F_5.binds (λ_ _ _ _ _ _ us hl=>by obtain⟨_,_,rfl⟩:=us2 hl;rfl)⟩,⟨F_m,zZ X G n_m,F_m.binds (λ_ _ _ _ _ _ us hl=>by obtain⟨_,rfl⟩:=us1 hl;rfl)⟩,⟨F_y,zZ X G n_y,F_y.binds (λ_ _ _ _ _ _ us hl=>by obtain⟨_,_,_,_,rfl⟩:=us4 hl;rfl)⟩,⟨F_l,zZ X G n_l,F_l.binds (λ_ _ _ _ _ _ us hl=>by obtain⟨_,_,_,_,rfl⟩:=us4 hl;rfl)⟩,⟨F_1r,zZ X G n_1r,F_1r.binds (λ_ _ _ _ _ _ us hl=>by obtain⟨_,rfl⟩:=us1 hl;rfl)⟩,yY X G y_any,yY X G y_sum,yY X G y_zip,yY X G y_enumerate,yY X G y_range,yY X G y_len,yY X G y_abs,yY X G y_isinstance,yY X G y_int,yY X G y_bool,yY X G y_list,yY X G y_tuple,yY X G y_sorted,yY X G y_dict,zZ X G n_1x,zZ X G n_1u,zZ X G n_1v,zZ X G n_20,zZ X G n_1z,zZ X G n_d,zZ X G n_21,zZ X G n_1y,⟨_,zZ X G n_MOST_MEMBERS,_,rfl⟩,q_d,q_e,q_k_tt,q_g,q_8,q_9,q_a,q_b,q_0,q_3,q_c,q_6,q_4,q_7,q_2,q_1,q_5,λs v=>.of_eq rfl⟩⟩
end Cw
end
open PySem PySem.W PyProof.Rows
/-! Names that the head would else lay equations under (of whole heaps and of their trees): the proof wants none of them. -/
namespace PySem.W.Fast
def tw12388728954083492502:=Nat
def tw235684075170506832:=Nat
def tw1129134625680716820:=Nat
def tw9626363951291319641:=Nat
def tw8864637641714655285:=Nat
def tw1355538651587142841:=Nat
def tw3403888126095586374:=Nat
def tw9146394177316766425:=Nat
def tw2815781109185980413:=Nat
def tw11142575594741225394:=Nat
def tw8531562939324860619:=Nat
def tw17019177657040290041:=Nat
def tw14543313946121572575:=Nat
def tw13662634667976793215:=Nat
def tw14938209859170626233:=Nat
def tw2687680983231672172:=Nat
def tw1513533884279475530:=Nat
def tw10192771793642935863:=Nat
def tw2131144288938846929:=Nat
def tw4993904384011430934:=Nat
def tw7055378004607319944:=Nat
def tw9552947220834524164:=Nat
def tw17428329124090012921:=Nat
def tw15351987459847973122:=Nat
def tw6472650987289691650:=Nat
def tw4316180564396517339:=Nat
def tw5587094857583760433:=Nat
def tw16763590917072800238:=Nat
def tw294162691154965376:=Nat
def tw10273893112037198125:=Nat
def tw14833197479884506040:=Nat
def tw16070813064565021691:=Nat
def tw15457851473778037918:=Nat
def tw1031812546294173833:=Nat
def tw843782801730662549:=Nat
def tw16631910999667344975:=Nat
def tw17766425394689325652:=Nat
def tw9064886735564334437:=Nat
def tw1819665491956298113:=Nat
def tw12731117666884552008:=Nat
def tw11696432300349864788:=Nat
def tw4728554887995043612:=Nat
def tw11457905647870459361:=Nat
def tw1977159511617464947:=Nat
def tw16820980705285695356:=Nat
def tw2429914260624947211:=Nat
def tw449391705397585451:=Nat
def tw355861493223750196:=Nat
def tw2534602440158254375:=Nat
def tw15939986494590536557:=Nat
def tw2931578699690814996:=Nat
def tw13201616354061808275:=Nat
def tw5530982715207959482:=Nat
def tw12457172124667324039:=Nat
def tw5330306401203077787:=Nat
def tw6324449340434864559:=Nat
def tw16169393422458639358:=Nat
def tw10246154387248479758:=Nat
def tw4915281584182064198:=Nat
def tw8964085291143238787:=Nat
def tw15101484513948685135:=Nat
def tw4981627803533998316:=Nat
def tw11561264710507557659:=Nat
def tw10605677554478538850:=Nat
def tw6349248758075917194:=Nat
def tw4351007889197574085:=Nat
def tw9725509990850489240:=Nat
def tw15708709581825536619:=Nat
def tw12538772413294808730:=Nat
def tw6726815669093221050:=Nat
def tw13032085580212064911:=Nat
def tw4171757443773671931:=Nat
def tw13630330429270832784:=Nat
def tw7422592609358866738:=Nat
def tw10136711081913775647:=Nat
def tw1711957356273670681:=Nat
def tw16835242556945396029:=Nat
def tw10053750331596016972:=Nat
def tw8980139805976508530:=Nat
def tw13036176706579637362:=Nat
def tw8461614033086767639:=Nat
def tw17857545911511509640:=Nat
def tw8264680176965769861:=Nat
def tw384287403493734786:=Nat
def tw16524063088096530961:=Nat
def tw12874440629063827516:=Nat
def tw7675496751259429336:=Nat
def tw10318882703508725561:=Nat
def tw10623057825148123264:=Nat
def tw2052981751227099237:=Nat
def tw6567718347237871391:=Nat
def tw1993833909450587936:=Nat
def tw10841630469670597489:=Nat
def tw9535601703064370137:=Nat
def tw9928900982183420262:=Nat
def tw12851547786642147596:=Nat
def tw9324623623339312202:=Nat
def tw13261524055949084539:=Nat
def tw10032142315584222362:=Nat
def tw13032604488611025535:=Nat
def tw5195451523367797737:=Nat
def tw11761854219719046381:=Nat
def tw6319901896316495063:=Nat
def tw4177565311594374372:=Nat
def tw9200379697512282580:=Nat
def tw16610861513503908559:=Nat
def tw12110806606305671052:=Nat
def tw850611920999134036:=Nat
def tw14113780695394333862:=Nat
def tw2825825735937035672:=Nat
def tw3389436865347044384:=Nat
def tw17242845539465091033:=Nat
def tw1170781294152855252:=Nat
def tw4011113647839027202:=Nat
def tw7046410229280423079:=Nat
def tw11831674563849808620:=Nat
def tw16024781531792597465:=Nat
def tw7769055517774289962:=Nat
def tw5879335646224830051:=Nat
def tw12968927922897362947:=Nat
def tw16080427764364844220:=Nat
def tw13754305955104144460:=Nat
def tw17749885163587871602:=Nat
def tw14749908609728797607:=Nat
def tw12421875219670126104:=Nat
def tw11873858925586133284:=Nat
def tw12538801910661500438:=Nat
def tw17719626840688233639:=Nat
def tw9542849981271134605:=Nat
def tw3316400087720005994:=Nat
def tw15560235648892601763:=Nat
def tw12054928832449276473:=Nat
def tw18272352971828481318:=Nat
def tw4414858593720510758:=Nat
def tw7881946881739808050:=Nat
def tw17133311199064592885:=Nat
def tw13445824363751609102:=Nat
def tw3882552210749339194:=Nat
def tw13141291884940215812:=Nat
def tw18198910510211600455:=Nat
def tw10279822356143850480:=Nat
def tw7400775160520215072:=Nat
def tw8601406608170503253:=Nat
def tw3419218065415329470:=Nat
def tw5558927681186321206:=Nat
def tw5853483686148971014:=Nat
def tw14156943875855980825:=Nat
def tw9007065371028458396:=Nat
def tw7358920828829195612:=Nat
def tw488133393250754408:=Nat
def tw1685322263681072288:=Nat
def tw17313951632476610493:=Nat
def tw17045584337889943843:=Nat
def tw10388225681155025456:=Nat
def tw9382161163971781241:=Nat
def tw2384700401207546339:=Nat
def tw1714582023591240350:=Nat
def tw84849122771759289:=Nat
def tw7733510000850477885:=Nat
def tw15610582389252647351:=Nat
def tw17180279718011835499:=Nat
def tw16786571970039259730:=Nat
def tw555248013449776412:=Nat
def tw18003642613974307997:=Nat
def tw2768330563883248417:=Nat
def tw16880291503201055165:=Nat
def tw223342006246716663:=Nat
def tw14040392975047867445:=Nat
def tw11323181056271848100:=Nat
def tw11385173153597934976:=Nat
def tw10281097243301423536:=Nat
def tw5669423484256465260:=Nat
def tw7271994644216433759:=Nat
def tw2901225255537041170:=Nat
def tw3785130058413986135:=Nat
def tw11402303433556562698:=Nat
def tw11611172756843858750:=Nat
def tw16244525499203648485:=Nat
def tw214720374807642963:=Nat
def tw6279544000174090147:=Nat
def tw12980149383729366865:=Nat
def tw9577485311457628389:=Nat
def tw6032823358784321532:=Nat
def tw17323419892687685363:=Nat
def tw383935409448788286:=Nat
def tw10113702390056738818:=Nat
def tw14068795733857915345:=Nat
def tw7287960573683002606:=Nat
def tw11595059515549920097:=Nat
def tw8816268946958984106:=Nat
def tw7317695431881926845:=Nat
def tw7022339601462720966:=Nat
def tw13311803411642622934:=Nat
def tw3328558538168077149:=Nat
def tw11196993039899973740:=Nat
def tw17454584710214210146:=Nat
def tw8574545320379411687:=Nat
def tw482720978577525784:=Nat
def tw8004678496515977248:=Nat
def tw9344666648503193667:=Nat
def tw15031635471577859333:=Nat
def tw17055400248608007300:=Nat
def tw11462345696185252048:=Nat
def tw16801033510495358487:=Nat
def tw2011424045226315598:=Nat
def tw13016250556967775032:=Nat
def tw5443304664518530823:=Nat
def tw9704139224164050981:=Nat
def tw7743040537982615277:=Nat
def tw9592866781884502898:=Nat
def tw13510646485094827195:=Nat
def tw8222180383005639653:=Nat
def tw18230951744357965254:=Nat
def tw12500379719560824772:=Nat
def tw9063310561830571261:=Nat
def tw7272676286047227316:=Nat
def tw15317510456649982278:=Nat
def tw8485194198377629495:=Nat
def tw325508183889157491:=Nat
def tw6445116043735089861:=Nat
def tw10830684131423938608:=Nat
def tw6611405516702517326:=Nat
def tw12415111415886700477:=Nat
def tw1699678047349668115:=Nat
def tw11313649644435918569:=Nat
def tw12469237744261348653:=Nat
def tw366092946846020058:=Nat
def tw5363613064207795152:=Nat
def tw3720160626665408592:=Nat
def tw14363551740763505847:=Nat
def tw5473041584936060496:=Nat
def tw11542468647307162411:=Nat
def tw6198927800445639401:=Nat
def tw9786510927134529816:=Nat
def tw6495683676295401435:=Nat
def tw7003336385509998023:=Nat
def tw889907022178137769:=Nat
def tw3079056716993565746:=Nat
def tw15370034814523346868:=Nat
def tw14695761754352301946:=Nat
def tw12115979005926374768:=Nat
def tw8253400423414721303:=Nat
def tw3334562816754062508:=Nat
def tw10064961973482001797:=Nat
def tw2314443808775877121:=Nat
def tw3451507992066649830:=Nat
def tw15642165571279513403:=Nat
def tw14143385169399702080:=Nat
def tw5221139938140358703:=Nat
def tw11602223696228909621:=Nat
def tw16148867416287309275:=Nat
def tw405199732549513597:=Nat
def tw679748518379617603:=Nat
def tw17310824731870112033:=Nat
def tw15160055157814612222:=Nat
def tw782449848929099491:=Nat
def tw2812775918481459830:=Nat
def tw16486003438371108201:=Nat
def tw12572359241908573151:=Nat
def tw9873503977743089860:=Nat
def tw812161764129263589:=Nat
def tw5482784885169336685:=Nat
def tw8347651071308368782:=Nat
def tw10623832981247322228:=Nat
def tw9544714260195951891:=Nat
def tw16515274686718628491:=Nat
def tw10169531289229426878:=Nat
def tw1744339497710752412:=Nat
def tw5902012307844367018:=Nat
def tw7547318548754380464:=Nat
def tw9306094162414450216:=Nat
def tw5411276296640626073:=Nat
def tw7162772495083047272:=Nat
def tw1933696789337841326:=Nat
def tw9412815691086380847:=Nat
def tw2829825110853887552:=Nat
def tw9614881800170361005:=Nat
def tw6679215180456343857:=Nat
def tw191076423572437957:=Nat
def tw4742758139199683276:=Nat
def tw13477068349553445786:=Nat
def tw14581308651517675280:=Nat
def tw8935517375593997558:=Nat
def tw3561304475818638389:=Nat
def tw8518073849627268487:=Nat
def tw4925170623662323707:=Nat
def tw7725910592126048272:=Nat
def tw13975205867512380246:=Nat
def tw942678210098160069:=Nat
def tw15879958252862843380:=Nat
def tw7197628908502143367:=Nat
def tw18300143682672238340:=Nat
def tw16514042194079538452:=Nat
def tw1815015087048449295:=Nat
def tw17062948925877950944:=Nat
def tw4717067856200197729:=Nat
def tw749960128409638840:=Nat
def tw14960139770874781100:=Nat
def tw6559731923489313525:=Nat
def tw12259166787256478094:=Nat
def tw15910891269976384386:=Nat
def tw3499223077004315592:=Nat
def tw7602917823043025606:=Nat
def tw3342640669401766658:=Nat
def tw10779607992686251320:=Nat
def tw2240553593012297774:=Nat
def tw12043873840877207058:=Nat
def tw522100567415849923:=Nat
def tw8497459956678809992:=Nat
def tw9288724191034676244:=Nat
def tw223759131847408289:=Nat
def tw15167071926005824804:=Nat
def tw10378257187699893436:=Nat
def tw18395237411297448680:=Nat
def tw11611287959299957602:=Nat
def tw6191351744822971631:=Nat
def tw3034928040717805610:=Nat
def tw12285260367376937985:=Nat
def tw4975988810960706851:=Nat
def tw12072799566127251488:=Nat
def tw9660754000281419339:=Nat
def tw9486718833805139865:=Nat
def tw6962744940884380006:=Nat
def tw9083281893388906729:=Nat
def tw1228831018083995717:=Nat
def tw15362434852564361320:=Nat
def tw3486218495308274550:=Nat
def tw6876423805765722210:=Nat
def tw1775243087015479637:=Nat
def tw17256638005465090460:=Nat
def tw3499332856506457840:=Nat
def tw7659682979327562406:=Nat
def tw872783308805700773:=Nat
def tw13369523946998354143:=Nat
def tw9560013114625769479:=Nat
def tw3205196643107511462:=Nat
def tw6514610899031562832:=Nat
def tw3079333824914284813:=Nat
def tw1887091213516161498:=Nat
def tw1727831045788037963:=Nat
def tw8873453986158372082:=Nat
def tw2851276170664335515:=Nat
def tw14927441004786530429:=Nat
def tw15185874048955427218:=Nat
def tw12147507642607087189:=Nat
def tw285609387664850297:=Nat
def tw13910452546700372151:=Nat
def tw12802959179065437573:=Nat
def tw12200540885649384996:=Nat
def tw11005740308188906006:=Nat
def tw17721222944616315313:=Nat
def tw10082467445052410940:=Nat
def tw14922258977041382147:=Nat
def tw6539169911943872200:=Nat
def tw14596977312169741324:=Nat
def tw2219512794800579091:=Nat
def tw5537761013837341907:=Nat
def tw8575139258970981320:=Nat
end PySem.W.Fast
set_option maxRecDepth 100000 in
set_option maxHeartbeats 0 in
theorem PySem.Challenge.cw_crystalwords_k62_leading_holds : PySem.Challenge.rw_crystalwords_k62_leading.Holds := by
 w_on; o_law; k_head; (case hw=>w_witness2)
 k_fill
 refine L2.walkB (l:=PySem.Challenge.rw_crystalwords_k62_leading) (k:=18) (x := "_law_script") rfl rfl ⟨rfl,by decide,by decide⟩ (λ w h Y=>PySem.W.kIn_of Y) ?F
 case F =>
  intro w mg fa h KX G hmg
  have T:∃ t,Cw.Txt (L2.KOf KX) mg t:=by
   dsimp only [L2.KOf]
   refine' Cw.txt_mk KX G ?n_1x ?n_1u ?n_1v ?n_20 ?n_1z ?n_d ?n_21 ?n_1y ?n_13 ?F_13 ?n_15 ?F_15 ?n_10 ?F_10 ?n_s ?F_s ?n_11 ?F_11 ?n_18 ?F_18 ?n_q ?F_q ?n_h ?F_h ?n_1s ?F_1s ?n_1e ?F_1e ?n_1m ?F_1m ?n_1b ?F_1b ?n_1 ?F_1 ?n_16 ?F_16 ?n_1f ?F_1f ?n_1k ?F_1k ?n_19 ?F_19 ?n_1n ?F_1n ?n_1o ?F_1o ?n_1p ?F_1p ?n_1i ?F_1i ?n_1g ?F_1g ?n_1q ?F_1q ?n_j ?F_j ?n_1c ?F_1c ?n_1h ?F_1h ?n_a ?F_a ?n_1j ?F_1j ?n_1t ?F_1t ?n_1w ?F_1w ?n_12 ?F_12 ?n_t ?F_t ?n_p ?F_p ?n_w ?F_w ?n_1d ?F_1d ?n_0 ?l_0 ?t_Group___init__ ?c_0 ?k_0 ?n_g ?F_g ?n_c ?F_c ?n_2 ?F_2 ?n_u ?F_u ?n_14 ?F_14 ?n_o ?F_o ?n_1l ?F_1l ?n_7 ?l_7 ?t_changed ?c_7 ?k_7 ?n_e ?F_e ?n_v ?F_v ?n_b ?F_b ?n_x ?F_x ?n_f ?F_f ?n_n ?F_n ?n_9 ?F_9 ?n_1a ?F_1a ?n_r ?F_r ?n_17 ?F_17 ?n_3 ?F_3 ?n_6 ?F_6 ?n_4 ?F_4 ?n_k ?F_k ?n_i ?F_i ?n_8 ?F_8 ?n_z ?F_z ?n_5 ?F_5 ?n_m ?F_m ?n_y ?F_y ?n_l ?F_l ?n_1r ?F_1r ?n_MOST_MEMBERS ?y_any ?y_sum ?y_zip ?y_enumerate ?y_range ?y_len ?y_abs ?y_isinstance ?y_int ?y_bool ?y_list ?y_tuple ?y_sorted ?y_dict ?q_d ?q_e ?q_k_tt ?q_g ?q_8 ?q_9 ?q_a ?q_b ?q_0 ?q_3 ?q_c ?q_6 ?q_4 ?q_7 ?q_2 ?q_1 ?q_5
   (case n_1x | n_1u | n_1v | n_20 | n_1z | n_d | n_21 | n_1y | n_13 | n_15 | n_10 | n_s | n_11 | n_18 | n_q | n_h | n_1s | n_1e | n_1m | n_1b | n_1 | n_16 | n_1f | n_1k | n_19 | n_1n | n_1o | n_1p | n_1i | n_1g | n_1q | n_j | n_1c | n_1h | n_a | n_1j | n_1t | n_1w | n_12 | n_t | n_p | n_w | n_1d | n_14 | n_o | n_1l | n_7 | n_e | n_v | n_b | n_x | n_f | n_n | n_9 | n_1a | n_r | n_17 | n_3 | n_6 | n_4 | n_k | n_i | n_8 | n_z | n_5 | n_m | n_y | n_l | n_1r=>show _=_; k_is)
   (case n_0 | l_0 | t_Group___init__ | c_0 | k_0 | n_g | n_c | n_2 | n_u | l_7 | t_changed | c_7 | k_7 | n_MOST_MEMBERS | y_any | y_sum | y_zip | y_enumerate | y_range | y_len | y_abs | y_isinstance | y_int | y_bool | y_list | y_tuple | y_sorted | y_dict | q_3 | q_c | q_6 | q_4 | q_7=>k_is)
   (case F_13 | F_15 | F_10 | F_s | F_11 | F_18 | F_q | F_h | F_1s | F_1e | F_1m | F_1b | F_1 | F_16 | F_1f | F_1k | F_19 | F_1n | F_1o | F_1p | F_1i | F_1g | F_1q | F_j | F_1c | F_1h | F_a | F_1j | F_1t | F_1w | F_12 | F_t | F_p | F_w | F_1d | F_g | F_c | F_2 | F_u | F_14 | F_o | F_1l | F_e | F_v | F_b | F_x | F_f | F_n | F_9 | F_1a | F_r | F_17 | F_3 | F_6 | F_4 | F_k | F_i | F_8 | F_z | F_5 | F_m | F_y | F_l | F_1r=>refine' L2.fun_mk ?l ?c ?k; (case l=>k_is); (case c=>k_is); (case k=>k_is))
   (case q_d | q_e | q_k_tt | q_g=>kit_is)
   (case q_8 | q_9=>k_exc)
   (case q_a | q_b=>exact ⟨by k_is,by k_is,by k_is,by k_is⟩)
   (case q_0 | q_2 | q_1 | q_5=>exact ⟨by k_is,by k_is,by k_is⟩)
  obtain ⟨t,T⟩:=T
  have e0:=hmg.symm.trans T.F_1r.m
  cases e0
  exact ⟨t.d_1r,T.bl,λ base kb nb=>Cw.ok_1r T⟩
#print axioms PySem.Challenge.cw_crystalwords_k62_leading_holds