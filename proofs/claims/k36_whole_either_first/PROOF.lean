import PyProof.Rows.All
import Wide.All
import OpenK.AllK
import Wide.FinOn
import Lean
import PyProof.EqAt
import PyProof.EqKinds
import PyProof.TupleCall
import PySem.Challenge.RW_crystalwords_k36_whole_either_first
set_option Elab.async false
set_option linter.all false
set_option maxRecDepth 100000
theorem dLe {d k:Nat} (h:d=2\/d=3) (g:3≤k):d≤k:=by
 rcases h with h|h<;>rw [h]
 ·exact Nat.le_trans (by decide) g
 ·exact g
theorem eLe {x d k:Nat} (e:x=d) (h:d=2\/d=3) (g:3≤k):x≤k:=by rw [e];exact dLe h g
theorem eLt {x y k:Nat} (e:x=y) (g:k < y):k < x:=by rw [e];exact g
theorem iNn {x:Int} (h:0 < x):¬x < 0:=Int.not_lt.mpr (Int.le_of_lt h)
local macro_rules | `(tactic| omega)=>`(tactic| first | (with_reducible first | assumption | exact Int.ne_of_gt (by assumption) | exact iNn (by assumption) | exact Int.le_of_lt (by assumption) | exact eLt (by assumption) (by assumption) | exact dLe (by assumption) (by decide) | exact eLe (by assumption) (by assumption) (by decide) | exact Nat.le_trans (by assumption) (by decide) | exact Nat.lt_of_lt_of_le (by assumption) (by decide) | exact Nat.lt_of_le_of_lt (by assumption) (by decide) | exact Nat.le_trans (Nat.le_of_lt (by assumption)) (by decide) | exact Nat.le_of_lt (by assumption)) | decide | omega +splitDisjunctions)
open PySem in
def zA:=@wpAny_bind
open PySem in
def zB:=@wpAny_pure
open PySem in
def zC:=@wpAny_mono
open PySem in
def zD:=@Heap.get?_push_of_some
open PySem in
def zE:=@Heap.lt_size
open PySem in
def zF:=@Heap.get?_push_size
open PySem in
def zG:=@PassesOwn.never
open PySem in
def zH:=@List.getElem?_map
open PySem in
def zI:=@Nat.lt_of_lt_of_le
open PySem in
def zJ:=@List.size_toArray
open PySem in
def zK:=@Nat.mul_le_mul_right
open PySem in
def zL:=@Nat.le_refl
open PySem in
def zM:=@Nat.pow_le_pow_right
open PySem in
def zN:=@List.mem_cons_of_mem
open PySem in
def zO:=@List.eq_nil_of_length_eq_zero
open PySem in
def zP:=@List.getElem?_set_self
open PySem in
def zQ:=@List.getElem?_set_ne
open PySem in
def zR:=@Int.toNat_natCast
open PySem in
def zS:=@Nat.le_trans
open PySem in
def zT:=@Option.some.inj
open PySem in
def zU:=@List.mem_cons_self
open PySem in
def zV:=@Bool.false_ne_true
open PySem in
def zW:=@decide_eq_true
open PySem in
def zX:=@decide_eq_false
open PySem in
def zY:=@of_decide_eq_true
open PySem in
def zZ:=@List.mem_append_right
open PySem in
def yA:=@List.getElem_mem
open PySem in
def yB:=@List.length_set
open PySem in
def yC:=@List.getElem?_append_left
open PySem in
def yD:=@List.getElem?_append_right
open PySem in
def yE:=@Int.natAbs_mul
open PySem in
def yF:=@List.getElem_of_mem
open PySem in
def yG:=@List.ext_getElem
open PySem in
def yH:=@List.getElem?_range
open PySem in
def yI:=@List.length_map
open PySem in
def yJ:=@absurd
namespace L2
open PySem PySem.Spec PyProof.Rows
open PySem.W (Frag)
noncomputable abbrev Key:=Sum Int Str
noncomputable def r_e:Key->Value->Bool
 | .inl k,v=>Value.isInt k v
 | .inr x,v=>Value.isStrOf x v
noncomputable def keyH (w:World):Key->Int
 | .inl k=>hashInt k
 | .inr x=>hashStr w x
theorem c_j:∀ {k:Key} {v:Value},r_e k v=true->(∃ i t,k=Sum.inl i/\v=Value.int i t)\/(∃ x t,k=Sum.inr x/\v=Value.str x t)
 | .inl i,v,h=>by
  obtain ⟨t,e⟩:=Value.isInt_shape (k:=i) (v:=v) h;exact .inl ⟨i,t,rfl,e⟩
 | .inr x,v,h=>by
  obtain ⟨t,e⟩:=Value.isStrOf_shape (x:=x) (v:=v) h;exact .inr ⟨x,t,rfl,e⟩
theorem r_t (a b:Int):decide ((Sum.inl a:Key)=Sum.inl b)=(a == b):=by
 by_cases e:a=b
 ·subst e; simp
 ·have h:¬ (Sum.inl a:Key)=Sum.inl b:=λ q=>e (Sum.inl.inj q);rw [zX h];exact (beq_eq_false_iff_ne.mpr e).symm
theorem r_u (a b:Str):decide ((Sum.inr a:Key)=Sum.inr b)=decide (a=b):=by
 by_cases e:a=b
 ·subst e; simp
 ·have h:¬ (Sum.inr a:Key)=Sum.inr b:=λ q=>e (Sum.inr.inj q);rw [zX h,zX e]
theorem r_v (a:Int) (b:Str):decide ((Sum.inl a:Key)=Sum.inr b)=false:=zX (λ q=>nomatch q)
theorem r_w (a:Str) (b:Int):decide ((Sum.inr a:Key)=Sum.inl b)=false:=zX (λ q=>nomatch q)
noncomputable def l_i (prog:Program) (w:World):PySem.KeyKind prog w Key where
 is:=r_e
 hash:=keyH w
 inj:=λ v a b ha hb=>by
  rcases c_j ha with ⟨i,t,rfl,rfl⟩ | ⟨x,t,rfl,rfl⟩
  ·rcases c_j hb with ⟨j,u,rfl,e⟩ | ⟨y,u,rfl,e⟩
   ·injection e with e1 _; rw [e1]
   ·exact nomatch e
  ·rcases c_j hb with ⟨j,u,rfl,e⟩ | ⟨y,u,rfl,e⟩
   ·exact nomatch e
   ·injection e with e1 _; rw [e1]
 byValue:=λ k v h=>by
  rcases c_j h with ⟨i,t,rfl,rfl⟩ | ⟨x,t,rfl,rfl⟩ <;> rfl
 pyHash:=λ hv h=>by
  rcases c_j hv with ⟨i,t,rfl,rfl⟩ | ⟨x,t,rfl,rfl⟩
  ·exact wpAny_pyHash_int h
  ·exact wpAny_pyHash_str h
 eqBool:=λ hu hv h=>by
  rcases c_j hu with ⟨i,t,rfl,rfl⟩ | ⟨x,t,rfl,rfl⟩
  ·rcases c_j hv with ⟨j,u,rfl,rfl⟩ | ⟨y,u,rfl,rfl⟩
   ·rw [r_t] at h; exact wpAny_eqBool_int h
   ·rw [r_v] at h; exact SeqAt.EqAt.int_str i t y u _ _ _ _ h
  ·rcases c_j hv with ⟨j,u,rfl,rfl⟩ | ⟨y,u,rfl,rfl⟩
   ·rw [r_w] at h; exact SeqAt.EqAt.str_int x t j u _ _ _ _ h
   ·rw [r_u] at h; exact wpAny_eqBool_str h
 «strs»:=λ k x t v h=>by
  rcases c_j h with ⟨i,u,rfl,e⟩ | ⟨y,u,rfl,e⟩
  ·exact nomatch e
  ·injection e with e1 _;subst e1;cases v <;> rfl
inductive V where
 | non | bl (b:Bool) | int (i:Int) | str (x:Str) | byt (b:Array UInt8) | flt (b:UInt64) | ref (a:Addr) | ty (n:String)
 deriving DecidableEq
noncomputable def RelV:V->Value->Prop
 | .non,u=>u=Value.none
 | .bl b,u=>u=Value.bool b
 | .int i,u=>∃ t,u=Value.int i t
 | .str x,u=>∃ t,u=Value.str x t
 | .byt b,u=>∃ t,u=Value.bytes b t
 | .flt b,u=>∃ t,u=Value.float b t
 | .ref a,u=>u=Value.ref a
 | .ty n,u=>u=Value.type n
noncomputable abbrev Vals:List V->List Value->Prop:=Paired RelV
theorem Vals.length {xs:List V} {us:List Value} (r:Vals xs us):xs.length=us.length:=Paired.length r
theorem Vals.get:∀ {xs:List V} {us:List Value} {i:Nat} {x:V},Vals xs us->xs[i]?=some x->∃ u,us[i]?=some u/\RelV x u
 | _,_,_,_,.nil,e=>by simp at e
 | _,_,0,_,.cons r _,e=>by simp at e; subst e; exact ⟨_,rfl,r⟩
 | _,_,i+1,x,.cons _ t,e=>by
  obtain ⟨u,h1,h2⟩:=Vals.get (i:=i) (x:=x) t (by simpa using e);exact ⟨u,by simpa using h1,h2⟩
theorem Vals.set {x:V} {u:Value} (r:RelV x u):∀ {xs:List V} {us:List Value} (i:Nat),Vals xs us->Vals (xs.set i x) (us.set i u)
 | _,_,_,.nil=>.nil
 | _,_,0,.cons _ t=>.cons r t
 | _,_,i+1,.cons q t=>.cons q (Vals.set r i t)
theorem Vals.append:∀ {xs ys:List V} {us ws:List Value},Vals xs us->Vals ys ws->Vals (xs++ys) (us++ws)
 | _,_,_,_,.nil,s=>s
 | _,_,_,_,.cons r t,s=>.cons r (Vals.append t s)
theorem Vals.take:∀ {xs:List V} {us:List Value} (n:Nat),Vals xs us->Vals (xs.take n) (us.take n)
 | _,_,0,_=>.nil
 | _,_,_+1,.nil=>.nil
 | _,_,n+1,.cons r t=>.cons r (Vals.take n t)
theorem Vals.drop:∀ {xs:List V} {us:List Value} (n:Nat),Vals xs us->Vals (xs.drop n) (us.drop n)
 | _,_,0,r=>r
 | _,_,_+1,.nil=>.nil
 | _,_,n+1,.cons _ t=>Vals.drop n t
theorem Vals.none_of:∀ {xs:List V} {us:List Value} {i:Nat},Vals xs us->xs[i]?=none->us[i]?=none:=λ {xs us i} r e=>by
 have h1:=r.length;have h2:xs.length<=i:=List.getElem?_eq_none_iff.mp e;exact List.getElem?_eq_none_iff.mpr (by omega)
noncomputable def RelO:Option V->Option Value->Prop
 | some v,some u=>RelV v u
 | none,none=>True
 | _,_=>False
noncomputable def KV {κ:Type}:List (κ × V)->List (κ × Value)->Prop:=Paired λ (p:κ × V) (q:κ × Value)=>p.1=q.1/\RelV p.2 q.2
noncomputable def kV:Key->V
 | .inl i=>.int i
 | .inr x=>.str x
inductive HO where
  | lst (xs:List V)
  | tup (xs:List V)
  | dK (kvs:List (Key × V)) | dT (kvs:List (List Key × V))
  | set (S:Int->Bool) (n:Nat)
  | ins (C dx:Addr) (fs:List (Str × V))
  | own (x:Addr)
  | xd (fs:List (Str × V))
  | met (f x:Addr)
  | rng (lo hi:Int)
  | frz (o:Obj) (u:HO)
  | tbl (ps:Array Value)
  | ext (φ:Heap->Prop)
noncomputable abbrev Hp:=Addr->Option HO
noncomputable def upd (H:Hp) (a:Addr) (o:HO):Hp:=λ b=>if b=a then some o else H b
theorem a_G {H:Hp} {a:Addr} {o:HO}:upd H a o a=some o:=by unfold upd; rw [if_pos rfl]
theorem a_H {H:Hp} {a b:Addr} {o:HO} (h:b≠a):upd H a o b=H b:=by unfold upd; rw [if_neg h]
theorem p_H {H:Hp} {a:Addr} {o u:HO}:upd (upd H a o) a u=upd H a u:=by
 funext b; unfold upd; split <;> rfl
theorem a_J {H:Hp} {a b:Addr} {o:HO} (h:H a=some o) (h':H b=none):a≠b:=by
 intro e; subst e; rw [h] at h'; cases h'
section
variable (P:Program) (w:World)
noncomputable def c_v (H:Hp) (h:Heap) (a:Addr):HO->Prop
 | .lst xs=>xs.length<=sizeLine/\∃ (its:List Value) (n:Nat),Vals xs its/\h.get? a=some { cls:=.type "list",data:=.seq its.toArray n }
 | .tup xs=>xs.length<=sizeLine/\∃ its:List Value,Vals xs its/\IsTup h a its.toArray
 | .dK kvs=>kvs.length<=sizeLine/\(a == sysModules)=false/\∃ vs,KV kvs vs/\h.DictOf (l_i P w) a vs
 | .dT kvs=>kvs.length<=sizeLine/\(a == sysModules)=false/\∃ xs:List (List Key × Addr × Value),
   Paired (λ (p:List Key × V) (q:List Key × Addr × Value)=>p.1=q.1/\H q.2.1=some (.tup (p.1.map kV))/\RelV p.2 q.2.2) kvs xs /\
   ∃ o es ep,h.get? a=some o/\o.ExactDict/\o.data=.dict es ep/\es.toList=xs.map (entryOfKey (tupleKind (l_i P w)))/\(xs.map (·.1)).Nodup
 | .set S n=>h.SetOf (intKind P w) a S n
 | .ins C dx fs=>H dx=some (.own a)/\fs.length<=1000/\dx≠a/\h.get? a=some (PySem.W.instObj C dx) /\
   ∃ mA,h.Ns1 dx mA/\(∀ f,RelO (fs.lookup f) (mA f))/\PySem.Within mA (fs.map (·.1))
 | .own _=>∃ o,h.get? a=some o
 | .xd fs=>∃ mA,h.Ns1 a mA/\∀ f,RelO (fs.lookup f) (mA f)
 | .rng lo hi=>∃ t u v,h.get? a=some { cls:=.type "range",data:=.fields #[.int lo t,.int hi u,.int 1 v] }
 | .frz o u=>h.get? a=some o/\c_v H h a u
 | .tbl ps=>h.get? a=some { cls:=.none,data:=.fields ps }
 | .met f x=>h.get? a=some (PySem.W.methodObj (.ref f) (.ref x))
 | .ext φ=>φ h/\(∃ o,h.get? a=some o)/\∀ h1 h2:Heap,φ h1->(∀ o,h1.get? a=some o->h2.get? a=some o)->φ h2
noncomputable def HOk (H:Hp) (h:Heap):Prop:=∀ a o,H a=some o->c_v P w H h a o
end
section
variable {P:Program} {w:World} {H H':Hp} {h h':Heap} {a:Addr} {o:HO}
theorem c_v.lt (x:c_v P w H h a o):a < h.objs.size:=by
 cases o with
 | lst xs=>obtain ⟨_,_,_,_,e⟩:=x; exact zE e
 | tup xs=>obtain ⟨_,_,_,p⟩:=x; exact p.lt
 | dK kvs=>obtain ⟨_,_,_,_,o,_,_,e,_⟩:=x; exact zE e
 | dT kvs=>obtain ⟨_,_,_,_,o,_,_,e,_⟩:=x; exact zE e
 | set S n=>obtain ⟨o,_,_,_,e,_⟩:=x; exact zE e
 | ins C dx fs=>obtain ⟨_,_,_,e,_⟩:=x; exact zE e
 | own y=>obtain ⟨_,e⟩:=x; exact zE e
 | xd fs=>obtain ⟨_,⟨_,_,_,e,_⟩,_⟩:=x; exact zE e
 | rng lo hi=>obtain ⟨_,_,_,e⟩:=x; exact zE e
 | frz ob u=>obtain ⟨e,_⟩:=x; exact zE e
 | tbl ps=>exact zE (show h.get? a=some _ from x)
 | met f y=>exact zE (show h.get? a=some _ from x)
 | ext φ=>obtain ⟨_,⟨_,e⟩,_⟩:=x; exact zE e
theorem Paired.mapP {α β:Type} {F G:α->β->Prop}:∀ {l₁:List α} {l₂:List β},Paired F l₁ l₂->(∀ a b,F a b->G a b)->Paired G l₁ l₂
 | _,_,.nil,_=>.nil
 | _,_,.cons r t,f=>.cons (f _ _ r) (Paired.mapP t f)
theorem c_v.stay (x:c_v P w H h a o) (k:∀ b u,(b=a\/H b=some (.own a))->h.get? b=some u->h'.get? b=some u)
  (ho:∀ b,H b=some (.own a)->H' b=some (.own a)) (ht:∀ b xs,H b=some (.tup xs)->H' b=some (.tup xs)):c_v P w H' h' a o:=by
 induction o with
 | lst xs=>obtain ⟨z,its,n,r,e⟩:=x; exact ⟨z,its,n,r,k _ _ (.inl rfl) e⟩
 | tup xs=>obtain ⟨z,its,r,ob,e,c⟩:=x; exact ⟨z,its,r,ob,k _ _ (.inl rfl) e,c⟩
 | dK kvs=>obtain ⟨z,y,vs,r,ob,es,ep,e,c⟩:=x; exact ⟨z,y,vs,r,ob,es,ep,k _ _ (.inl rfl) e,c⟩
 | dT kvs =>
  obtain ⟨z,y,xs,r,ob,es,ep,e,c⟩:=x;exact ⟨z,y,xs,Paired.mapP r λ p q z=>⟨z.1,ht _ _ z.2.1,z.2.2⟩,ob,es,ep,k _ _ (.inl rfl) e,c⟩
 | set S n=>obtain ⟨ob,es,ep,t,e,c⟩:=x; exact ⟨ob,es,ep,t,k _ _ (.inl rfl) e,c⟩
 | ins C dx fs =>
  obtain ⟨d,z,ne,e,mA,⟨od,es,ep,e2,c⟩,r⟩:=x;exact ⟨ho _ d,z,ne,k _ _ (.inl rfl) e,mA,⟨od,es,ep,k _ _ (.inr d) e2,c⟩,r⟩
 | own y=>obtain ⟨ob,e⟩:=x; exact ⟨ob,k _ _ (.inl rfl) e⟩
 | xd fs=>obtain ⟨mA,⟨od,es,ep,e,c⟩,r⟩:=x; exact ⟨mA,⟨od,es,ep,k _ _ (.inl rfl) e,c⟩,r⟩
 | rng lo hi=>obtain ⟨t,u,v,e⟩:=x; exact ⟨t,u,v,k _ _ (.inl rfl) e⟩
 | frz ob u ih=>obtain ⟨e,q⟩:=x; exact ⟨k _ _ (.inl rfl) e,ih q⟩
 | tbl ps =>
  have e:h.get? a=some { cls:=.none,data:=.fields ps }:=x;show h'.get? a=some { cls:=.none,data:=.fields ps };exact k a _ (.inl rfl) e
 | met f y =>
  have e:h.get? a=some (PySem.W.methodObj (.ref f) (.ref y)):=x;show h'.get? a=some (PySem.W.methodObj (.ref f) (.ref y));exact k a _ (.inl rfl) e
 | ext φ=>obtain ⟨p,⟨o,e⟩,st⟩:=x; exact ⟨st _ _ p λ o q=>k _ _ (.inl rfl) q,⟨o,k _ _ (.inl rfl) e⟩,st⟩
theorem HOk.lt (x:HOk P w H h) (e:H a=some o):a < h.objs.size:=(x a o e).lt
theorem HOk.fresh (x:HOk P w H h) (e:h.objs.size<=a):H a=none:=by
 cases q:H a with
 | none=>rfl
 | some u=>exact yJ (zI (x.lt q) e) (Nat.lt_irrefl _)
theorem HOk.kept (x:HOk P w H h) (k:∀ b u,h.get? b=some u->h'.get? b=some u):HOk P w H h':=λ a o e =>
 (x a o e).stay (λ b u _ q=>k b u q) (λ _ q=>q) λ _ _ q=>q
theorem HOk.laid (x:HOk P w H h) (k:∀ b u,h.get? b=some u->h'.get? b=some u) (hp:h.objs.size<=a) (new:c_v P w (upd H a o) h' a o):HOk P w (upd H a o) h':=λ b u e=>by
 have hn:=x.fresh hp
 by_cases hb:b=a
 ·subst hb; rw [a_G] at e; cases e; exact new
 ·rw [a_H hb] at e;exact (x b u e).stay (λ c v _ q=>k c v q) (λ c q=>by rw [a_H (a_J q hn)]; exact q) λ c xs q=>by rw [a_H (a_J q hn)]; exact q
end
noncomputable def Rd (H:Hp) (a:Addr) (u:HO):Prop:=H a=some u\/∃ o,H a=some (.frz o u)
theorem Rd.ok {P:Program} {w:World} {H:Hp} {h:Heap} {a:Addr} {u:HO} (r:Rd H a u) (x:HOk P w H h):c_v P w H h a u:=by
 rcases r with r | ⟨o,r⟩
 ·exact x a u r
 ·obtain ⟨_,q⟩:=x a _ r;exact q
noncomputable def Mut:Option HO->Prop
 | some (.lst _)=>True
 | some (.dK _)=>True
 | some (.dT _)=>True
 | some (.set _ _)=>True
 | some (.ins _ _ _)=>True
 | some (.ext _)=>True
 | _=>False
section
variable {P:Program} {w:World} {H:Hp} {h h':Heap} {x e:Addr} {o':HO}
theorem HOk.write (ok:HOk P w H h) (mu:Mut (H x)) (he:e=x\/H e=some (.own x)) (k:∀ b u,b≠e->h.get? b=some u->h'.get? b=some u) (heo:∃ u,h'.get? e=some u)
  (new:c_v P w (upd H x o') h' x o'):HOk P w (upd H x o') h':=λ b u q=>by
 have nown:∀ c y,H c=some (.own y)->c≠x:=λ c y r z=>by subst z; rw [r] at mu; exact mu
 have ntup:∀ c xs,H c=some (.tup xs)->c≠x:=λ c xs r z=>by subst z; rw [r] at mu; exact mu
 by_cases hb:b=x
 ·subst hb; rw [a_G] at q; cases q; exact new
 ·rw [a_H hb] at q
  by_cases hbe:b=e
  ·have q':H b=some (.own x):=by
    rcases he with z | z
    ·exact yJ (hbe.trans z) hb
    ·rw [hbe]; exact z
   rw [q] at q'; cases q';obtain ⟨v,hv⟩:=heo;exact ⟨v,by rw [hbe]; exact hv⟩
  ·refine (ok b u q).stay (λ c v hc r=>k c v ?_ r) (λ c r=>by rw [a_H (nown c b r)]; exact r) λ c xs r=>by rw [a_H (ntup c xs r)]; exact r
   rcases hc with rfl | hc
   ·exact hbe
   ·rintro rfl;rcases he with z | z
    ·exact nown c b hc z
    ·rw [hc] at z; cases z; exact hb rfl
end
structure Un (fs ex:List Addr) (H H':Hp) (h h':Heap):Prop where
 keep:∀ b o,h.get? b=some o->H b=none->b ∉ fs->b ∉ ex->h'.get? b=some o
 slot:∀ b o,h.get? b=some o->H b=none->b∈fs->b ∉ ex->∃ sl,h'.get? b=some { o with slots:=sl }
 free:∀ b o,h.get? b=some o->H b=none->b ∉ ex->H' b=none
 there:∀ b o,h.get? b=some o->b ∉ ex->∃ o',h'.get? b=some o'
 tups:∀ b xs,H b=some (.tup xs)->H' b=some (.tup xs)
 frzs:∀ b o u,H b=some (.frz o u)->H' b=some (.frz o u)
 tbls:∀ b ps,H b=some (.tbl ps)->∃ more,H' b=some (.tbl (ps++more))
section
variable {fs fs' ex ex':List Addr} {H H1 H2:Hp} {h h1 h2 h':Heap} {a x e:Addr} {o:HO}
theorem Un.any (u:Un fs ex H H1 h h1) {b:Addr} {ob:Obj} (q:h.get? b=some ob) (n:H b=none) (hx:b ∉ ex):∃ sl,h1.get? b=some { ob with slots:=sl }:=by
 by_cases hb:b∈fs
 ·exact u.slot b ob q n hb hx
 ·exact ⟨ob.slots,u.keep b ob q n hb hx⟩
theorem Un.trans (a:Un fs ex H H1 h h1) (b:Un fs ex H1 H2 h1 h2):Un fs ex H H2 h h2 where
 keep:=λ c ob q n hc hx=>b.keep c ob (a.keep c ob q n hc hx) (a.free c ob q n hx) hc hx
 slot:=λ c ob q n hc hx=>by
  obtain ⟨sl,e1⟩:=a.slot c ob q n hc hx;obtain ⟨sl',e2⟩:=b.slot c _ e1 (a.free c ob q n hx) hc hx;exact ⟨sl',e2⟩
 free:=λ c ob q n hx=>by
  obtain ⟨o',e1⟩:=a.there c ob q hx;exact b.free c o' e1 (a.free c ob q n hx) hx
 there:=λ c ob q hx=>by
  obtain ⟨o',e1⟩:=a.there c ob q hx;exact b.there c o' e1 hx
 tups:=λ c xs q=>b.tups c xs (a.tups c xs q)
 frzs:=λ c ob xs q=>b.frzs c ob xs (a.frzs c ob xs q)
 tbls:=λ c ps q=>by
  obtain ⟨m1,e1⟩:=a.tbls c ps q;obtain ⟨m2,e2⟩:=b.tbls c _ e1;exact ⟨m1++m2,by rw [e2,Array.append_assoc]⟩
theorem Un.kept (k:∀ b u,h.get? b=some u->h'.get? b=some u):Un fs ex H H h h' :=
 ⟨λ b ob q _ _ _=>k b ob q,λ b ob q _ _ _=>⟨ob.slots,k b ob q⟩,λ _ _ _ n _=>n,λ b ob q _=>⟨ob,k b ob q⟩,λ _ _ q=>q,λ _ _ _ q=>q,λ _ ps q=>⟨#[],by rw [q]; simp⟩⟩
theorem Un.refl:Un fs ex H H h h:=Un.kept λ _ _ q=>q
theorem Un.laid (k:∀ b u,h.get? b=some u->h'.get? b=some u) (hp:h.objs.size<=a) (hn:H a=none):Un fs ex H (upd H a o) h h' where
 keep:=λ b u q _ _ _=>k b u q
 slot:=λ b u q _ _ _=>⟨u.slots,k b u q⟩
 free:=λ b u q n _=>by rw [a_H (Nat.ne_of_lt (zI (zE q) hp))]; exact n
 there:=λ b u q _=>⟨u,k b u q⟩
 tups:=λ b xs q=>by rw [a_H (a_J q hn)]; exact q
 frzs:=λ b u xs q=>by rw [a_H (a_J q hn)]; exact q
 tbls:=λ b ps q=>⟨#[],by rw [a_H (a_J q hn),q]; simp⟩
theorem Un.write (mu:Mut (H x)) (he:e=x\/H e=some (.own x)) (k:∀ b u,b≠e->h.get? b=some u->h'.get? b=some u) (heo:∃ u,h'.get? e=some u):Un fs ex H (upd H x o) h h':=by
 have hx:∀ b,H b=none->b≠x:=λ b n z=>by subst z; rw [n] at mu; exact mu
 have hb:∀ b,H b=none->b≠e:=λ b n z=>by
  subst z;rcases he with r | r
  ·exact hx b n r
  ·rw [n] at r; cases r
 have hm:∀ b u,H b=some u->¬ Mut (some u)->b≠x:=λ b u q nm z=>by subst z; rw [q] at mu; exact nm mu
 refine ⟨λ b u q n _ _=>k b u (hb b n) q,λ b u q n _ _=>⟨u.slots,k b u (hb b n) q⟩,λ b u q n _=>by rw [a_H (hx b n)]; exact n,λ b u q _=>?_,
  λ b xs q=>by rw [a_H (hm b _ q λ z=>z)]; exact q,λ b u xs q=>by rw [a_H (hm b _ q λ z=>z)]; exact q,λ b ps q=>⟨#[],by rw [a_H (hm b _ q λ z=>z),q]; simp⟩⟩
 by_cases hbe:b=e
 ·subst hbe; exact heo
 ·exact ⟨u,k b u hbe q⟩
end
noncomputable def trk (h:Heap) (H:Hp):List Addr:=(List.range h.objs.size).filter λ a=>(H a).isSome
noncomputable def hidT (h:Heap) (H:Hp):Heap:=PySem.W.hideAll h (trk h H)
theorem i_m (h:Heap) (H:Hp):(hidT h H).objs.size=h.objs.size:=PySem.W.hideAll_size _ _
theorem j_D {h:Heap} {H:Hp} {b:Addr} {o:Obj} (e:h.get? b=some o) (n:H b=none):(hidT h H).get? b=some o :=
 PySem.W.hideAll_get _ e λ hm=>by
  have q:(H b).isSome=true:=(List.mem_filter.mp hm).2;rw [n] at q; simp at q
theorem l_j {h:Heap} {H:Hp} {b:Addr} {o:Obj} (e:(hidT h H).get? b=some o):h.get? b=some o/\H b=none:=by
 have e':h.get? b=some o:=PySem.W.of_hideAll (trk h H) e;refine ⟨e',?_⟩;cases q:H b with
 | none=>rfl
 | some x =>
  have hm:b∈trk h H:=List.mem_filter.mpr ⟨List.mem_range.mpr (zE e'),by simp [q]⟩;have z:(hidT h H).get? b=none:=PySem.W.hideAll_none (trk h H) hm;rw [z] at e; cases e
noncomputable def p_I (g h:Heap) (L:Addr):List (Addr × Obj):=(List.range h.objs.size).filterMap λ a=>if a=L\/(g.get? a).isSome=true then none else (h.get? a).map λ o=>(a,o)
noncomputable def rest (g h:Heap) (L d:Addr):List (Addr × Obj):=(p_I g h L).filter λ p=>decide (p.1≠d)
structure Mod (K:Frag) (mg:Str->Option Value) (base:Heap):Prop where
 kin:K.In base
 glob:base.Ns mainGlobals mg
 blt:∃ mb,base.Ns builtinsNs mb/\∀ x:Str,x ≠ "__name__" -> mb x=bootBuiltins x
 nolimit:base.NoLimit
structure Cx where
 prog:Program
 w:World
 K:Frag
 mg:Str->Option Value
 base:Heap
 A:Around
 N:List Str
 s₀:Shared
 H₀:Hp
 env:Env
 outer:List Env
 stack:List Env
 ex:List Addr
 fn:Str->Bool
 calm:Bool
 pn:List (Addr × Obj)
 xe:Value->Shared->Prop
noncomputable def frs (l:List Env):List Addr:=l.filterMap (·.frame)
noncomputable abbrev Cx.fs (X:Cx):List Addr:=frs X.outer
noncomputable def Vis (sc:Scope) (x:Str):Prop:=sc.names.lookup x=some .local\/sc.names.lookup x=some .cell\/sc.names.lookup x=some .free
noncomputable def Loc (sc:Scope) (x:Str):Prop:=sc.names.lookup x=some .local\/sc.names.lookup x=some .cell
noncomputable def Look (env:Env) (h:Heap) (m:Str->Option Value) (x:Str) (u:Value):Prop :=
 (env.kindOf x=some .local/\m x=some u)\/((env.kindOf x=some .cell\/env.kindOf x=some .free)/\∃ c,env.cells.lookup x=some c/\h.IsCell c (some u))
structure Cx.Ok (X:Cx):Prop where
 mod:Mod X.K X.mg X.base
 kind:X.env.scope.kind=.function
 glob:X.env.globals=mainGlobals
 blt:X.env.builtins=builtinsNs
 above:X.s₀.heap.objs.size<=X.env.locals
 inj:∀ x y c,X.env.cells.lookup x=some c->X.env.cells.lookup y=some c->x=y
 has:∀ x,(X.env.kindOf x=some .cell\/X.env.kindOf x=some .free)->∃ c,X.env.cells.lookup x=some c
 cab:∀ x c,X.fn x=true->X.env.cells.lookup x=some c->X.s₀.heap.objs.size<=c
 hd:X.calm=true->X.A.handled=none
 frames:X.A.frames=some X.stack
 stk:X.stack=X.outer\/(X.stack=X.env :: X.outer/\X.env.frame=some X.env.locals)
 exf:∀ b∈X.ex,b≠X.env.locals/\∀ x c,X.env.cells.lookup x=some c->c≠b
 bs:∀ b o,X.base.get? b=some o->X.s₀.heap.get? b=some o/\X.H₀ b=none
 bsz:X.base.objs.size<=X.s₀.heap.objs.size
 noex:∀ b o,X.base.get? b=some o->b ∉ X.ex
 exfs:∀ b∈X.ex,b ∉ X.fs
 funs:X.s₀.heap.FunFrames X.base X.outer
 frf:∀ b∈X.fs,X.H₀ b=none
structure Inv (X:Cx) (pins:List (Addr × Obj)) (σ:List (Option V)) (H:Hp) (s:Shared):Prop where
 ok:X.Ok
 os:s.os=X.s₀.os
 bare:AllBare s.gens
 base:Un X.fs X.ex X.H₀ H X.s₀.heap s.heap
 loc:∃ m,s.heap.Ns X.env.locals m/\∀ (i:Nat) (x:Str) (v:V),X.N[i]?=some x->σ[i]?=some (some v)->Vis X.env.scope x->∃ u,RelV v u/\Look X.env s.heap m x u
 cell:∀ x c,X.env.cells.lookup x=some c->∃ v,s.heap.IsCell c v
 free:H X.env.locals=none
 freeC:∀ x c,X.env.cells.lookup x=some c->H c=none
 pin:∀ p∈X.pn++pins,s.heap.get? p.1=some p.2/\H p.1=none/\p.1≠X.env.locals/\p.1 ∉ X.fs/\∀ v,p.2.data≠.cell v
 hok:HOk X.prog X.w H s.heap
 len:σ.length=X.N.length
section
variable {X:Cx} {pins:List (Addr × Obj)} {σ:List (Option V)} {H H':Hp} {s:Shared} {h':Heap}
theorem Cx.Ok.nofr (ok:X.Ok) {b:Addr} {o:Obj} (e:X.base.get? b=some o):b ∉ X.fs:=λ hb=>by
 have:=(ok.funs.mem hb).1;rw [e] at this; cases this
theorem Inv.bs (I:Inv X pins σ H s):∀ b o,X.base.get? b=some o->s.heap.get? b=some o/\H b=none:=λ b o e =>
 ⟨I.base.keep b o (I.ok.bs b o e).1 (I.ok.bs b o e).2 (I.ok.nofr e) (I.ok.noex b o e),I.base.free b o (I.ok.bs b o e).1 (I.ok.bs b o e).2 (I.ok.noex b o e)⟩
theorem Inv.bk (I:Inv X pins σ H s):∀ b o,X.base.get? b=some o->s.heap.get? b=some o:=λ b o e=>(I.bs b o e).1
theorem Inv.mod (I:Inv X pins σ H s):Mod X.K X.mg X.base:=I.ok.mod
theorem Inv.kIn (I:Inv X pins σ H s):X.K.In s.heap:=I.ok.mod.kin.keeps I.bk
theorem Inv.nolimit (I:Inv X pins σ H s):s.heap.NoLimit:=I.ok.mod.nolimit.keeps I.bk
theorem Inv.lt (I:Inv X pins σ H s):X.env.locals < s.heap.objs.size:=let ⟨_,hn,_⟩:=I.loc; hn.lt
theorem Inv.sz (I:Inv X pins σ H s):X.s₀.heap.objs.size<=s.heap.objs.size:=zS I.ok.above (Nat.le_of_lt I.lt)
theorem Inv.nofs (I:Inv X pins σ H s) {a:Addr} (h:s.heap.objs.size<=a):a ∉ X.fs:=λ hb=>by
 obtain ⟨_,o,ho,_⟩:=I.ok.funs.mem hb;exact yJ (zI (zE ho) (zS I.sz h)) (Nat.lt_irrefl _)
theorem Inv.cne (I:Inv X pins σ H s):∀ x c,X.env.cells.lookup x=some c->c≠X.env.locals:=λ x c e z=>by
 obtain ⟨v,o,ho,hd⟩:=I.cell x c e;obtain ⟨m,⟨o',es,ep,ho',hd',_⟩,_⟩:=I.loc;rw [z,ho'] at ho; cases ho; rw [hd'] at hd; cases hd
theorem Inv.funs (I:Inv X pins σ H s):s.heap.FunFrames X.base X.outer:=by
 have all:∀ (l:List Env),(∀ b∈frs l,b∈X.fs)->X.s₀.heap.FunFrames X.base l->s.heap.FunFrames X.base l:=by
  intro l
  induction l with
  | nil=>intro _ _; trivial
  | cons env r ih =>
   intro hs hl;obtain ⟨hk,⟨L,o,hf,hn,ho,hd⟩,hr⟩:=hl;have hL:L∈X.fs:=hs L (by unfold frs; rw [List.filterMap_cons,hf]; exact zU);obtain ⟨sl,e⟩:=I.base.slot L o ho (I.ok.frf L hL) hL λ z=>I.ok.exfs L z hL;exact ⟨hk,⟨L,_,hf,hn,e,hd⟩,ih (λ b hb=>hs b (by unfold frs; rw [List.filterMap_cons,hf]; exact zN _ hb)) hr⟩
 exact all X.outer (λ _ hb=>hb) I.ok.funs
theorem Inv.stack (I:Inv X pins σ H s):s.heap.FunFrames X.base X.stack:=by
 rcases I.ok.stk with e | ⟨e,hf⟩
 ·rw [e]; exact I.funs
 ·rw [e];obtain ⟨m,hn,_⟩:=I.loc;refine .cons (by rw [I.ok.kind]; decide) hf hn ?_ I.funs;exact Heap.get?_none_of_le (zS I.ok.bsz I.ok.above)
theorem Inv.stkSub (I:Inv X pins σ H s):∀ b∈frs X.stack,b∈X.env.locals :: X.fs:=λ b hb=>by
 rcases I.ok.stk with e | ⟨e,hf⟩
 ·rw [e] at hb; exact zN _ hb
 ·rw [e] at hb;unfold frs at hb;rw [List.filterMap_cons,hf] at hb;exact hb
theorem Inv.stkFree (I:Inv X pins σ H s):∀ b∈frs X.stack,H b=none:=λ b hb=>by
 rcases List.mem_cons.mp (I.stkSub b hb) with e | hb
 ·rw [e]; exact I.free
 ·obtain ⟨_,o,ho,_⟩:=I.ok.funs.mem hb;exact I.base.free b o ho (I.ok.frf b hb) λ z=>I.ok.exfs b z hb
theorem Inv.step {g':Array GenState} {t':Nat} {d':Drawn} {ch:List Addr} (I:Inv X pins σ H s)
  (hch:∀ b∈ch,(b∈X.ex\/X.s₀.heap.objs.size<=b)/\b≠X.env.locals/\(∀ x c,X.env.cells.lookup x=some c->c≠b)/\∀ p∈X.pn++pins,p.1≠b)
  (keep:∀ b o,b≠X.env.locals->b ∉ X.fs->b ∉ ch->s.heap.get? b=some o->H b=none->h'.get? b=some o)
  (slot:∀ b o,b≠X.env.locals->b∈X.fs->b ∉ ch->s.heap.get? b=some o->H b=none->∃ sl,h'.get? b=some { o with slots:=sl }) (free:∀ b o,b ∉ ch->s.heap.get? b=some o->H b=none->H' b=none)
  (there:∀ b o,b ∉ ch->s.heap.get? b=some o->∃ o',h'.get? b=some o')
  (tups:∀ b xs,H b=some (.tup xs)->H' b=some (.tup xs)) (frzs:∀ b o u,H b=some (.frz o u)->H' b=some (.frz o u)) (tbls:∀ b ps,H b=some (.tbl ps)->∃ more,H' b=some (.tbl (ps++more)))
  (ns:∀ m,s.heap.Ns X.env.locals m->h'.Ns X.env.locals m) (hok:HOk X.prog X.w H' h') (hg:AllBare g') :
  Inv X pins σ H' { s with heap:=h',gens:=g',drawn:=d',toks:=t' }:=by
 have neL:∀ b o,X.s₀.heap.get? b=some o->b≠X.env.locals:=λ b o e=>Nat.ne_of_lt (zI (zE e) I.ok.above);have neC:∀ b o,X.s₀.heap.get? b=some o->b ∉ X.ex->b ∉ ch:=λ b o e hx hb=>by
  rcases (hch b hb).1 with z | z
  ·exact hx z
  ·exact yJ (zI (zE e) z) (Nat.lt_irrefl _)
 have cellK:∀ x c,X.env.cells.lookup x=some c->∀ v,s.heap.IsCell c v->h'.IsCell c v:=λ x c e v ⟨o,ho,hd⟩=>by
  have nch:c ∉ ch:=λ z=>(hch c z).2.2.1 x c e rfl
  by_cases hc:c∈X.fs
  ·obtain ⟨sl,q⟩:=slot c o (I.cne x c e) hc nch ho (I.freeC x c e);exact ⟨_,q,hd⟩
  ·exact ⟨o,keep c o (I.cne x c e) hc nch ho (I.freeC x c e),hd⟩
 refine ⟨I.ok,I.os,hg,⟨λ b o e n hb hx=>?_,λ b o e n hb hx=>?_,λ b o e n hx=>?_,λ b o e hx=>?_,λ b xs e=>tups b xs (I.base.tups b xs e),λ b o xs e=>frzs b o xs (I.base.frzs b o xs e),λ b ps e=>?_⟩,?_,λ x c e=>?_,?_,λ x c e=>?_,λ p hp=>?_,hok,I.len⟩
 ·exact keep b o (neL b o e) hb (neC b o e hx) (I.base.keep b o e n hb hx) (I.base.free b o e n hx)
 ·obtain ⟨sl,e1⟩:=I.base.slot b o e n hb hx;obtain ⟨sl',e2⟩:=slot b _ (neL b o e) hb (neC b o e hx) e1 (I.base.free b o e n hx);exact ⟨sl',e2⟩
 ·obtain ⟨o',e1⟩:=I.base.there b o e hx;exact free b o' (neC b o e hx) e1 (I.base.free b o e n hx)
 ·obtain ⟨o',e1⟩:=I.base.there b o e hx;exact there b o' (neC b o e hx) e1
 ·obtain ⟨m1,e1⟩:=I.base.tbls b ps e;obtain ⟨m2,e2⟩:=tbls b _ e1;exact ⟨m1++m2,by rw [e2,Array.append_assoc]⟩
 ·obtain ⟨m,hn,hl⟩:=I.loc;refine ⟨m,ns m hn,λ i x v e1 e2 e3=>?_⟩;obtain ⟨u,r,l⟩:=hl i x v e1 e2 e3;refine ⟨u,r,?_⟩;rcases l with l | ⟨k,c,e,z⟩
  ·exact .inl l
  ·exact .inr ⟨k,c,e,cellK x c e _ z⟩
 ·obtain ⟨v,z⟩:=I.cell x c e;exact ⟨v,cellK x c e v z⟩
 ·obtain ⟨m,⟨o,_,_,ho,_⟩,_⟩:=I.loc;exact free _ o (λ z=>(hch _ z).2.1 rfl) ho I.free
 ·obtain ⟨v,o,ho,hd⟩:=I.cell x c e;exact free c o (λ z=>(hch c z).2.2.1 x c e rfl) ho (I.freeC x c e)
 ·obtain ⟨e,n,ne,nf,d⟩:=I.pin p hp;have nch:p.1 ∉ ch:=λ z=>(hch p.1 z).2.2.2 p hp rfl;exact ⟨keep p.1 p.2 ne nf nch e n,free p.1 p.2 nch e n,ne,nf,d⟩
theorem Inv.un {t':Nat} (I:Inv X pins σ H s) (u:Un X.fs [] H H' s.heap h') (hok:HOk X.prog X.w H' h'):Inv X pins σ H' { s with heap:=h',toks:=t' }:=by
 obtain ⟨m,⟨o,es,ep,ho,r⟩,_⟩:=id I.loc;obtain ⟨sl,hL⟩:=u.any ho I.free (by simp);exact I.step (g':=s.gens) (d':=s.drawn) (ch:=[]) (λ _ z=>nomatch z) (λ b o _ hb _ e n=>u.keep b o e n hb (by simp)) (λ b o _ hb _ e n=>u.slot b o e n hb (by simp)) (λ b o _ e n=>u.free b o e n (by simp)) (λ b o _ e=>u.there b o e (by simp)) u.tups u.frzs u.tbls (λ m' hm=>by
  obtain ⟨o',es',ep',ho',r'⟩:=hm;rw [ho] at ho'; cases ho';exact ⟨_,es',ep',hL,r'⟩) hok I.bare
theorem Inv.call {g':Array GenState} {t':Nat} {d':Drawn} {ch:List Addr} (I:Inv X pins σ H s) (u:Un (frs X.stack) ch H H' s.heap h') (hok:HOk X.prog X.w H' h') (hg:AllBare g')
  (hch:∀ b∈ch,(b∈X.ex\/X.s₀.heap.objs.size<=b)/\b≠X.env.locals/\(∀ x c,X.env.cells.lookup x=some c->c≠b)/\∀ p∈X.pn++pins,p.1≠b) :
  Inv X pins σ H' { s with heap:=h',gens:=g',drawn:=d',toks:=t' }:=by
 obtain ⟨m,⟨o,es,ep,ho,r⟩,_⟩:=id I.loc;obtain ⟨sl,hL⟩:=u.any ho I.free λ z=>(hch _ z).2.1 rfl;exact I.step (ch:=ch) hch (λ b o hL hb hc e n=>u.keep b o e n (λ z=>(List.mem_cons.mp (I.stkSub b z)).elim hL hb) hc) (λ b o _ _ hc e n=>u.any e n hc) (λ b o hc e n=>u.free b o e n hc) (λ b o hc e=>u.there b o e hc) u.tups u.frzs u.tbls (λ m' hm=>by
  obtain ⟨o',es',ep',ho',r'⟩:=hm;rw [ho] at ho'; cases ho';exact ⟨_,es',ep',hL,r'⟩) hok hg
theorem Inv.turned {t':Nat} {it:Addr} (I:Inv X pins σ H s) (k:∀ b o,b≠it->s.heap.get? b=some o->h'.get? b=some o) (hn:H it=none) (hL:it≠X.env.locals)
  (h1:it∈X.ex\/X.s₀.heap.objs.size<=it) (h2:∀ x c,X.env.cells.lookup x=some c->c≠it) (h3:∀ p∈X.pn++pins,p.1≠it):Inv X pins σ H { s with heap:=h',toks:=t' }:=by
 have nit:∀ b u,H b=some u->b≠it:=λ b u e z=>by rw [z,hn] at e; cases e
 refine I.step (g':=s.gens) (d':=s.drawn) (ch:=[it]) (λ b hb=>?_) (λ b o _ _ hc e _=>k b o (λ z=>hc (by simp [z])) e) (λ b o _ _ hc e _=>⟨o.slots,k b o (λ z=>hc (by simp [z])) e⟩) (λ _ _ _ _ n=>n)
  (λ b o hc e=>⟨o,k b o (λ z=>hc (by simp [z])) e⟩) (λ _ _ e=>e) (λ _ _ _ e=>e) (λ b ps e=>⟨#[],by rw [e]; simp⟩) (λ m hm=>?_) (λ b u e=>?_) I.bare
 ·have e:b=it:=by simpa using hb
  subst e;exact ⟨h1,hL,h2,h3⟩
 ·obtain ⟨o,es,ep,ho,r⟩:=hm;exact ⟨o,es,ep,k _ o (Ne.symm hL) ho,r⟩
 ·refine (I.hok b u e).stay (λ c v hc q=>k c v ?_ q) (λ _ q=>q) λ _ _ q=>q;rcases hc with z | z
  ·rw [z]; exact nit b u e
  ·exact nit c _ z
theorem Inv.tok (I:Inv X pins σ H s) (t:Nat):Inv X pins σ H { s with toks:=t }:=I.un (h':=s.heap) (t':=t) Un.refl I.hok
theorem Inv.kept {t':Nat} (I:Inv X pins σ H s) (k:∀ b u,s.heap.get? b=some u->h'.get? b=some u):Inv X pins σ H { s with heap:=h',toks:=t' }:=I.un (Un.kept k) (I.hok.kept k)
theorem Inv.laid {a:Addr} {o:HO} {t':Nat} (I:Inv X pins σ H s) (k:∀ b u,s.heap.get? b=some u->h'.get? b=some u) (hp:s.heap.objs.size<=a) (new:c_v X.prog X.w (upd H a o) h' a o) :
  Inv X pins σ (upd H a o) { s with heap:=h',toks:=t' }:=I.un (Un.laid k hp (I.hok.fresh hp)) (I.hok.laid k hp new)
theorem Inv.write {x e:Addr} {o:HO} {t':Nat} (I:Inv X pins σ H s) (mu:Mut (H x)) (he:e=x\/H e=some (.own x)) (k:∀ b u,b≠e->s.heap.get? b=some u->h'.get? b=some u) (heo:∃ u,h'.get? e=some u)
  (new:c_v X.prog X.w (upd H x o) h' x o):Inv X pins σ (upd H x o) { s with heap:=h',toks:=t' }:=I.un (Un.write mu he k heo) (I.hok.write mu he k heo new)
theorem Inv.pins_of {pins':List (Addr × Obj)} (I:Inv X pins σ H s) (h:∀ p∈pins',s.heap.get? p.1=some p.2/\H p.1=none/\p.1≠X.env.locals/\p.1 ∉ X.fs/\∀ v,p.2.data≠.cell v):Inv X pins' σ H s :=
 ⟨I.ok,I.os,I.bare,I.base,I.loc,I.cell,I.free,I.freeC,λ p hp=>(List.mem_append.mp hp).elim (λ z=>I.pin p (List.mem_append_left _ z)) (h p),I.hok,I.len⟩
theorem j_E {N:List Str} (hN:N.Nodup) {i j:Nat} {x:Str} (a:N[i]?=some x) (b:N[j]?=some x):i=j:=by
 obtain ⟨h1,e1⟩:=List.getElem?_eq_some_iff.mp a;obtain ⟨h2,e2⟩:=List.getElem?_eq_some_iff.mp b;exact (List.getElem_inj hN).mp (e1.trans e2.symm)
theorem i_n {M:Model} {A:Around} {E:Value->Shared->Prop} {i:Nat} {x:Str} {v:V} {u:Value} {Q:Unit->Shared->Prop} (I:Inv X pins σ H s) (hN:X.N.Nodup) (hi:X.N[i]?=some x) (hx:Loc X.env.scope x) (r:RelV v u)
  (h:∀ s',Inv X pins (σ.set i (some v)) H s'->(∃ a,Heap.SameBut a s.heap s'.heap/\(a=X.env.locals\/X.env.cells.lookup x=some a))->Q () s') (hf:X.fn x=true\/X.env.scope.names.lookup x=some .local:=by first | exact .inl rfl | exact .inr rfl | assumption):wpAny M A (storeName X.env x u) Q E s:=by
 obtain ⟨m,hn,hl⟩:=id I.loc;have hcls:(X.env.scope.kind == .class || (X.env.scope.kind == .module && X.env.locals != X.env.globals))=false:=by rw [I.ok.kind]; rfl
 have hiσ:i < σ.length:=by rw [I.len]; exact (List.getElem?_eq_some_iff.mp hi).1
 have cne:=I.cne;have tracked:∀ {a:Addr} {h':Heap},(∃ o,s.heap.get? a=some o/\H a=none)->Heap.SameBut a s.heap h'->HOk X.prog X.w H h':=λ {a h'} ha hs b ob e=>by
  obtain ⟨_,_,hfree⟩:=ha;refine (I.hok b ob e).stay (λ c w' hc q=>(hs.2 c ?_).trans q) (λ _ q=>q) λ _ _ q=>q;rintro rfl;rcases hc with rfl | hc
  ·rw [hfree] at e; cases e
  ·rw [hfree] at hc; cases hc
 rcases hx with hk | hk
 ·refine wpAny_storeName_local hk hn (λ h' hn' hs=>?_) hcls;obtain ⟨oL,_,_,hoL,_⟩:=id hn;refine h _ ⟨I.ok,I.os,I.bare,⟨λ b o e n hb hx=>?_,λ b o e n hb hx=>?_,I.base.free,λ b o e hx=>?_,I.base.tups,I.base.frzs,I.base.tbls⟩,⟨_,hn',λ j y v' e1 e2 e3=>?_⟩,λ y c e=>?_,I.free,I.freeC,λ p hp=>?_,tracked ⟨oL,hoL,I.free⟩ hs,by simpa using I.len⟩ ⟨_,hs,.inl rfl⟩
  ·exact (hs.2 b (Nat.ne_of_lt (zI (zE e) I.ok.above))).trans (I.base.keep b o e n hb hx)
  ·obtain ⟨sl,e1⟩:=I.base.slot b o e n hb hx;exact ⟨sl,(hs.2 b (Nat.ne_of_lt (zI (zE e) I.ok.above))).trans e1⟩
  ·obtain ⟨o',e1⟩:=I.base.there b o e hx;exact ⟨o',(hs.2 b (Nat.ne_of_lt (zI (zE e) I.ok.above))).trans e1⟩
  ·by_cases hj:j=i
   ·subst hj;rw [hi] at e1; cases e1;rw [zP hiσ] at e2;cases e2;exact ⟨u,r,.inl ⟨hk,by simp⟩⟩
   ·rw [zQ (Ne.symm hj)] at e2;obtain ⟨u',r',q⟩:=hl j y v' e1 e2 e3;refine ⟨u',r',?_⟩;rcases q with ⟨k,e⟩ | ⟨k,c,e,z⟩
    ·refine .inl ⟨k,?_⟩;have:y≠x:=λ e=>hj (j_E hN e1 (e ▸ hi));simp [this,e]
    ·exact .inr ⟨k,c,e,z.sameBut hs (cne y c e)⟩
  ·obtain ⟨w',z⟩:=I.cell y c e;exact ⟨w',z.sameBut hs (cne y c e)⟩
  ·obtain ⟨e,n,ne,nf,d⟩:=I.pin p hp;exact ⟨(hs.2 p.1 ne).trans e,n,ne,nf,d⟩
 ·have hfn:X.fn x=true:=by
   rcases hf with z | z
   ·exact z
   ·rw [z] at hk; cases hk
  obtain ⟨c,hc⟩:=I.ok.has x (.inl hk);obtain ⟨w',z⟩:=I.cell x c hc;refine wpAny_storeName_cell I.ok.kind hk hc z (λ h' hc' hs=>?_);obtain ⟨oc,hoc,hocd⟩:=id z;refine h { s with heap:=h' } ⟨I.ok,I.os,I.bare,⟨λ b o e n hb hx=>?_,λ b o e n hb hx=>?_,I.base.free,λ b o e hx=>?_,I.base.tups,I.base.frzs,I.base.tbls⟩,⟨m,hn.sameBut hs (Ne.symm (cne x c hc)),λ j y v' e1 e2 e3=>?_⟩,λ y c' e=>?_,I.free,I.freeC,λ p hp=>?_,tracked ⟨oc,hoc,I.freeC x c hc⟩ hs,by simpa using I.len⟩ ⟨c,hs,.inr hc⟩
  ·exact (hs.2 b (Nat.ne_of_lt (zI (zE e) (I.ok.cab x c hfn hc)))).trans (I.base.keep b o e n hb hx)
  ·obtain ⟨sl,e1⟩:=I.base.slot b o e n hb hx;exact ⟨sl,(hs.2 b (Nat.ne_of_lt (zI (zE e) (I.ok.cab x c hfn hc)))).trans e1⟩
  ·obtain ⟨o',e1⟩:=I.base.there b o e hx;exact ⟨o',(hs.2 b (Nat.ne_of_lt (zI (zE e) (I.ok.cab x c hfn hc)))).trans e1⟩
  ·by_cases hj:j=i
   ·subst hj;rw [hi] at e1; cases e1;rw [zP hiσ] at e2;cases e2;exact ⟨u,r,.inr ⟨.inl hk,c,hc,hc'⟩⟩
   ·rw [zQ (Ne.symm hj)] at e2;obtain ⟨u',r',q⟩:=hl j y v' e1 e2 e3;refine ⟨u',r',?_⟩;rcases q with q | ⟨k,c',e,z'⟩
    ·exact .inl q
    ·refine .inr ⟨k,c',e,z'.sameBut hs ?_⟩;rintro rfl;exact hj (j_E hN e1 (I.ok.inj _ _ _ e hc ▸ hi))
  ·by_cases hcc:c'=c
   ·subst hcc; exact ⟨_,hc'⟩
   ·obtain ⟨w2,z2⟩:=I.cell y c' e;exact ⟨w2,z2.sameBut hs hcc⟩
  ·obtain ⟨e,n,ne,nf,d⟩:=I.pin p hp;refine ⟨(hs.2 p.1 ?_).trans e,n,ne,nf,d⟩;intro q;rw [q,hoc] at e;have q':oc=p.2:=zT e;exact d w' (by rw [← q']; exact hocd)
theorem e_I {M:Model} {A:Around} {E:Value->Shared->Prop} {i:Nat} {x:Str} {v:V} {u:Value} {Q:Unit->Shared->Prop} (I:Inv X pins σ H s) (hN:X.N.Nodup) (hi:X.N[i]?=some x) (hx:Loc X.env.scope x) (r:RelV v u)
  (h:∀ s',Inv X pins (σ.set i (some v)) H s'->Q () s') (hf:X.fn x=true\/X.env.scope.names.lookup x=some .local:=by first | exact .inl rfl | exact .inr rfl | assumption):wpAny M A (storeName X.env x u) Q E s :=
 i_n I hN hi hx r (λ s' I' _=>h s' I') hf
theorem Inv.call' {s':Shared} {ch:List Addr} (I:Inv X pins σ H s) (ho:s'.os=s.os) (u:Un (frs X.stack) ch H H' s.heap s'.heap) (hok:HOk X.prog X.w H' s'.heap) (hg:AllBare s'.gens)
  (hch:∀ b∈ch,(b∈X.ex\/X.s₀.heap.objs.size<=b)/\b≠X.env.locals/\(∀ x c,X.env.cells.lookup x=some c->c≠b)/\∀ p∈X.pn++pins,p.1≠b):Inv X pins σ H' s':=by
 obtain ⟨h',g',d',t',o'⟩:=s';have e:o'=s.os:=ho;subst e;exact I.call (g':=g') (t':=t') (d':=d') u hok hg hch
end
noncomputable abbrev XK:=Value->Option Addr->Hp->Prop
noncomputable abbrev St:=List (Option V)
noncomputable abbrev VK:=V->Hp->Prop
noncomputable abbrev TE:=St->Hp->VK->Prop
noncomputable abbrev TT:=St->Hp->(Bool->Hp->Prop)->Prop
noncomputable abbrev TA:=St->Hp->(List V->Hp->Prop)->Prop
structure Ends where
 nx:St->Hp->Prop
 rt:VK
 bk:St->Hp->Prop:=λ _ _=>False
 ct:St->Hp->Prop:=λ _ _=>False
noncomputable abbrev TS:=Ends->St->Hp->Prop
noncomputable def EP (X:Cx) (pins:List (Addr × Obj)) (σ:St) (Q:VK) (u:Value) (s':Shared):Prop:=∃ v H',Inv X pins σ H' s'/\RelV v u/\Q v H'
noncomputable def TP (X:Cx) (pins:List (Addr × Obj)) (σ:St) (Q:Bool->Hp->Prop) (b:Bool) (s':Shared):Prop:=∃ H',Inv X pins σ H' s'/\Q b H'
noncomputable def AP (X:Cx) (pins:List (Addr × Obj)) (σ:St) (Q:List V->Hp->Prop) (us:List Value) (s':Shared):Prop:=∃ vs H',Inv X pins σ H' s'/\Vals vs us/\Q vs H'
noncomputable def SP (X:Cx) (pins:List (Addr × Obj)) (D:Ends) (f:Flow) (s':Shared):Prop :=
 match f with
 | .next=>∃ σ' H',Inv X pins σ' H' s'/\D.nx σ' H'
 | .brk=>∃ σ' H',Inv X pins σ' H' s'/\D.bk σ' H'
 | .cont=>∃ σ' H',Inv X pins σ' H' s'/\D.ct σ' H'
 | .ret u=>∃ v σ' H',Inv X pins σ' H' s'/\RelV v u/\D.rt v H'
noncomputable def PE (X:Cx) (e:Expr) (t:TE):Prop :=
 ∀ (pins:List (Addr × Obj)) (s:Shared) (σ:St) (H:Hp) (Q:VK),Inv X pins σ H s->t σ H Q->wpAny (model X.prog X.w) X.A (eval e X.env) (EP X pins σ Q) X.xe s
noncomputable def PT (X:Cx) (e:Expr) (t:TT):Prop :=
 ∀ (pins:List (Addr × Obj)) (s:Shared) (σ:St) (H:Hp) (Q:Bool->Hp->Prop),Inv X pins σ H s->t σ H Q->wpAny (model X.prog X.w) X.A (isTrue e X.env (eval e X.env)) (TP X pins σ Q) X.xe s
noncomputable def PW (X:Cx) (e:Expr) (t:TT):Prop :=
 ∀ (whole:Sem Value) (pins:List (Addr × Obj)) (s:Shared) (σ:St) (H:Hp) (Q:Bool->Hp->Prop),Inv X pins σ H s->t σ H Q->wpAny (model X.prog X.w) X.A (isTrue e X.env whole) (TP X pins σ Q) X.xe s
theorem PW.pt {X:Cx} {e:Expr} {t:TT} (h:PW X e t):PT X e t:=h _
noncomputable def PA (X:Cx) (es:List Expr) (t:TA):Prop :=
 ∀ (pos:Pos) (pins:List (Addr × Obj)) (s:Shared) (σ:St) (H:Hp) (Q:List V->Hp->Prop),Inv X pins σ H s->t σ H Q->wpAny (model X.prog X.w) X.A (spliced (backTo pos (starEach es X.env))) (AP X pins σ Q) X.xe s
noncomputable def PS (X:Cx) (st:Stmt) (t:TS):Prop :=
 ∀ (pins:List (Addr × Obj)) (s:Shared) (σ:St) (H:Hp) (D:Ends),Inv X pins σ H s->t D σ H->wpAny (model X.prog X.w) X.A (exec st X.env) (SP X pins D) X.xe s
noncomputable def PSs (X:Cx) (st:List Stmt) (t:TS):Prop :=
 ∀ (pins:List (Addr × Obj)) (s:Shared) (σ:St) (H:Hp) (D:Ends),Inv X pins σ H s->t D σ H->wpAny (model X.prog X.w) X.A (execs st X.env) (SP X pins D) X.xe s
theorem thn {α:Type} {t:Sem α} {Q Q':α->Shared->Prop} {M:Model} {A:Around} {E:Value->Shared->Prop} {s:Shared} (h:wpAny M A t Q E s) (hQ:∀ a s,Q a s->Q' a s):wpAny M A t Q' E s:=zC h hQ λ _ _ x=>x
section
variable {X:Cx}
noncomputable def tVar (i:Nat):TE:=λ σ H Q=>∃ v,σ[i]?=some (some v)/\Q v H
noncomputable def tC (v:V):TE:=λ _ H Q=>Q v H
theorem k_s {i:Nat} {x:Str} {pos:Pos} (hN:X.N[i]?=some x) (hv:Vis X.env.scope x) (hd:(x == ("__debug__" : Str))=false:=by decide) (hcd:(x == ("__classdict__" : Str))=false:=by decide):PE X (.Name x pos) (tVar i):=by
 intro pins s σ H Q I h;obtain ⟨v,e,h⟩:=h;obtain ⟨m,hn,hl⟩:=I.loc;obtain ⟨u,r,l⟩:=hl i x v hN e hv;have fin:EP X pins σ Q u s:=⟨v,H,I,r,h⟩;rcases l with ⟨hk,hm⟩ | ⟨hk,c,hc,hcell⟩
 ·exact wpAny_Name (wpAny_loadName_local I.ok.kind hk hn hm fin) hd
 ·rcases hk with hk | hk
  ·exact wpAny_Name (wpAny_loadName_cell I.ok.kind hk hc hcell fin) hd
  ·exact wpAny_Name (wpAny_loadName_free I.ok.kind hk hc hcell fin hcd) hd
theorem a_E {i j pos}:PE X (.Constant (.int i) j pos) (tC (.int i)):=λ _ _ _ H _ I h=>wpAny_Constant_int ⟨.int i,H,I.tok _,⟨_,rfl⟩,h⟩
theorem j_F {b j pos}:PE X (.Constant (.bool b) j pos) (tC (.bl b)):=λ _ _ _ H _ I h=>Constant_bool ⟨.bl b,H,I,rfl,h⟩
theorem f_P {j pos}:PE X (.Constant .none j pos) (tC .non):=λ _ _ _ H _ I h=>Constant_none ⟨.non,H,I,rfl,h⟩
theorem c_z {x j pos}:PE X (.Constant (.str x) j pos) (tC (.str x)):=λ _ _ _ H _ I h=>Calls.Constant_str ⟨.str x,H,I.tok _,⟨_,rfl⟩,h⟩
noncomputable def Gl (X:Cx) (x:Str):Prop:=X.env.kindOf x=some .globalImplicit
theorem g_P {E:Value->Shared->Prop} {pins:List (Addr × Obj)} {s:Shared} {σ:St} {H:Hp} {x:Str} {u:Value} {pos:Pos} {Q:Value->Shared->Prop} (I:Inv X pins σ H s) (hg:Gl X x) (hm:X.mg x=some u) (h:Q u s)
  (hd:(x == ("__debug__" : Str))=false:=by decide):wpAny (model X.prog X.w) X.A (eval (.Name x pos) X.env) Q E s :=
 Calls.Name_function_global I.ok.kind hg (Calls.loadGlobal_global (by rw [I.ok.glob]; exact I.mod.glob.keeps I.bk) hm h) hd
theorem e_e {E:Value->Shared->Prop} {pins:List (Addr × Obj)} {s:Shared} {σ:St} {H:Hp} {x:Str} {u:Value} {pos:Pos} {Q:Value->Shared->Prop} (I:Inv X pins σ H s) (hg:Gl X x) (hm:X.mg x=none) (hv:bootBuiltins x=some u) (h:Q u s)
  (hn:x ≠ "__name__" := by decide) (hd:(x == ("__debug__" : Str))=false:=by decide):wpAny (model X.prog X.w) X.A (eval (.Name x pos) X.env) Q E s:=by
 obtain ⟨mb,h1,h2⟩:=I.mod.blt;exact Calls.Name_function_global I.ok.kind hg (Calls.loadGlobal_builtin (by rw [I.ok.glob]; exact I.mod.glob.keeps I.bk) hm (by rw [I.ok.blt]; exact h1.keeps I.bk) ((h2 x hn).trans hv) h) hd
theorem p_J {x:Str} {v:V} {u:Value} {pos:Pos} (hg:Gl X x) (hm:X.mg x=some u) (r:RelV v u) (hd:(x == ("__debug__" : Str))=false:=by decide):PE X (.Name x pos) (tC v) :=
 λ _ _ _ H _ I h=>g_P I hg hm ⟨v,H,I,r,h⟩ hd
variable {a b:Expr} {ta tb:TE} {pos:Pos}
noncomputable def tB (t:TE):TT:=λ σ H Q=>t σ H λ x H1=>∃ c,x=.bl c/\Q c H1
theorem e_f {e:Expr} {t:TE} (h:PE X e t) (he:∀ whole,isTrue e X.env whole=(do let v ← whole; standAt e.pos; holding [v] (truthy v)):=by intro _; rfl):PT X e (tB t):=by
 intro pins s σ H Q I hw;refine isTrue_plain (thn (h pins s σ H _ I hw) λ v s1 ⟨x,H1,I1,r1,q1⟩=>?_) (he _);obtain ⟨d,rfl,q⟩:=q1;cases r1;exact wpAny_truthy_bool ⟨H1,I1,q⟩
variable {tA tB':TT} {rest:List Expr}
noncomputable def tAnd (t u:TT):TT:=λ σ H Q=>t σ H λ c H1=>if c=true then u σ H1 Q else Q false H1
noncomputable def tOr (t u:TT):TT:=λ σ H Q=>t σ H λ c H1=>if c=true then Q true H1 else u σ H1 Q
noncomputable def tNot (t:TT):TT:=λ σ H Q=>t σ H λ c H1=>Q (!c) H1
theorem l_k (ha:PT X a tA):PW X (.BoolOp .And [a] pos) tA:=by
 intro wh pins s σ H Q I h;refine isTrue_and (thn (ha pins s σ H Q I h) λ c s1 e=>?_);cases c with
 | true=>exact isTrue_and_nil e
 | false=>exact e
theorem g_n (ha:PT X a tA):PW X (.BoolOp .Or [a] pos) tA:=by
 intro wh pins s σ H Q I h;refine isTrue_or (thn (ha pins s σ H Q I h) λ c s1 e=>?_);cases c with
 | false=>exact isTrue_or_nil e
 | true=>exact e
theorem n_I (ha:PT X a tA) (hb:PW X (.BoolOp .And (b :: rest) pos) tB'):PW X (.BoolOp .And (a :: b :: rest) pos) (tAnd tA tB'):=by
 intro wh pins s σ H Q I h;refine isTrue_and (thn (ha pins s σ H _ I h) λ c s1 ⟨H1,I1,q1⟩=>?_);cases c with
 | true=>exact hb wh pins s1 σ H1 Q I1 q1
 | false=>exact ⟨H1,I1,q1⟩
theorem h_g (ha:PT X a tA) (hb:PW X (.BoolOp .Or (b :: rest) pos) tB'):PW X (.BoolOp .Or (a :: b :: rest) pos) (tOr tA tB'):=by
 intro wh pins s σ H Q I h;refine isTrue_or (thn (ha pins s σ H _ I h) λ c s1 ⟨H1,I1,q1⟩=>?_);cases c with
 | true=>exact ⟨H1,I1,q1⟩
 | false=>exact hb wh pins s1 σ H1 Q I1 q1
theorem k_t (ha:PT X a tA):PT X (.UnaryOp .Not a pos) (tNot tA):=by
 intro pins s σ H Q I h;exact isTrue_not (ha pins s σ H (λ c H1=>Q (!c) H1) I h)
noncomputable def r_f (ta tb:TE):TE:=λ σ H Q=>ta σ H λ x H1=>∃ c,x=.bl c/\if c=true then tb σ H1 Q else Q (.bl false) H1
noncomputable def tOrV (ta tb:TE):TE:=λ σ H Q=>ta σ H λ x H1=>∃ c,x=.bl c/\if c=true then Q (.bl true) H1 else tb σ H1 Q
noncomputable def r_g (ta:TE):TE:=λ σ H Q=>ta σ H λ x H1=>∃ c,x=.bl c/\Q (.bl (!c)) H1
theorem r_x {op} {t:TE} (h:PE X a t):PE X (.BoolOp op [a] pos) t:=λ pins s σ H Q I hw=>BoolOp_one (h pins s σ H Q I hw)
theorem r_y (ha:PE X a ta) (hb:PE X (.BoolOp .And (b :: rest) pos) tb):PE X (.BoolOp .And (a :: b :: rest) pos) (r_f ta tb):=by
 intro pins s σ H Q I h;refine BoolOp_and (thn (ha pins s σ H _ I h) λ v s1 ⟨x,H1,I1,r1,q1⟩=>?_);obtain ⟨c,rfl,q1⟩:=q1;cases r1;refine wpAny_truthy_bool ?_;cases c with
 | true=>exact hb pins s1 σ H1 Q I1 q1
 | false=>exact ⟨.bl false,H1,I1,rfl,q1⟩
theorem r_z (ha:PE X a ta):PE X (.UnaryOp .Not a pos) (r_g ta):=by
 intro pins s σ H Q I h;refine UnaryOp_ (thn (ha pins s σ H _ I h) λ v s1 ⟨x,H1,I1,r1,q1⟩=>?_);obtain ⟨c,rfl,q1⟩:=q1;cases r1;exact not_of (wpAny_truthy_bool ⟨.bl (!c),H1,I1,rfl,q1⟩)
noncomputable def tIf (t:TT) (ta tb:TE):TE:=λ σ H Q=>t σ H λ c H1=>if c=true then ta σ H1 Q else tb σ H1 Q
theorem d_Q {c:Expr} (hc:PT X c tA) (ha:PE X a ta) (hb:PE X b tb):PE X (.IfExp c a b pos) (tIf tA ta tb):=by
 intro pins s σ H Q I h;refine wpAny_IfExp (thn (hc pins s σ H _ I h) λ d s1 ⟨H1,I1,q1⟩=>?_);cases d with
 | true=>exact ha pins s1 σ H1 Q I1 q1
 | false=>exact hb pins s1 σ H1 Q I1 q1
end
noncomputable def SqL (K:Frag) (H:Hp) (a:Addr) (xs:List V):Prop :=
 Rd H a (.lst xs) \/
  ∃ (o:Obj) (its:Array Value) (n:Nat),K.lookup a=some o/\o.cls=.type "list" /\ o.dict=none/\o.data=.seq its n/\its.size<=sizeLine/\Vals xs its.toList
noncomputable def SqT (K:Frag) (H:Hp) (a:Addr) (xs:List V):Prop :=
 Rd H a (.tup xs) \/
  ∃ (o:Obj) (its:Array Value) (n:Nat),K.lookup a=some o/\o.cls=.type "tuple" /\ o.data=.seq its n/\its.size<=sizeLine/\Vals xs its.toList
noncomputable def absV:Value->Option V
 | .none=>some .non
 | .bool b=>some (.bl b)
 | .int i _=>some (.int i)
 | .str x _=>some (.str x)
 | .bytes b _=>some (.byt b)
 | .float b _=>some (.flt b)
 | .ref a=>some (.ref a)
 | .type n=>some (.ty n)
 | _=>none
theorem RelV.abs {x:V} {u:Value} (r:RelV x u):absV u=some x:=by
 cases x with
 | non=>cases r; rfl
 | bl _=>cases r; rfl
 | int _=>obtain ⟨t,rfl⟩:=r; rfl
 | str _=>obtain ⟨t,rfl⟩:=r; rfl
 | byt _=>obtain ⟨t,rfl⟩:=r; rfl
 | flt _=>obtain ⟨t,rfl⟩:=r; rfl
 | ref _=>cases r; rfl
 | ty _=>cases r; rfl
theorem RelV.inj {x y:V} {u:Value} (r:RelV x u) (q:RelV y u):x=y:=zT (r.abs.symm.trans q.abs)
theorem Vals.inj:∀ {xs ys:List V} {us:List Value},Vals xs us->Vals ys us->xs=ys
 | _,_,_,.nil,.nil=>rfl
 | _,_,_,.cons r t,.cons r' t'=>by rw [r.inj r',Vals.inj t t']
section
variable {X:Cx} {pins:List (Addr × Obj)} {σ:St} {H:Hp} {s:Shared} {a:Addr} {xs ys:List V}
theorem SqL.of {K:Frag} (h:H a=some (.lst xs)):SqL K H a xs:=.inl (.inl h)
theorem SqT.of {K:Frag} (h:H a=some (.tup xs)):SqT K H a xs:=.inl (.inl h)
theorem Inv.list (I:Inv X pins σ H s) (h:SqL X.K H a xs):∃ its:List Value,Vals xs its/\PlainL s.heap a its.toArray/\xs.length<=sizeLine:=by
 rcases h with h | ⟨o,its,n,hk,hc,hd,hs,hz,r⟩
 ·obtain ⟨z,its,n,r,e⟩:=h.ok I.hok;exact ⟨its,r,⟨_,n,e,rfl,rfl,rfl⟩,z⟩
 ·refine ⟨its.toList,r,⟨o,n,I.kIn a o hk,hc,hd,by simpa using hs⟩,?_⟩;have e:=r.length;simp only [Array.length_toList] at e;omega
theorem Inv.tuple (I:Inv X pins σ H s) (h:SqT X.K H a xs):∃ its:List Value,Vals xs its/\IsTup s.heap a its.toArray/\xs.length<=sizeLine:=by
 rcases h with h | ⟨o,its,n,hk,hc,hs,hz,r⟩
 ·obtain ⟨z,its,r,p⟩:=h.ok I.hok;exact ⟨its,r,p,z⟩
 ·refine ⟨its.toList,r,⟨o,I.kIn a o hk,hc,n,by simpa using hs⟩,?_⟩;have e:=r.length;simp only [Array.length_toList] at e;omega
theorem Inv.list_inj (I:Inv X pins σ H s) (h:SqL X.K H a xs) (h':SqL X.K H a ys):xs=ys:=by
 obtain ⟨its,r,⟨o,n,e,_,_,d⟩,_⟩:=I.list h;obtain ⟨its',r',⟨o',n',e',_,_,d'⟩,_⟩:=I.list h';rw [e] at e'; cases e';rw [d] at d';injection d' with d1 _;have:its=its':=by simpa using congrArg Array.toList d1
 subst this;exact r.inj r'
theorem Inv.tuple_inj (I:Inv X pins σ H s) (h:SqT X.K H a xs) (h':SqT X.K H a ys):xs=ys:=by
 obtain ⟨its,r,⟨o,e,_,n,d⟩,_⟩:=I.tuple h;obtain ⟨its',r',⟨o',e',_,n',d'⟩,_⟩:=I.tuple h';rw [e] at e'; cases e';rw [d] at d';injection d' with d1 _;have:its=its':=by simpa using congrArg Array.toList d1
 subst this;exact r.inj r'
end
noncomputable abbrev Cx.wish (X:Cx) (E:Value->Shared->Prop):Cx:={ X with xe:=E }
noncomputable abbrev Cx.nox (X:Cx):Cx:=X.wish λ _ _=>False
theorem Cx.Ok.wish {X:Cx} (ok:X.Ok) (E:Value->Shared->Prop):(X.wish E).Ok :=
 ⟨ok.mod,ok.kind,ok.glob,ok.blt,ok.above,ok.inj,ok.has,ok.cab,ok.hd,ok.frames,ok.stk,ok.exf,ok.bs,ok.bsz,ok.noex,ok.exfs,ok.funs,ok.frf⟩
theorem Cx.Ok.unwish {X:Cx} {E:Value->Shared->Prop} (ok:(X.wish E).Ok):X.Ok :=
 ⟨ok.mod,ok.kind,ok.glob,ok.blt,ok.above,ok.inj,ok.has,ok.cab,ok.hd,ok.frames,ok.stk,ok.exf,ok.bs,ok.bsz,ok.noex,ok.exfs,ok.funs,ok.frf⟩
section
variable {X:Cx} {pins:List (Addr × Obj)} {σ:St} {H:Hp} {s:Shared} {E:Value->Shared->Prop}
theorem Inv.wish (I:Inv X pins σ H s) (E:Value->Shared->Prop):Inv (X.wish E) pins σ H s:=⟨I.ok.wish E,I.os,I.bare,I.base,I.loc,I.cell,I.free,I.freeC,I.pin,I.hok,I.len⟩
theorem Inv.unwish (I:Inv (X.wish E) pins σ H s):Inv X pins σ H s:=⟨I.ok.unwish,I.os,I.bare,I.base,I.loc,I.cell,I.free,I.freeC,I.pin,I.hok,I.len⟩
theorem SP.unwish {D:Ends} {f:Flow} {s':Shared} (h:SP (X.wish E) pins D f s'):SP X pins D f s':=by
 cases f with
 | next=>obtain ⟨σ',H',I,q⟩:=h; exact ⟨σ',H',I.unwish,q⟩
 | brk=>obtain ⟨σ',H',I,q⟩:=h; exact ⟨σ',H',I.unwish,q⟩
 | cont=>obtain ⟨σ',H',I,q⟩:=h; exact ⟨σ',H',I.unwish,q⟩
 | ret u=>obtain ⟨v,σ',H',I,r,q⟩:=h; exact ⟨v,σ',H',I.unwish,r,q⟩
theorem PSs.nox {st:List Stmt} {t:TS} (h:PSs X.nox st t):PSs X st t:=λ pins s σ H D I hw =>
 zC (h pins s σ H D (I.wish _) hw) (λ _ _ q=>q.unwish) λ _ _ z=>False.elim z
end
section
variable {X:Cx} {st:Stmt} {rest:List Stmt} {t u:TS} {e:Expr} {te:TE} {pos:Pos}
noncomputable def r_h:TS:=λ D σ H=>D.nx σ H
noncomputable def tSeq (t u:TS):TS:=λ D σ H=>t { D with nx:=u D } σ H
theorem b_z:PSs X [] r_h:=λ _ _ σ H _ I h=>wpAny_execs_nil ⟨σ,H,I,h⟩
theorem a_C (h1:PS X st t) (h2:PSs X rest u):PSs X (st :: rest) (tSeq t u):=by
 intro pins s σ H D I h;refine wpAny_execs_cons (thn (h1 pins s σ H { D with nx:=u D } I h) λ f s1 q=>?_);cases f with
 | next =>
  obtain ⟨σ',H',I',q⟩:=q;exact h2 pins s1 σ' H' D I' q
 | ret v=>exact q
 | brk=>exact q
 | cont=>exact q
theorem a_F (h1:PS X st t):PSs X [st] t:=by
 intro pins s σ H D I h;refine wpAny_execs_cons (thn (h1 pins s σ H D I h) λ f s1 q=>?_);cases f with
 | next=>exact wpAny_execs_nil q
 | ret v=>exact q
 | brk=>exact q
 | cont=>exact q
theorem Inv.quiet {pins:List (Addr × Obj)} {σ:St} {H:Hp} {s:Shared} (I:Inv X pins σ H s):interactive X.env=false:=by simp [interactive,I.ok.kind]
noncomputable def i_o (te:TE):TS:=λ D σ H=>te σ H λ _ H1=>D.nx σ H1
theorem c_R (he:PE X e te) (hs:swapsWith e none pos.line X.env=pure false:=by rfl):PS X (.Expr e pos) (i_o te):=by
 intro pins s σ H D I h;exact wpAny_Expr_any (thn (he pins s σ H _ I h) λ v s1 ⟨x,H1,I1,r1,q1⟩=>⟨σ,H1,I1,q1⟩) I.quiet hs
noncomputable def tRet (te:TE):TS:=λ D σ H=>te σ H D.rt
theorem a_N (he:PE X e te):PS X (.Return (some e) pos) (tRet te):=by
 intro pins s σ H D I h;exact wpAny_Return_some (thn (he pins s σ H _ I h) λ v s1 ⟨x,H1,I1,r1,q1⟩=>⟨x,σ,H1,I1,r1,q1⟩)
noncomputable def tIfS (c:TT) (t u:TS):TS:=λ D σ H=>c σ H λ b H1=>if b=true then t D σ H1 else u D σ H1
theorem b_R {c:Expr} {a b:List Stmt} {tc:TT} (hc:PT X c tc) (ha:PSs X a t) (hb:PSs X b u):PS X (.If c a b pos) (tIfS tc t u):=by
 intro pins s σ H D I h;refine wpAny_If (thn (hc pins s σ H _ I h) λ d s1 ⟨H1,I1,q1⟩=>?_);cases d with
 | true=>exact ha pins s1 σ H1 D I1 q1
 | false=>exact hb pins s1 σ H1 D I1 q1
end
noncomputable abbrev TG:=V->St->Hp->(St->Hp->Prop)->Prop
noncomputable abbrev TGs:=List V->St->Hp->(St->Hp->Prop)->Prop
noncomputable def PG (X:Cx) (target:Expr) (t:TG):Prop :=
 ∀ (pins:List (Addr × Obj)) (s:Shared) (σ:St) (H:Hp) (v:V) (u:Value) (Q:St->Hp->Prop),Inv X pins σ H s->RelV v u->t v σ H Q ->
  wpAny (model X.prog X.w) X.A (assign target X.env u) (λ _ s'=>∃ σ' H',Inv X pins σ' H' s'/\Q σ' H') X.xe s
noncomputable def PGs (X:Cx) (ts:List Expr) (t:TGs):Prop :=
 ∀ (pins:List (Addr × Obj)) (s:Shared) (σ:St) (H:Hp) (vs:List V) (us:List Value) (Q:St->Hp->Prop),Inv X pins σ H s->Vals vs us->t vs σ H Q ->
  wpAny (model X.prog X.w) X.A (assignInOrder ((assignEach ts X.env).map (·.2)) us) (λ _ s'=>∃ σ' H',Inv X pins σ' H' s'/\Q σ' H') X.xe s
noncomputable abbrev TSet:=V->V->V->Hp->(Hp->Prop)->Prop
noncomputable def PSet (X:Cx) (t:TSet):Prop :=
 ∀ (pins:List (Addr × Obj)) (s:Shared) (σ:St) (H:Hp) (o i v:V) (ov iv u:Value) (Q:Hp->Prop),Inv X pins σ H s->RelV o ov->RelV i iv->RelV v u->t o i v H Q ->
  wpAny (model X.prog X.w) X.A (setItem ov iv u) (λ _ s'=>∃ H',Inv X pins σ H' s'/\Q H') X.xe s
noncomputable abbrev TIp:=V->V->Hp->VK->Prop
noncomputable def PIp (X:Cx) (op:Operator) (t:TIp):Prop :=
 ∀ (pins:List (Addr × Obj)) (s:Shared) (σ:St) (H:Hp) (x y:V) (v u:Value) (Q:VK),Inv X pins σ H s->RelV x v->RelV y u->t x y H Q ->
  wpAny (model X.prog X.w) X.A (inplaceOp op v u) (EP X pins σ Q) X.xe s
section
variable {X:Cx} {pos:Pos}
noncomputable def a_M (i:Nat):TG:=λ v σ H Q=>Q (σ.set i (some v)) H
theorem b_E {i:Nat} {x:Str} (hN:X.N.Nodup) (hi:X.N[i]?=some x) (hx:Loc X.env.scope x) (hf:X.fn x=true\/X.env.scope.names.lookup x=some .local:=by first | exact .inl rfl | exact .inr rfl | assumption):PG X (.Name x pos) (a_M i):=by
 intro pins s σ H v u Q I r h;exact wpAny_assign_Name (e_I I hN hi hx r (λ s' I'=>⟨_,H,I',h⟩) hf)
noncomputable def gNil:TGs:=λ vs σ H Q=>vs=[]/\Q σ H
noncomputable def c_e (t:TG) (u:TGs):TGs:=λ vs σ H Q=>∃ v r,vs=v :: r/\t v σ H λ σ' H'=>u r σ' H' Q
theorem c_x:PGs X [] gNil:=by
 intro pins s σ H vs us Q I r h;obtain ⟨e,h⟩:=h;subst e;cases r;exact assignInOrder_nil ⟨σ,H,I,h⟩
theorem a_Z {e:Expr} {es:List Expr} {t:TG} {u:TGs} (h1:PG X e t) (h2:PGs X es u)
  (hs:(assignEach (e :: es) X.env).map (·.2)=assign e X.env :: (assignEach es X.env).map (·.2):=by rfl):PGs X (e :: es) (c_e t u):=by
 intro pins s σ H vs us Q I r h;obtain ⟨v,vr,e1,h⟩:=h;subst e1;cases r with
 | cons r rr =>
  rw [hs];refine assignInOrder_cons (thn (h1 pins s σ H _ _ _ I r h) λ _ s1 ⟨σ1,H1,I1,q1⟩=>?_);exact h2 pins s1 σ1 H1 _ _ Q I1 rr q1
noncomputable def gTup (K:Frag) (n:Nat) (t:TGs):TG:=λ v σ H Q=>∃ a xs,v=.ref a/\SqT K H a xs/\xs.length=n/\t xs σ H Q
theorem c_L {es:List Expr} {k:Nat} {t:TGs} {n:Nat} (hc:X.calm=true) (h:PGs X es t)
  (hn:(assignEach es X.env).length=n:=by rfl) (hst:(assignEach es X.env).findIdx? (·.1)=none:=by rfl):PG X (.Tuple es k pos) (gTup X.K n t):=by
 intro pins s σ H v u Q I r hw;obtain ⟨a,xs,e1,hq,hl,hw⟩:=hw;subst e1;cases r;obtain ⟨its,rv,ht,hz⟩:=I.tuple hq;refine assign_Tuple_tuple (I.ok.hd hc) ht (by simp [hn,← hl,rv.length]) hst λ h' hx=>?_;have I1:Inv X pins σ H { s with heap:=h' }:=I.kept (t':=s.toks) λ b o e=>hx b o (Nat.ne_of_lt (zE e)) e;exact h pins _ σ H xs _ Q I1 (by simpa using rv) hw
noncomputable def gSub (to ti:TE) (t:TSet):TG:=λ v σ H Q=>to σ H λ o H1=>ti σ H1 λ i H2=>t o i v H2 λ H3=>Q σ H3
theorem e_J {o i:Expr} {to ti:TE} {t:TSet} (ho:PE X o to) (hi:PE X i ti) (hs:PSet X t)
  (ha:∀ v,assign (.Subscript o i pos) X.env v=(do
   let ov ← holding [v] (eval o X.env)
   let iv ← holding [v,ov] (eval i X.env)
   standAt pos
   holding [v,ov,iv] (setItem ov iv v)
   release [v,ov,iv] []):=by intro _; rfl):PG X (.Subscript o i pos) (gSub to ti t):=by
 intro pins s σ H v u Q I r h;rw [ha];refine zA (wpAny_holding (thn (ho pins s σ H _ I h) λ ov s1 ⟨x,H1,I1,r1,q1⟩=>?_));refine zA (wpAny_holding (thn (hi pins s1 σ H1 _ I1 q1) λ iv s2 ⟨y,H2,I2,r2,q2⟩=>?_));refine zA (wpAny_standAt (zA (wpAny_holding (thn (hs pins s2 σ H2 x y v ov iv u _ I2 r1 r2 r q2) λ _ s3 ⟨H3,I3,q3⟩=>?_))));exact wpAny_release ⟨σ,H3,I3,q3⟩
noncomputable def tAsg (te:TE) (g:TG):TS:=λ D σ H=>te σ H λ x H1=>g x σ H1 D.nx
theorem d_B {tg e:Expr} {te:TE} {g:TG} (he:PE X e te) (hg:PG X tg g) (hs:swapsWithSole [tg] e pos.line X.env=pure false:=by rfl) (hw:swappedStores [tg] e X.env=pure none:=by rfl)
  (h1:(assignEach [tg] X.env).map (·.2)=[assign tg X.env]:=by rfl):PS X (.Assign [tg] e pos) (tAsg te g):=by
 intro pins s σ H D I h;refine wpAny_Assign_stores (thn (he pins s σ H _ I h) λ v s1 ⟨x,H1,I1,r1,q1⟩=>?_) hs hw;rw [h1];exact thn (hg pins s1 σ H1 x v _ I1 r1 q1) λ _ s2 q=>q
theorem a_P {i:Nat} {x:Str} {e:Expr} {te:TE} {pos':Pos} (hN:X.N.Nodup) (hi:X.N[i]?=some x) (hx:Loc X.env.scope x) (he:PE X e te) (hs:swapsWith e (some (.Name x pos')) pos.line X.env=pure false:=by rfl) (hf:X.fn x=true\/X.env.scope.names.lookup x=some .local:=by first | exact .inl rfl | exact .inr rfl | assumption) :
  PS X (.Assign [.Name x pos'] e pos) (tAsg te (a_M i)):=by
 intro pins s σ H D I h;refine wpAny_Assign_Name (thn (he pins s σ H _ I h) λ v s1 ⟨y,H1,I1,r1,q1⟩=>?_) hs;exact e_I I1 hN hi hx r1 (λ s2 I2=>⟨_,H1,I2,q1⟩) hf
noncomputable def tPar (i j:Nat) (ta:TA):TS:=λ D σ H=>ta σ H λ vs H1=>∃ v w,vs=[v,w]/\D.nx ((σ.set i (some v)).set j (some w)) H1
theorem r_A {i j:Nat} {x y:Str} {a b:Expr} {ta:TA} {px py pt:Pos} {kt k2 pt2} (hc:X.calm=true) (hN:X.N.Nodup) (hi:X.N[i]?=some x) (hj:X.N[j]?=some y) (hij:i≠j)
  (hx:X.env.scope.names.lookup x=some .local) (hy:X.env.scope.names.lookup y=some .local) (ha:PA X [a,b] ta)
  (hw:swappedStores [.Tuple [.Name x px,.Name y py] kt pt] (.Tuple [a,b] k2 pt2) X.env=pure (some [x,y]))
  (hs:swapsWithSole [.Tuple [.Name x px,.Name y py] kt pt] (.Tuple [a,b] k2 pt2) pos.line X.env=pure false:=by rfl) :
  PS X (.Assign [.Tuple [.Name x px,.Name y py] kt pt] (.Tuple [a,b] k2 pt2) pos) (tPar i j ta):=by
 intro pins s σ H D I h;rw [exec_Assign_arm];refine zA (wpAny_standAt ?_);rw [hs];refine zA (zB ?_);rw [if_neg (by decide)];refine zA (Tuple_ (thn (ha _ pins s σ H _ I h) λ us s1 ⟨vs,H1,I1,r1,q1⟩=>?_));obtain ⟨v,w,e1,q1⟩:=q1;subst e1;obtain ⟨u1,u2,rfl,rv,rw'⟩:∃ u1 u2,us=[u1,u2]/\RelV v u1/\RelV w u2:=by
  cases r1 with
  | cons p q =>
   cases q with
   | cons p' q' =>
    cases q';exact ⟨_,_,rfl,p,p'⟩
 refine wpAny_newObj_type ?_ (by show 2<=sizeLine; decide);have I2:Inv X pins σ H1 { s1 with heap:=s1.heap.push { cls:=.type "tuple",data:=.seq [u1,u2].toArray } }:=I1.kept (t':=s1.toks) λ b o e=>zD _ e;rw [hw];refine zA (zB ?_);show wpAny (model X.prog X.w) X.A (do rule "assign.swapped-stores"; let items ← unpackItems (.ref s1.heap.objs.size) 2 none; assignInOrder [λ v=>bindName X.env y v,λ v=>bindName X.env x v] items.reverse; pure Flow.next) _ _ _;refine zA (wpAny_rule (zA (unpackItems_tuple (items:=#[u1,u2]) (I.ok.hd hc) (IsTup.new s1.heap _) λ h' hx'=>?_)));have I3:=I2.kept (h':=h') (t':=s1.toks) λ b o e=>hx' b o (Nat.ne_of_lt (zE e)) e;show wpAny _ _ (assignInOrder [λ v=>bindName X.env y v,λ v=>bindName X.env x v] [u2,u1] >>= λ _=>pure Flow.next) _ _ _;refine zA (assignInOrder_cons (wpAny_bindName (e_I I3 hN hj (.inl hy) rw' (λ s2 I4=>?_) (.inr hy))));refine assignInOrder_cons (wpAny_bindName (e_I I4 hN hi (.inl hx) rv (λ s3 I5=>assignInOrder_nil (zB ?_)) (.inr hx)));rw [List.set_comm _ _ (Ne.symm hij)] at I5;exact ⟨_,H1,I5,q1⟩
noncomputable def tAug (i:Nat) (te:TE) (ti:TIp):TS:=λ D σ H=>∃ x,σ[i]?=some (some x)/\te σ H λ y H1=>ti x y H1 λ z H2=>D.nx (σ.set i (some z)) H2
theorem n_J {i:Nat} {x:Str} {e:Expr} {te:TE} {op:Operator} {ti:TIp} {pos':Pos} (hN:X.N.Nodup) (hi:X.N[i]?=some x) (hx:Loc X.env.scope x) (he:PE X e te) (ho:PIp X op ti) (hf:X.fn x=true\/X.env.scope.names.lookup x=some .local:=by first | exact .inl rfl | exact .inr rfl | assumption) :
  PS X (.AugAssign (.Name x pos') op e pos) (tAug i te ti):=by
 intro pins s σ H D I h;obtain ⟨v,e1,h⟩:=h;obtain ⟨m,hn,hl⟩:=I.loc;have vis:Vis X.env.scope x:=by rcases hx with k | k; exact .inl k; exact .inr (.inl k)
 obtain ⟨u,r,l⟩:=hl i x v hi e1 vis;refine wpAny_AugAssign_Name ?_;have go:wpAny (model X.prog X.w) X.A (eval e X.env) (λ w s₂=>wpAny (model X.prog X.w) X.A (inplaceOp op u w) (λ r s₃=>wpAny (model X.prog X.w) X.A (storeName X.env x r) (λ _=>SP X pins D .next) X.xe s₃) X.xe s₂) X.xe s:=by
  refine thn (he pins s σ H _ I h) λ w s1 ⟨y,H1,I1,r1,q1⟩=>?_;refine thn (ho pins s1 σ H1 v y u w _ I1 r r1 q1) λ z s2 ⟨zv,H2,I2,r2,q2⟩=>?_;exact e_I I2 hN hi hx r2 (λ s3 I3=>⟨_,H2,I3,q2⟩) hf
 rcases l with ⟨hk,hm⟩ | ⟨hk,c,hc,hcell⟩
 ·exact wpAny_loadName_local I.ok.kind hk hn hm go
 ·rcases hk with hk | hk
  ·exact wpAny_loadName_cell I.ok.kind hk hc hcell go
  ·rcases hx with k | k
   ·have:X.env.scope.names.lookup x=some .free:=hk;rw [k] at this; cases this
   ·have:X.env.scope.names.lookup x=some .free:=hk;rw [k] at this; cases this
noncomputable def ipI (f:Int->Int->Int):TIp:=λ x y H Q=>∃ i j,x=.int i/\y=.int j/\Q (.int (f i j)) H
theorem n_K:PIp X .Add (ipI λ i j=>i+j):=by
 intro pins s σ H x y v u Q I r1 r2 h;obtain ⟨i,j,e1,e2,q⟩:=h;subst e1; subst e2;obtain ⟨t,rfl⟩:=r1;obtain ⟨t',rfl⟩:=r2;exact iadd_int ⟨.int _,H,I.tok _,⟨_,rfl⟩,q⟩
end
section
variable {X:Cx} {pos:Pos}
noncomputable def n_L (c:TT) (tb:TS):TS:=λ D σ H=>∃ W:Nat->St->Hp->Prop,(∃ m,W m σ H)/\∀ m σ H,W m σ H ->
 c σ H λ b H1=>if b=true then ∃ N:St->Hp->Prop,(∀ σ' H',N σ' H'->∃ m',m' < m/\W m' σ' H')/\tb { D with nx:=N,ct:=N,bk:=D.nx } σ H1 else D.nx σ H1
theorem e_K {c:Expr} {body:List Stmt} {tc:TT} {tb:TS} (hp:PassesOwn (model X.prog X.w) X.A X.env X.xe) (hc:PT X c tc) (hb:PSs X body tb):PS X (.While c body [] pos) (n_L tc tb):=by
 intro pins s σ H D I h;obtain ⟨W,⟨m0,w0⟩,turn⟩:=h;refine wpAny_While (codeAny_whileLoop (λ n s'=>∃ σ' H',Inv X pins σ' H' s'/\W n σ' H') ?_ m0 ⟨σ,H,I,w0⟩);rintro n s1 ⟨σ1,H1,I1,w1⟩;refine wpAny_passesOwn hp (thn (hc pins s1 σ1 H1 _ I1 (turn n σ1 H1 w1)) λ b s2 ⟨H2,I2,q2⟩=>?_);cases b with
 | true =>
  obtain ⟨N,hN,q2⟩:=q2;rw [if_pos rfl];refine wpAny_passesOwn hp (thn (hb pins s2 σ1 H2 _ I2 q2) λ f s3 q3=>?_);cases f with
  | next =>
   obtain ⟨σ3,H3,I3,n3⟩:=q3;obtain ⟨m',hm,w3⟩:=hN σ3 H3 n3;exact ⟨m',hm,σ3,H3,I3,w3⟩
  | cont =>
   obtain ⟨σ3,H3,I3,n3⟩:=q3;obtain ⟨m',hm,w3⟩:=hN σ3 H3 n3;exact ⟨m',hm,σ3,H3,I3,w3⟩
  | brk=>exact q3
  | ret v=>exact q3
 | false =>
  rw [if_neg zV];exact wpAny_execs_nil ⟨σ1,H2,I2,q2⟩
end
structure It where
 go:Nat->Hp->Prop
 yld:Nat->Hp->V->Hp->Prop
 stop:Nat->Hp->Prop
noncomputable def FpOk (X:Cx) (pins:List (Addr × Obj)) (H:Hp) (b:Addr):Prop :=
 H b=none/\b≠X.env.locals/\b ∉ X.fs/\(b∈X.ex\/X.s₀.heap.objs.size<=b)/\(∀ x c,X.env.cells.lookup x=some c->c≠b)/\∀ p∈X.pn++pins,p.1≠b
theorem Inv.fpOk {X:Cx} {pins:List (Addr × Obj)} {σ:St} {H H':Hp} {s:Shared} {b:Addr} (I:Inv X pins σ H s) (hb:s.heap.objs.size<=b) (hn:H' b=none):FpOk X pins H' b:=by
 refine ⟨hn,Nat.ne_of_gt (zI I.lt hb),I.nofs hb,.inr (zS I.sz hb),λ x c e z=>?_,λ p hp z=>?_⟩
 ·obtain ⟨v,q⟩:=I.cell x c e;exact yJ (zI q.lt (by rw [z]; exact hb)) (Nat.lt_irrefl _)
 ·exact yJ (zI (zE (I.pin p hp).1) (by rw [z]; exact hb)) (Nat.lt_irrefl _)
structure Turn (P:Program) (w:World) (K:Frag) (tg:Expr) (J:It) (fp:List Addr) (it:Addr) (tn:Nat->Heap->Prop):Prop where
 mem:it∈fp
 obj:∀ i h,tn i h->∀ b∈fp,∃ o,h.get? b=some o/\∀ v,o.data≠.cell v
 keep:∀ i h h',tn i h->(∀ b∈fp,∀ o,h.get? b=some o->h'.get? b=some o)->tn i h'
 item:∀ (X:Cx),X.prog=P->X.w=w->X.K=K->X.calm=true->∀ (i:Nat) (pins:List (Addr × Obj)) (s:Shared) (σ:St) (H:Hp) (E:Value->Shared->Prop),Inv X pins σ H s->(∀ b∈fp,FpOk X pins H b)->tn i s.heap->J.go i H ->
  wpAny (model P w) X.A (pyNext (.ref it)) (λ r s1=>∃ u,r=some u /\
   wpAny (model P w) X.A (letOwnedTupleGo tg (.ref it) u) (λ _ s2=>∃ x H',Inv X pins σ H' s2/\RelV x u/\J.yld i H x H'/\tn (i+1) s2.heap/\∀ b∈fp,H' b=none) E s1) E s
 done:∀ (X:Cx),X.prog=P->X.w=w->X.K=K->X.calm=true->∀ (i:Nat) (pins:List (Addr × Obj)) (s:Shared) (σ:St) (H:Hp) (E:Value->Shared->Prop),Inv X pins σ H s->(∀ b∈fp,FpOk X pins H b)->tn i s.heap->J.stop i H ->
  wpAny (model P w) X.A (pyNext (.ref it)) (λ r s1=>r=none/\Inv X pins σ H s1) E s
 self:∀ (A:Around) (i:Nat) (s:Shared) (Q:Value->Shared->Prop) (E:Value->Shared->Prop),tn i s.heap->Q (.ref it) s->wpAny (model P w) A (pyIter (.ref it)) Q E s
noncomputable abbrev TI:=St->Hp->(It->Hp->Prop)->Prop
noncomputable def PIE (X:Cx) (pins:List (Addr × Obj)) (σ:St) (tg:Expr) (R:It->Hp->Prop) (itv:Value) (s2:Shared):Prop :=
 ∃ (it:Addr) (fp:List Addr) (tn:Nat->Heap->Prop) (J:It) (H':Hp),itv=.ref it/\Inv X pins σ H' s2/\Turn X.prog X.w X.K tg J fp it tn/\tn 0 s2.heap/\(∀ b∈fp,FpOk X pins H' b)/\R J H'
noncomputable def PI (X:Cx) (tg iter:Expr) (wi:TI):Prop :=
 ∀ (pins:List (Addr × Obj)) (s:Shared) (σ:St) (H:Hp) (R:It->Hp->Prop),Inv X pins σ H s->wi σ H R ->
  wpAny (model X.prog X.w) X.A (eval iter X.env) (λ v s1=>wpAny (model X.prog X.w) X.A (pyIter v) (PIE X pins σ tg R) X.xe s1) X.xe s
theorem l_l {M:Model} {A:Around} {E:Value->Shared->Prop} {s:Shared} {tg:Expr} {it:Addr} {u:Value} {o:Obj} {n:String} {vs:Array Value} {Q:Unit->Shared->Prop} (ho:s.heap.get? it=some o) (hc:o.cls=.type n) (hd:o.data=.fields vs)
    (hn:["enumerate","zip","dict_itemiterator","dict_reverseitemiterator","odict_iterator","itertools.zip_longest","itertools.pairwise"].contains n=false) (hQ:Q () s):wpAny M A (letOwnedTupleGo tg (.ref it) u) Q E s:=by
  unfold letOwnedTupleGo;cases tg <;> first
    | exact zB hQ
    | (cases u <;> first
        | exact zB hQ
        | (refine zA (wpAny_load ho ?_)
           rw [hc,hd];show wpAny M A (if (["enumerate","zip","dict_itemiterator","dict_reverseitemiterator","odict_iterator","itertools.zip_longest","itertools.pairwise"].contains n && vs[0]? == some (rawInt _))=true then _ else _) Q E s;rw [if_neg (by intro h; rw [hn,Bool.false_and] at h; cases h)];exact zB hQ))
noncomputable def Itl (K:Frag) (a:Addr):It :=
 ⟨λ i H=>∃ xs x,SqL K H a xs/\xs[i]?=some x,λ i H x H'=>H'=H/\∀ xs,SqL K H a xs->xs[i]?=some x,λ i H=>∃ xs,SqL K H a xs/\xs.length<=i⟩
noncomputable def Itt (K:Frag) (a:Addr):It :=
 ⟨λ i H=>∃ xs x,SqT K H a xs/\xs[i]?=some x,λ i H x H'=>H'=H/\∀ xs,SqT K H a xs->xs[i]?=some x,λ i H=>∃ xs,SqT K H a xs/\xs.length<=i⟩
noncomputable def Itr (lo:Int) (n:Nat):It:=⟨λ i _=>i < n,λ i H x H'=>H'=H/\x=.int (lo+i),λ i _=>n<=i⟩
theorem m_m {P:Program} {w:World} {K:Frag} {tg:Expr} (a it:Addr):Turn P w K tg (Itl K a) [it] it (λ i h=>h.IsListIter it a i) where
 mem:=by simp
 obj:=λ i h st b hb=>by
  have e:b=it:=by simpa using hb
  subst e;obtain ⟨o,e,c,d⟩:=st;exact ⟨o,e,λ v z=>by rw [d] at z; cases z⟩
 keep:=λ i h h' st k=>st.at λ o e=>k it (by simp) o e
 item:=by
  intro X hP hw hK hc i pins s σ H E I hf st hg;subst hP hw hK;obtain ⟨xs,x,hq,hx⟩:=hg;obtain ⟨its,rv,p,hz⟩:=I.list hq;obtain ⟨u,hu,ru⟩:=rv.get hx;obtain ⟨f0,f1,f2,f3,f4,f5⟩:=hf it (by simp);refine wpAny_pyNext_list_item st p.isList (x:=u) (by simpa using hu) λ h' st' sb=>?_;have I1:Inv X pins σ H { s with heap:=h' }:=I.turned (t':=s.toks) (λ b o hb e=>(sb.2 b hb).trans e) f0 f1 f3 f4 f5;obtain ⟨o,e,c,d⟩:=id st';exact ⟨u,rfl,l_l (s:={ s with heap:=h' }) e c d (by decide) ⟨x,H,I1,ru,⟨rfl,λ ys hy=>by rw [I.list_inj hy hq]; exact hx⟩,st',λ b hb=>(hf b hb).1⟩⟩
 done:=by
  intro X hP hw hK hc i pins s σ H E I hf st hg;subst hP hw hK;obtain ⟨xs,hq,hx⟩:=hg;obtain ⟨its,rv,p,hz⟩:=I.list hq;obtain ⟨f0,f1,f2,f3,f4,f5⟩:=hf it (by simp);have hl:=rv.length;exact wpAny_pyNext_list_end (I.ok.hd hc) st p.isList (by simp; omega) λ h' eb=>⟨rfl,I.turned (t':=s.toks) (λ b o hb e=>eb b o hb e) f0 f1 f3 f4 f5⟩
 self:=λ _ _ _ _ _ st h=>wpAny_pyIter_listiter st h
theorem k_u {P:Program} {w:World} {K:Frag} {tg:Expr} (a it:Addr):Turn P w K tg (Itt K a) [it] it (λ i h=>h.IsTupleIter it a i) where
 mem:=by simp
 obj:=λ i h st b hb=>by
  have e:b=it:=by simpa using hb
  subst e;obtain ⟨o,e,c,d⟩:=st;exact ⟨o,e,λ v z=>by rw [d] at z; cases z⟩
 keep:=λ i h h' st k=>st.at λ o e=>k it (by simp) o e
 item:=by
  intro X hP hw hK hc i pins s σ H E I hf st hg;subst hP hw hK;obtain ⟨xs,x,hq,hx⟩:=hg;obtain ⟨its,rv,p,hz⟩:=I.tuple hq;obtain ⟨u,hu,ru⟩:=rv.get hx;obtain ⟨f0,f1,f2,f3,f4,f5⟩:=hf it (by simp);refine wpAny_pyNext_tuple_item st (show s.heap.IsTuple a its.toArray from p) (x:=u) (by simpa using hu) λ h' st' sb=>?_;have I1:Inv X pins σ H { s with heap:=h' }:=I.turned (t':=s.toks) (λ b o hb e=>(sb.2 b hb).trans e) f0 f1 f3 f4 f5;obtain ⟨o,e,c,d⟩:=id st';exact ⟨u,rfl,l_l (s:={ s with heap:=h' }) e c d (by decide) ⟨x,H,I1,ru,⟨rfl,λ ys hy=>by rw [I.tuple_inj hy hq]; exact hx⟩,st',λ b hb=>(hf b hb).1⟩⟩
 done:=by
  intro X hP hw hK hc i pins s σ H E I hf st hg;subst hP hw hK;obtain ⟨xs,hq,hx⟩:=hg;obtain ⟨its,rv,p,hz⟩:=I.tuple hq;obtain ⟨f0,f1,f2,f3,f4,f5⟩:=hf it (by simp);have hl:=rv.length;exact wpAny_pyNext_tuple_end (I.ok.hd hc) st (show s.heap.IsTuple a its.toArray from p) (by simp; omega) λ h' eb=>⟨rfl,I.turned (t':=s.toks) (λ b o hb e=>eb b o hb e) f0 f1 f3 f4 f5⟩
 self:=λ _ _ _ _ _ st h=>wpAny_pyIter_tupleiter st h
theorem k_v {P:Program} {w:World} {K:Frag} {tg:Expr} (it:Addr) (lo:Int) (n:Nat):Turn P w K tg (Itr lo n) [it] it (λ i h=>IsRangeIter h it (lo+(i:Nat)*1) ((n:Int) - (i:Nat)) 1) where
 mem:=by simp
 obj:=λ i h st b hb=>by
  have e:b=it:=by simpa using hb
  subst e;exact ⟨_,st,λ v z=>by
   have z':Data.fields _=Data.cell v:=z;cases z'⟩
 keep:=λ i h h' st k=>k it (by simp) _ st
 item:=by
  intro X hP hw hK hc i pins s σ H E I hf st hg;subst hP hw hK;obtain ⟨f0,f1,f2,f3,f4,f5⟩:=hf it (by simp);have W:=Walks.range (prog:=X.prog) (w:=X.w) (I.ok.hd hc) it lo 1 n;refine W.item i s _ _ hg st λ v h' tk hv st' kk=>?_;obtain ⟨t,rfl⟩:=hv;have I1:Inv X pins σ H { s with heap:=h',toks:=tk }:=I.turned (λ b o hb e=>kk b o (by simpa using hb) e) f0 f1 f3 f4 f5;refine ⟨_,rfl,l_l (s:={ s with heap:=h',toks:=tk }) (n := "range_iterator") st' rfl rfl (by decide) ⟨.int (lo+i),H,I1,⟨t,?_⟩,⟨rfl,rfl⟩,st',λ b hb=>(hf b hb).1⟩⟩;rw [Int.mul_one]
 done:=by
  intro X hP hw hK hc i pins s σ H E I hf st hg;subst hP hw hK;obtain ⟨f0,f1,f2,f3,f4,f5⟩:=hf it (by simp);exact wpAny_pyNext_range_end (I.ok.hd hc) st (by have:n<=i:=hg; omega) λ h' eb=>⟨rfl,I.turned (t':=s.toks) (λ b o hb e=>eb b o hb e) f0 f1 f3 f4 f5⟩
 self:=λ _ _ _ _ _ st h=>wpAny_pyIter_rangeiter st h
section
variable {X:Cx} {tg:Expr}
theorem j_G {pins:List (Addr × Obj)} {σ:St} {H:Hp} {s:Shared} {R:It->Hp->Prop} {E:Value->Shared->Prop} {lo hi:Int} {t u v:Tok} {tk:Nat} (I:Inv X pins σ H s) (h1:-(2 ^ 62)<=lo) (h2:lo < 2 ^ 62) (h3:-(2 ^ 62)<=hi) (h4:hi < 2 ^ 62)
  (q:R (Itr lo (hi - lo).toNat) H):wpAny (model X.prog X.w) X.A (pyIter (.ref s.heap.objs.size)) (PIE X pins σ tg R) E { s with heap:=s.heap.push { cls:=.type "range",data:=.fields #[.int lo t,.int hi u,.int 1 v] },toks:=tk }:=by
 refine wpAny_pyIter_range (IsRange.new ..) (small_one h1 h2 h3 h4) ?_;have I1:Inv X pins σ H { s with heap:=s.heap.push { cls:=.type "range",data:=.fields #[.int lo t,.int hi u,.int 1 v] },toks:=tk }:=I.kept λ b o e=>zD _ e;refine ⟨(s.heap.push { cls:=.type "range",data:=.fields #[.int lo t,.int hi u,.int 1 v] }).objs.size,[(s.heap.push { cls:=.type "range",data:=.fields #[.int lo t,.int hi u,.int 1 v] }).objs.size],_,_,H,rfl,
  I1.kept (t':=tk) λ b o e=>zD _ e,k_v _ lo (hi - lo).toNat,?_,λ b hb=>?_,q⟩
 ·have e1:lo+((0:Nat):Int)*1=lo:=by simp
  have e2:(((hi - lo).toNat:Nat):Int) - ((0:Nat):Int)=Builtin.Range.rangeSize lo hi 1:=by rw [rangeSize_one]; split <;> omega
  show IsRangeIter _ _ (lo+((0:Nat):Int)*1) ((((hi - lo).toNat:Nat):Int) - ((0:Nat):Int)) 1;rw [e1,e2];exact zF _ rfl
 ·have e:b=(s.heap.push { cls:=.type "range",data:=.fields #[.int lo t,.int hi u,.int 1 v] }).objs.size:=by simpa using hb
  subst e;exact I1.fpOk (zL _) (I1.hok.fresh (zL _))
noncomputable def c_w (ta:TA):TI:=λ σ H R=>ta σ H λ vs H1=>∃ j:Int,vs=[.int j]/\-(2 ^ 62)<=j/\j < 2 ^ 62/\R (Itr 0 j.toNat) H1
noncomputable def j_H (ta:TA):TI:=λ σ H R=>ta σ H λ vs H1=>∃ i j:Int,vs=[.int i,.int j]/\(-(2 ^ 62)<=i/\i < 2 ^ 62/\-(2 ^ 62)<=j/\j < 2 ^ 62)/\R (Itr i (j - i).toNat) H1
theorem b_I {a:Expr} {ta:TA} {p pos:Pos} (hg:Gl X "range") (hm:X.mg "range" = none) (ha:PA X [a] ta) (hs:starEach [a] X.env=[(false,eval a X.env)]:=by rfl):PI X tg (.Call (.Name "range" p) [a] [] pos) (c_w ta):=by
 intro pins s σ H R I h;refine Call_ (e_e I hg hm boot_range (PyProof.Rows.callWith_type1 (thn (ha pos pins s σ H _ I h) λ us s1 ⟨vs,H1,I1,r1,q1⟩=>?_) hs rfl));obtain ⟨j,e,q1,q2,q⟩:=q1;subst e;cases r1 with
 | cons r rr =>
  cases rr;obtain ⟨t,rfl⟩:=r;exact call_range_1 (j_G I1 (by omega) (by omega) q1 q2 (by simpa using q))
theorem e_X {a b:Expr} {ta:TA} {p pos:Pos} (hg:Gl X "range") (hm:X.mg "range" = none) (ha:PA X [a,b] ta) (hs:starEach [a,b] X.env=[(false,eval a X.env),(false,eval b X.env)]:=by rfl) (hs2:starEach [b] X.env=[(false,eval b X.env)]:=by rfl) :
  PI X tg (.Call (.Name "range" p) [a,b] [] pos) (j_H ta):=by
 intro pins s σ H R I h;refine Call_ (e_e I hg hm boot_range (PyProof.Rows.callWith_type1 (thn (ha pos pins s σ H _ I h) λ us s1 ⟨vs,H1,I1,r1,q1⟩=>?_) (by rw [hs,hs2]) (by rw [hs2]; rfl)));obtain ⟨i,j,e,⟨q1,q2,q3,q4⟩,q⟩:=q1;subst e;cases r1 with
 | cons r rr =>
  cases rr with
  | cons r' rr =>
   cases rr;obtain ⟨t,rfl⟩:=r;obtain ⟨t',rfl⟩:=r';exact call_range_2 (j_G I1 q1 q2 q3 q4 q)
noncomputable def tFor (wi:TI) (g:TG) (tb:TS):TS:=λ D σ H=>wi σ H λ J H1=>∃ W:Nat->Nat->St->Hp->Prop,(∃ m,W 0 m σ H1)/\∀ i m σ H,W i m σ H ->
 (J.stop i H/\D.nx σ H)\/(J.go i H/\∃ N:St->Hp->Prop,(∀ σ' H',N σ' H'->∃ m',m' < m/\W (i+1) m' σ' H')/\∀ x H',J.yld i H x H'->g x σ H' λ σ2 H2=>tb { D with nx:=N,ct:=N,bk:=D.nx } σ2 H2)
noncomputable def h_h (fp:List Addr) (h:Heap):List (Addr × Obj):=fp.filterMap λ b=>(h.get? b).map λ o=>(b,o)
theorem e_v {fp:List Addr} {h:Heap} {b:Addr} {o:Obj} (hb:b∈fp) (e:h.get? b=some o):(b,o)∈h_h fp h:=List.mem_filterMap.mpr ⟨b,hb,by rw [e]; rfl⟩
theorem m_o {fp:List Addr} {h:Heap} {p:Addr × Obj} (hp:p∈h_h fp h):p.1∈fp/\h.get? p.1=some p.2:=by
 obtain ⟨b,hb,e⟩:=List.mem_filterMap.mp hp;cases q:h.get? b with
 | none=>rw [q] at e; cases e
 | some o =>
  rw [q] at e;have e':(b,o)=p:=zT e;subst e';exact ⟨hb,q⟩
theorem Inv.pinned {pins:List (Addr × Obj)} {σ:St} {H:Hp} {s:Shared} {fp:List Addr} (I:Inv X pins σ H s) (hf:∀ b∈fp,FpOk X pins H b) (ho:∀ b∈fp,∃ o,s.heap.get? b=some o/\∀ v,o.data≠.cell v):Inv X (pins++h_h fp s.heap) σ H s :=
 I.pins_of λ p hp=>(List.mem_append.mp hp).elim (λ z=>I.pin p (zZ _ z)) λ z=>by
  obtain ⟨hb,e⟩:=m_o z;obtain ⟨f0,f1,f2,_⟩:=hf p.1 hb;obtain ⟨o,e',d⟩:=ho p.1 hb;rw [e] at e'; cases e';exact ⟨e,f0,f1,f2,d⟩
theorem Inv.unpinned {pins pl:List (Addr × Obj)} {σ:St} {H:Hp} {s:Shared} (I:Inv X (pins++pl) σ H s):Inv X pins σ H s:=I.pins_of λ p hp=>I.pin p (zZ _ (List.mem_append_left _ hp))
theorem c_A {iter:Expr} {body:List Stmt} {wi:TI} {g:TG} {tb:TS} {pos:Pos} (hp:PassesOwn (model X.prog X.w) X.A X.env X.xe) (hc:X.calm=true) (hi:PI X tg iter wi) (hg:PG X tg g) (hb:PSs X body tb)
  (hs:∀ x,foldedSetIterable iter X.env x=pure x:=by intro _; rfl):PS X (.For tg iter body [] pos) (tFor wi g tb):=by
 intro pins s σ H D I h;refine wpAny_For (thn (hi pins s σ H _ I h) λ v s1 h1=>thn h1 λ itv s2 h2=>?_) hs;obtain ⟨it,fp,tn,J,H2,e,I2,T,st2,f2,W,⟨m0,w0⟩,turn⟩:=h2;subst e
 -- what stays true of the iterator's objects through the loop
 have stat:∀ {H':Hp},(∀ b∈fp,H' b=none)->∀ b∈fp,FpOk X pins H' b:=λ hn b hb=>⟨hn b hb,(f2 b hb).2⟩;refine codeAny_forLoop_any (λ n s'=>∃ i σ' H',Inv X pins σ' H' s'/\tn i s'.heap/\(∀ b∈fp,H' b=none)/\W i n σ' H') ?_ m0 ⟨0,σ,H2,I2,st2,λ b hb=>(f2 b hb).1,w0⟩;rintro n s3 ⟨i,σ3,H3,I3,st3,fr3,w3⟩;rcases turn i n σ3 H3 w3 with ⟨stop,qn⟩ | ⟨go,N,hN,step⟩
 ·refine wpAny_passesOwn hp (thn (T.done X rfl rfl rfl hc i pins s3 σ3 H3 X.xe I3 (stat fr3) st3 stop) λ r s4 ⟨hr,I4⟩=>?_);subst hr;exact wpAny_execs_nil ⟨σ3,H3,I4,qn⟩
 ·refine wpAny_passesOwn hp (thn (T.item X rfl rfl rfl hc i pins s3 σ3 H3 X.xe I3 (stat fr3) st3 go) λ r s4 ⟨u,hr,h4⟩=>?_);subst hr;refine wpAny_passesOwn hp (thn h4 λ _ s5 ⟨x,H5,I5,r5,y5,st5,fr5⟩=>?_);have I5':=I5.pinned (stat fr5) (T.obj _ _ st5);refine wpAny_passesOwn hp (thn (hg _ s5 σ3 H5 x u _ I5' r5 (step x H5 y5)) λ _ s6 ⟨σ6,H6,I6,q6⟩=>?_);refine wpAny_passesOwn hp (thn (hb _ s6 σ6 H6 _ I6 q6) λ f s7 q7=>?_);have again:∀ {σ7:St} {H7:Hp},Inv X (pins++h_h fp s5.heap) σ7 H7 s7->N σ7 H7->∃ m,m < n/\∃ i σ' H',Inv X pins σ' H' s7/\tn i s7.heap/\(∀ b∈fp,H' b=none)/\W i m σ' H':=λ {σ7 H7} I7 n7=>by
   obtain ⟨m',hm,w7⟩:=hN σ7 H7 n7;refine ⟨m',hm,i+1,σ7,H7,I7.unpinned,T.keep _ _ _ st5 λ b hb o e=>(I7.pin (b,o) (zZ _ (zZ _ (e_v hb e)))).1,λ b hb=>?_,w7⟩;obtain ⟨o,e,d⟩:=T.obj _ _ st5 b hb;exact (I7.pin (b,o) (zZ _ (zZ _ (e_v hb e)))).2.1
  cases f with
  | next=>obtain ⟨σ7,H7,I7,n7⟩:=q7; exact again I7 n7
  | cont=>obtain ⟨σ7,H7,I7,n7⟩:=q7; exact again I7 n7
  | brk=>obtain ⟨σ7,H7,I7,q7⟩:=q7; exact ⟨σ7,H7,I7.unpinned,q7⟩
  | ret v=>obtain ⟨x7,σ7,H7,I7,r7,q7⟩:=q7; exact ⟨x7,σ7,H7,I7.unpinned,r7,q7⟩
end
theorem n_M {K:Frag} {a:Addr} {xs:List V} {g:TG} {tb:TS} {D:Ends} {σ:St} {H:Hp} (Pv:Nat->St->Hp->Prop) (h0:Pv 0 σ H) (hl:∀ i σ H,i<=xs.length->Pv i σ H->SqL K H a xs)
  (hs:∀ i x σ H,xs[i]?=some x->Pv i σ H->g x σ H λ σ2 H2=>tb { D with nx:=Pv (i+1),ct:=Pv (i+1),bk:=D.nx } σ2 H2) (hd:∀ σ H,Pv xs.length σ H->D.nx σ H) :
  ∃ W:Nat->Nat->St->Hp->Prop,(∃ m,W 0 m σ H)/\∀ i m σ H,W i m σ H ->
   ((Itl K a).stop i H/\D.nx σ H)\/((Itl K a).go i H/\∃ N:St->Hp->Prop,(∀ σ' H',N σ' H'->∃ m',m' < m/\W (i+1) m' σ' H')/\∀ x H',(Itl K a).yld i H x H'->g x σ H' λ σ2 H2=>tb { D with nx:=N,ct:=N,bk:=D.nx } σ2 H2):=by
 refine ⟨λ i m σ H=>m=xs.length - i/\i<=xs.length/\Pv i σ H,⟨xs.length,by simp,Nat.zero_le _,h0⟩,?_⟩;rintro i m σ H ⟨rfl,hi,p⟩;have q:=hl i σ H hi p
 by_cases hlt:i < xs.length
 ·refine .inr ⟨⟨xs,xs[i],q,by simp [hlt]⟩,Pv (i+1),λ σ' H' p'=>⟨xs.length - (i+1),by omega,rfl,hlt,p'⟩,λ x H' y=>?_⟩;obtain ⟨e,y⟩:=y;subst e;exact hs i x σ _ (y xs q) p
 ·have e:i=xs.length:=by omega
  subst e;exact .inl ⟨⟨xs,q,zL _⟩,hd σ H p⟩
theorem p_K {K:Frag} {a:Addr} {xs:List V} {g:TG} {tb:TS} {D:Ends} {σ:St} {H:Hp} (Pv:Nat->St->Hp->Prop) (h0:Pv 0 σ H) (hl:∀ i σ H,i<=xs.length->Pv i σ H->SqT K H a xs)
  (hs:∀ i x σ H,xs[i]?=some x->Pv i σ H->g x σ H λ σ2 H2=>tb { D with nx:=Pv (i+1),ct:=Pv (i+1),bk:=D.nx } σ2 H2) (hd:∀ σ H,Pv xs.length σ H->D.nx σ H) :
  ∃ W:Nat->Nat->St->Hp->Prop,(∃ m,W 0 m σ H)/\∀ i m σ H,W i m σ H ->
   ((Itt K a).stop i H/\D.nx σ H)\/((Itt K a).go i H/\∃ N:St->Hp->Prop,(∀ σ' H',N σ' H'->∃ m',m' < m/\W (i+1) m' σ' H')/\∀ x H',(Itt K a).yld i H x H'->g x σ H' λ σ2 H2=>tb { D with nx:=N,ct:=N,bk:=D.nx } σ2 H2):=by
 refine ⟨λ i m σ H=>m=xs.length - i/\i<=xs.length/\Pv i σ H,⟨xs.length,by simp,Nat.zero_le _,h0⟩,?_⟩;rintro i m σ H ⟨rfl,hi,p⟩;have q:=hl i σ H hi p
 by_cases hlt:i < xs.length
 ·refine .inr ⟨⟨xs,xs[i],q,by simp [hlt]⟩,Pv (i+1),λ σ' H' p'=>⟨xs.length - (i+1),by omega,rfl,hlt,p'⟩,λ x H' y=>?_⟩;obtain ⟨e,y⟩:=y;subst e;exact hs i x σ _ (y xs q) p
 ·have e:i=xs.length:=by omega
  subst e;exact .inl ⟨⟨xs,q,zL _⟩,hd σ H p⟩
theorem m_t {lo:Int} {n:Nat} {g:TG} {tb:TS} {D:Ends} {σ:St} {H:Hp} (Pv:Nat->St->Hp->Prop) (h0:Pv 0 σ H)
  (hs:∀ i σ H,i < n->Pv i σ H->g (.int (lo+i)) σ H λ σ2 H2=>tb { D with nx:=Pv (i+1),ct:=Pv (i+1),bk:=D.nx } σ2 H2) (hd:∀ σ H,Pv n σ H->D.nx σ H) :
  ∃ W:Nat->Nat->St->Hp->Prop,(∃ m,W 0 m σ H)/\∀ i m σ H,W i m σ H ->
   ((Itr lo n).stop i H/\D.nx σ H)\/((Itr lo n).go i H/\∃ N:St->Hp->Prop,(∀ σ' H',N σ' H'->∃ m',m' < m/\W (i+1) m' σ' H')/\∀ x H',(Itr lo n).yld i H x H'->g x σ H' λ σ2 H2=>tb { D with nx:=N,ct:=N,bk:=D.nx } σ2 H2):=by
 refine ⟨λ i m σ H=>m=n - i/\i<=n/\Pv i σ H,⟨n,by simp,Nat.zero_le _,h0⟩,?_⟩;rintro i m σ H ⟨rfl,hi,p⟩
 by_cases hlt:i < n
 ·refine .inr ⟨hlt,Pv (i+1),λ σ' H' p'=>⟨n - (i+1),by omega,rfl,hlt,p'⟩,λ x H' y=>?_⟩;obtain ⟨e,y⟩:=y;subst e y;exact hs i σ _ hlt p
 ·have e:i=n:=by omega
  subst e;exact .inl ⟨zL _,hd σ H p⟩
noncomputable abbrev R2:=V->V->Hp->VK->Prop
noncomputable def OpR (X:Cx) (f:Value->Value->Sem Value) (r:R2):Prop :=
 ∀ (pins:List (Addr × Obj)) (s:Shared) (σ:St) (H:Hp) (x y:V) (v u:Value) (Q:VK),Inv X pins σ H s->RelV x v->RelV y u->r x y H Q ->
  wpAny (model X.prog X.w) X.A (f v u) (EP X pins σ Q) X.xe s
noncomputable def UnR (X:Cx) (f:Value->Sem Value) (r:V->Hp->VK->Prop):Prop :=
 ∀ (pins:List (Addr × Obj)) (s:Shared) (σ:St) (H:Hp) (x:V) (v:Value) (Q:VK),Inv X pins σ H s->RelV x v->r x H Q ->
  wpAny (model X.prog X.w) X.A (f v) (EP X pins σ Q) X.xe s
noncomputable def e_m (X:Cx) (f:Value) (r:List V->Hp->VK->Prop):Prop :=
 ∀ (pins:List (Addr × Obj)) (s:Shared) (σ:St) (H:Hp) (xs:List V) (us:List Value) (Q:VK),Inv X pins σ H s->Vals xs us->r xs H Q ->
  wpAny (model X.prog X.w) X.A (call f us) (EP X pins σ Q) X.xe s
noncomputable def tOp (r:R2) (ta tb:TE):TE:=λ σ H Q=>ta σ H λ x H1=>tb σ H1 λ y H2=>r x y H2 Q
noncomputable def tUn (r:V->Hp->VK->Prop) (ta:TE):TE:=λ σ H Q=>ta σ H λ x H1=>r x H1 Q
noncomputable def rI (C:Int->Int->Prop) (g:Int->Int->V):R2:=λ x y H Q=>∃ i j,x=.int i/\y=.int j/\C i j/\Q (g i j) H
noncomputable def rI0 (g:Int->Int->V):R2:=λ x y H Q=>∃ i j,x=.int i/\y=.int j/\Q (g i j) H
noncomputable def rU (g:Int->V):V->Hp->VK->Prop:=λ x H Q=>∃ i,x=.int i/\Q (g i) H
section
variable {X:Cx} {a b c:Expr} {ta tb tc:TE} {pos:Pos}
theorem binT (ha:PE X a ta) (hb:PE X b tb) {pins:List (Addr × Obj)} {s:Shared} {σ:St} {H:Hp} {R:V->V->Hp->Prop} (I:Inv X pins σ H s)
  (h:ta σ H λ x H1=>tb σ H1 λ y H2=>R x y H2) {Q:Value->Shared->Prop} {f:Value->Value->Sem Value}
  (hf:∀ v u s2 x y H2,Inv X pins σ H2 s2->RelV x v->RelV y u->R x y H2->wpAny (model X.prog X.w) X.A (f v u) Q X.xe s2) :
  wpAny (model X.prog X.w) X.A (eval a X.env) (λ v s₁=>wpAny (model X.prog X.w) X.A (eval b X.env) (λ u s₂=>wpAny (model X.prog X.w) X.A (f v u) Q X.xe s₂) X.xe s₁) X.xe s:=by
 refine thn (ha pins s σ H _ I h) λ v s1 ⟨x,H1,I1,r1,q1⟩=>?_;refine thn (hb pins s1 σ H1 _ I1 q1) λ u s2 ⟨y,H2,I2,r2,q2⟩=>?_;exact hf v u s2 x y H2 I2 r1 r2 q2
theorem a_L {op:Operator} {r:R2} (ho:OpR X (binaryOp op) r) (ha:PE X a ta) (hb:PE X b tb):PE X (.BinOp a op b pos) (tOp r ta tb):=by
 intro pins s σ H Q I h;exact wpAny_BinOp (binT ha hb I h λ v u s2 x y H2 I2 rx ry q=>ho pins s2 σ H2 x y v u Q I2 rx ry q)
theorem e_D {op:UnaryOp} {r:V->Hp->VK->Prop} (ho:UnR X (unaryOp op) r) (ha:PE X a ta):PE X (.UnaryOp op a pos) (tUn r ta):=by
 intro pins s σ H Q I h;exact UnaryOp_ (thn (ha pins s σ H _ I h) λ v s1 ⟨x,H1,I1,r1,q1⟩=>ho pins s1 σ H1 x v Q I1 r1 q1)
theorem opI {f:Value->Value->Sem Value} {C:Int->Int->Prop} {g:Int->Int->Int}
  (rule:∀ (i j:Int) (t u:Tok) (s:Shared) (Q:Value->Shared->Prop) (E:Value->Shared->Prop),C i j->Q (.int (g i j) s.toks) { s with toks:=s.toks+1 }->wpAny (model X.prog X.w) X.A (f (.int i t) (.int j u)) Q E s) :
  OpR X f (rI C λ i j=>.int (g i j)):=by
 intro pins s σ H x y v u Q I rx ry h;obtain ⟨i,j,rfl,rfl,hc,q⟩:=h;obtain ⟨t,rfl⟩:=rx;obtain ⟨t',rfl⟩:=ry;exact rule i j t t' s _ _ hc ⟨.int (g i j),H,I.tok _,⟨_,rfl⟩,q⟩
theorem opI0 {f:Value->Value->Sem Value} {g:Int->Int->Int}
  (rule:∀ (i j:Int) (t u:Tok) (s:Shared) (Q:Value->Shared->Prop) (E:Value->Shared->Prop),Q (.int (g i j) s.toks) { s with toks:=s.toks+1 }->wpAny (model X.prog X.w) X.A (f (.int i t) (.int j u)) Q E s) :
  OpR X f (rI0 λ i j=>.int (g i j)):=by
 intro pins s σ H x y v u Q I rx ry h;obtain ⟨i,j,rfl,rfl,q⟩:=h;obtain ⟨t,rfl⟩:=rx;obtain ⟨t',rfl⟩:=ry;exact rule i j t t' s _ _ ⟨.int (g i j),H,I.tok _,⟨_,rfl⟩,q⟩
theorem opB0 {f:Value->Value->Sem Value} {g:Int->Int->Bool}
  (rule:∀ (i j:Int) (t u:Tok) (s:Shared) (Q:Value->Shared->Prop) (E:Value->Shared->Prop),Q (.bool (g i j)) s->wpAny (model X.prog X.w) X.A (f (.int i t) (.int j u)) Q E s) :
  OpR X f (rI0 λ i j=>.bl (g i j)):=by
 intro pins s σ H x y v u Q I rx ry h;obtain ⟨i,j,rfl,rfl,q⟩:=h;obtain ⟨t,rfl⟩:=rx;obtain ⟨t',rfl⟩:=ry;exact rule i j t t' s _ _ ⟨.bl (g i j),H,I,rfl,q⟩
noncomputable def CPow (i j:Int):Prop:=0<=j/\j<=1000000/\i.natAbs < 2 ^ 64
theorem c_y:OpR X (binaryOp .Add) (rI0 λ i j=>.int (i+j)):=opI0 λ _ _ _ _ _ _ _ q=>add_int q
theorem d_R:OpR X (binaryOp .Sub) (rI0 λ i j=>.int (i - j)):=opI0 λ _ _ _ _ _ _ _ q=>sub_int q
theorem b_S:OpR X (binaryOp .Mod) (rI (λ _ j=>j≠0) λ i j=>.int (i.fmod j)):=opI λ _ _ _ _ _ _ _ hc q=>mod_int' hc q
theorem h_i:OpR X (binaryOp .Pow) (rI CPow λ i j=>.int (i ^ j.toNat)):=opI λ _ _ _ _ _ _ _ hc q=>pow_int_small hc.1 hc.2.1 hc.2.2 q
theorem unI {f:Value->Sem Value} {g:Int->Int}
  (rule:∀ (i:Int) (t:Tok) (s:Shared) (Q:Value->Shared->Prop) (E:Value->Shared->Prop),Q (.int (g i) s.toks) { s with toks:=s.toks+1 }->wpAny (model X.prog X.w) X.A (f (.int i t)) Q E s) :
  UnR X f (rU λ i=>.int (g i)):=by
 intro pins s σ H x v Q I rx h;obtain ⟨i,rfl,q⟩:=h;obtain ⟨t,rfl⟩:=rx;exact rule i t s _ _ ⟨.int (g i),H,I.tok _,⟨_,rfl⟩,q⟩
theorem d_L:UnR X (unaryOp .USub) (rU λ i=>.int (-i)):=unI λ _ _ _ _ _ q=>neg_int q
end
noncomputable def scal:V->V->Bool
 | .non,.non=>true | .non,.int _=>true | .int _,.non=>true | .non,.bl _=>true | .bl _,.non=>true | .non,.str _=>true | .str _,.non=>true
 | .int _,.int _=>true | .bl _,.bl _=>true | .str _,.str _=>true | .byt _,.byt _=>true
 | .int _,.str _=>true | .str _,.int _=>true | .bl _,.str _=>true | .str _,.bl _=>true
 | _,_=>false
noncomputable def rNe:R2:=λ x y H Q=>scal x y=true/\Q (.bl (!decide (x=y))) H
theorem p_L {i j:Int}:decide (V.int i=V.int j)=(i == j):=by
 rw [Bool.eq_iff_iff];simp
theorem r_B {i j:Bool}:decide (V.bl i=V.bl j)=(i == j):=by
 rw [Bool.eq_iff_iff];simp
theorem p_M {i j:Str}:decide (V.str i=V.str j)=(i == j):=by
 rw [Bool.eq_iff_iff];simp
theorem p_N {i j:Array UInt8}:decide (V.byt i=V.byt j)=(i.toList == j.toList):=by
 rw [Bool.eq_iff_iff];cases i;cases j;simp
section
variable {X:Cx} {a b c:Expr} {ta tb tc:TE} {pos:Pos}
theorem c_B {pins:List (Addr × Obj)} {σ:St} {H:Hp} {s:Shared} {Q:VK} {k k':Bool} (I:Inv X pins σ H s) (q:Q (.bl k) H) (e:k=k'):EP X pins σ Q (.bool k') s:=by
 subst e;exact ⟨.bl k,H,I,rfl,q⟩
theorem r_i:OpR X (compareOp .NotEq) rNe:=by
 intro pins s σ H x y v u Q I rx ry h;obtain ⟨hs,q⟩:=h;cases x with
 | non =>
  cases rx;cases y with
  | non=>cases ry; exact PySem.EqNone.ne_none_none (c_B I q (by simp))
  | bl j=>cases ry; exact PySem.EqNone.ne_none_bool (c_B I q (by simp))
  | int j=>obtain ⟨t',rfl⟩:=ry; exact PySem.EqNone.ne_none_int (c_B I q (by simp))
  | str j=>obtain ⟨t',rfl⟩:=ry; exact PySem.EqNone.ne_none_str (c_B I q (by simp))
  | _=>exact yJ (show false=true from hs) zV
 | bl i =>
  cases rx;cases y with
  | non=>cases ry; exact PySem.EqNone.ne_bool_none (c_B I q (by simp))
  | bl j=>cases ry; exact ne_bool (c_B I q (congrArg not r_B))
  | str j=>obtain ⟨t',rfl⟩:=ry; exact PySem.EqMixed.ne_bool_str (c_B I q (by simp))
  | _=>exact yJ (show false=true from hs) zV
 | int i =>
  obtain ⟨t,rfl⟩:=rx;cases y with
  | non=>cases ry; exact PySem.EqNone.ne_int_none (c_B I q (by simp))
  | int j=>obtain ⟨t',rfl⟩:=ry; exact ne_int (c_B I q (congrArg not p_L))
  | str j=>obtain ⟨t',rfl⟩:=ry; exact PySem.EqMixed.ne_int_str (c_B I q (by simp))
  | _=>exact yJ (show false=true from hs) zV
 | str i =>
  obtain ⟨t,rfl⟩:=rx;cases y with
  | non=>cases ry; exact PySem.EqNone.ne_str_none (c_B I q (by simp))
  | bl j=>cases ry; exact PySem.EqMixed.ne_str_bool (c_B I q (by simp))
  | int j=>obtain ⟨t',rfl⟩:=ry; exact PySem.EqMixed.ne_str_int (c_B I q (by simp))
  | str j=>obtain ⟨t',rfl⟩:=ry; exact ne_str (c_B I q (congrArg not p_M))
  | _=>exact yJ (show false=true from hs) zV
 | byt i =>
  obtain ⟨t,rfl⟩:=rx;cases y with
  | byt j=>obtain ⟨t',rfl⟩:=ry; exact PySem.W.ne_bytes (c_B I q (congrArg not p_N))
  | _=>exact yJ (show false=true from hs) zV
 | _=>cases y <;> exact yJ (show false=true from hs) zV
theorem i_p:OpR X (compareOp .Lt) (rI0 λ i j=>.bl (decide (i < j))):=opB0 λ _ _ _ _ _ _ _ q=>lt_int q
theorem h_j:OpR X (compareOp .Gt) (rI0 λ i j=>.bl (decide (j < i))):=opB0 λ _ _ _ _ _ _ _ q=>gt_int q
theorem s_K:OpR X (compareOp .GtE) (rI0 λ i j=>.bl (decide (j<=i))):=opB0 λ _ _ _ _ _ _ _ q=>ge_int q
theorem h_w:OpR X (compareOp .Is) (λ x y H Q=>y=.non/\Q (.bl (decide (x=.non))) H):=by
 intro pins s σ H x y v u Q I rx ry h;obtain ⟨rfl,q⟩:=h;cases ry;refine is_none_gen (c_B I q ?_);cases x <;> first
  | (cases rx; rfl)
  | (obtain ⟨t,rfl⟩:=rx; rfl)
theorem p_O:OpR X (compareOp .IsNot) (λ x y H Q=>y=.non/\Q (.bl (!decide (x=.non))) H):=by
 intro pins s σ H x y v u Q I rx ry h;obtain ⟨rfl,q⟩:=h;cases ry;refine isnot_none_gen (c_B I q ?_);cases x <;> first
  | (cases rx; rfl)
  | (obtain ⟨t,rfl⟩:=rx; rfl)
theorem a_V (b:Expr) {op:CmpOp} (h:op≠.In:=by decide) (h2:op≠.NotIn:=by decide):behindInMarks op b=false:=by
 have e1:(op == CmpOp.In)=false:=by cases op <;> first | rfl | exact yJ rfl h
 have e2:(op == CmpOp.NotIn)=false:=by cases op <;> first | rfl | exact yJ rfl h2
 cases b <;> simp [behindInMarks,e1,e2]
theorem c_S {op:CmpOp} {r:R2} (ho:OpR X (compareOp op) r) (ha:PE X a ta) (hb:PE X b tb) (hm:behindInMarks op b=false):PE X (.Compare a [op] [b] pos) (tOp r ta tb):=by
 intro pins s σ H Q I h;exact wpAny_Compare1 (binT ha hb I h λ v u s2 x y H2 I2 rx ry q=>ho pins s2 σ H2 x y v u Q I2 rx ry q) hm
noncomputable def h_x (t:TE):TT:=λ σ H Q=>t σ H λ x H'=>∃ k,x=.bl k/\Q k H'
theorem a_T {op:CmpOp} {r:R2} (ho:OpR X (compareOp op) r) (ha:PE X a ta) (hb:PE X b tb) (hm:behindInMarks op b=false):PT X (.Compare a [op] [b] pos) (h_x (tOp r ta tb)):=by
 intro pins s σ H Q I h;refine wpAny_isTrue_Compare1 (thn (ha pins s σ H _ I h) λ v s1 ⟨x,H1,I1,r1,q1⟩=>thn (hb pins s1 σ H1 _ I1 q1) λ u s2 ⟨y,H2,I2,r2,q2⟩ =>
  thn (ho pins s2 σ H2 x y v u _ I2 r1 r2 q2) λ c s3 ⟨z,H3,I3,r3,k,e,q3⟩=>?_) hm
 subst e;cases r3;exact wpAny_truthy_bool ⟨H3,I3,q3⟩
theorem j_b:(sizeLine:Nat) < 2 ^ 63:=by rw [sizeLine_eq]; decide
theorem d_Y {x:V} {us:List Value} (r:Vals [x] us):∃ u,us=[u]/\RelV x u:=by
 cases r with
 | cons r1 r2=>cases r2; exact ⟨_,rfl,r1⟩
theorem e_n:e_m X (.builtin "abs") (λ xs H Q=>∃ i,xs=[.int i]/\Q (.int (if i < 0 then -i else i)) H):=by
 intro pins s σ H xs us Q I r h;obtain ⟨i,rfl,q⟩:=h;obtain ⟨u,rfl,t,rfl⟩:=d_Y r;exact call_abs_int λ u tk=>⟨.int (if i < 0 then -i else i),H,I.tok _,⟨_,rfl⟩,q⟩
theorem i_q:e_m X (.type "int") (λ xs H Q=>(∃ i,xs=[.int i]/\Q (.int i) H)\/∃ k,xs=[.bl k]/\Q (.int (if k then 1 else 0)) H):=by
 intro pins s σ H xs us Q I r h;rcases h with ⟨i,rfl,q⟩ | ⟨k,rfl,q⟩
 ·obtain ⟨u,rfl,t,rfl⟩:=d_Y r;exact call_int_int ⟨.int i,H,I,⟨_,rfl⟩,q⟩
 ·obtain ⟨u,rfl,r1⟩:=d_Y r;cases r1;exact call_int_bool ⟨.int (if k then 1 else 0),H,I.tok _,⟨_,rfl⟩,q⟩
end
structure ObjM (h:Heap) (x dx C:Addr) (mA:Str->Option Value):Prop where
 obj:h.get? x=some (PySem.W.instObj C dx)
 ns:h.Ns1 dx mA
 ne:dx≠x
theorem m_A {h:Heap} {dx:Addr} {mA:Str->Option Value} (n:h.Ns1 dx mA):∃ od,h.get? dx=some od/\∀ name,PySem.W.lookIn name od=some (mA name):=by
 obtain ⟨o,es,ep,ho,hd,hk,_,hm⟩:=n;refine ⟨o,ho,λ name=>?_⟩;have e:=hm name;unfold nsFind findBy at e;rw [← Array.find?_toList] at e;unfold PySem.W.lookIn;rw [hd];dsimp only;split
 ·rename_i y q;rw [q] at e;exact congrArg some e
 ·rename_i q;rw [q] at e;have a:es.toList.any (·.refKey)=false:=by
   rw [List.any_eq_false];intro y hy;obtain ⟨z,t,hkey⟩:=hk y (Array.mem_toList_iff.mp hy);simp [DictEntry.refKey,hkey]
  have a':¬ es.toList.any (·.refKey)=true:=by rw [a]; exact zV
  rw [if_neg a'];exact congrArg some e
theorem ObjM.look {h:Heap} {x dx C:Addr} {mA:Str->Option Value} (I:ObjM h x dx C mA):∃ od,PySem.W.InstAt h x (PySem.W.instObj C dx) C (some od)/\∀ name,PySem.W.lookIn name od=some (mA name) :=
 let ⟨od,ho,hl⟩:=m_A I.ns
 ⟨od,⟨I.obj,rfl,rfl,ho⟩,hl⟩
section
variable {prog:Program} {w:World} {A:Around} {E:Value->Shared->Prop} {s:Shared} {K:Frag} {x dx C f:Addr} {mA:Str->Option Value} {name:Str} {v:Value}
theorem p_P {expr:Bool} {Q:Value->Shared->Prop} (X:K.In s.heap) (I:ObjM s.heap x dx C mA) (hg:PySem.W.plainGet K C name=true) (hh:PySem.W.hasDictIn K C=true)
  (ha:PySem.W.findIn K (.ref C) name=some none) (hv:mA name=some v) (hv':PySem.W.handedIn v=true) (h:Q v { s with toks:=s.toks+1 }) :
  wpAny (model prog w) A (getAttr (.ref x) name expr) Q E s:=by
 obtain ⟨od,J,hl⟩:=I.look;exact PySem.W.get_value X J (PySem.W.plainGet_of hg).1 (PySem.W.findObj_own hh ha rfl (by rw [hl,hv])) hv' h
theorem n_N {pl:Sem Bool} {Q:Value × List Value->Shared->Prop} (X:K.In s.heap) (I:ObjM s.heap x dx C mA) (hg:PySem.W.plainGet K C name=true)
  (hf:PySem.W.findIn K (.ref C) name=some (some (.ref f))) (ht:PySem.W.isFn K (.ref f)=true) (hv:mA name=none) (h:Q (.ref f,[.ref x]) s) :
  wpAny (model prog w) A (getMethod (.ref x) name pl) Q E s:=by
 obtain ⟨od,J,hl⟩:=I.look;exact PySem.W.method_fn X J (PySem.W.plainGet_of hg).1 (PySem.W.plainGet_of hg).2 hf (beq_iff_eq.mp ht) (by show (PySem.W.lookIn name od).map (·.isSome)=some false; rw [hl,hv]; rfl) h
theorem p_Q {ns:List Str} {Q:Unit->Shared->Prop} (X:K.In s.heap) (I:ObjM s.heap x dx C mA)
  (hs:PySem.W.findIn K (.ref C) "__setattr__" = some (some (.builtin "object.__setattr__"))) (hp:PySem.W.plainOver K C=true) (ht:PySem.W.takerIn K C name=some none) (hh:PySem.W.hasDictIn K C=true)
  (hw:PySem.Within mA ns) (hsz:ns.length<=sizeLine)
  (h:∀ h',ObjM h' x dx C (λ y=>if y=name then some v else mA y)->Heap.SameBut dx s.heap h'->Q () { s with heap:=h',toks:=s.toks+2 }) :
  wpAny (model prog w) A (setAttr (.ref x) name v) Q E s:=by
 obtain ⟨od,J,hl⟩:=I.look;refine PySem.W.set_plain X J hs (PySem.W.osa_open (s:={ s with toks:=s.toks+1 }) (r:=none) X J hp ht λ b=>?_);obtain ⟨cd,hc,hd'⟩:=PySem.W.any_some hh;have hx:s.heap.get? x=some ⟨.ref C,some dx,.plain,#[]⟩:=I.obj;refine zA (zB (zA (zA (wpAny_loadPart hx (zA (PySem.W.Looks.here (s:={ s with toks:=s.toks+1 }) (PySem.W.looks_clsIn X hc) ?_))))));rw [hd'];refine zB (a:=some dx) (zA (zB (zA ?_)));refine wpAny_nsSet1 (s:={ s with toks:=s.toks+1 }) I.ns λ h' hn2 hs2=>?_;obtain ⟨oD,esD,epD,hoD,hdD,hcD⟩:=hn2.count (PySem.Within.cons name v hw);refine zA (wpAny_lookBehind hoD (by rw [hdD]; exact pastItsLine_dict (zS hcD (by rw [List.length_cons]; omega))) ?_);exact zB (h _ ⟨(hs2.2 _ (Ne.symm I.ne)).trans I.obj,hn2,I.ne⟩ hs2)
theorem n_O {R:Result->Shared->Prop} {vs:List Value} {kw:List (Str × Value)} (X:K.In s.heap) (hm:PySem.W.makesIn K C=true)
  (hi:PySem.W.findIn K (.ref C) "__init__" = some (some (.ref f))) (hf:PySem.W.typeIn K (.ref f)=some (.type "function"))
  (h:codeAny (model prog w) (A.under (.builtin "type.__call__" ⟨.ref C :: vs,kw⟩)) (.call (.ref f) ⟨.ref (s.heap.objs.size+1) :: vs,kw⟩) (PySem.W.InitBack (s.heap.objs.size+1) R)
   { s with heap:=(s.heap.push PySem.W.emptyDict).push (PySem.W.instObj C s.heap.objs.size) }) :
  codeAny (model prog w) A (.call (.ref C) ⟨vs,kw⟩) R s:=by
 obtain ⟨hh,g,d,t,os⟩:=s;exact PySem.W.make_core (PySem.W.makes_of X hm) (PySem.W.looks_findIn X hi) (λ self=>PySem.W.bind_fn X self hf) (.inl rfl) h
end
noncomputable def putF (f:Str) (v:V):List (Str × V)->List (Str × V)
 | []=>[(f,v)]
 | (g,x) :: r=>if g=f then (g,v) :: r else (g,x) :: putF f v r
theorem c_k (f g:Str) (v:V):∀ fs:List (Str × V),(putF f v fs).lookup g=if g=f then some v else fs.lookup g
 | []=>by
  show List.lookup g [(f,v)]=_
  by_cases h:g=f
  ·have hb:(g == f)=true:=beq_iff_eq.mpr h;simp only [List.lookup,hb,if_pos h]
  ·have hb:(g == f)=false:=beq_eq_false_iff_ne.mpr h;simp only [List.lookup,hb,if_neg h]
 | (k,x) :: r=>by
  have ih:=c_k f g v r;rw [show putF f v ((k,x) :: r)=(if k=f then (k,v) :: r else (k,x) :: putF f v r) from rfl]
  by_cases hk:k=f
  ·rw [if_pos hk]
   by_cases h:g=k
   ·have hb:(g == k)=true:=beq_iff_eq.mpr h;simp only [List.lookup,hb,if_pos (h.trans hk)]
   ·have hb:(g == k)=false:=beq_eq_false_iff_ne.mpr h;simp only [List.lookup,hb,if_neg (λ e:g=f=>h (e.trans hk.symm))]
  ·rw [if_neg hk]
   by_cases h:g=k
   ·have hb:(g == k)=true:=beq_iff_eq.mpr h;simp only [List.lookup,hb,if_neg (λ e:g=f=>hk (h.symm.trans e))]
   ·have hb:(g == k)=false:=beq_eq_false_iff_ne.mpr h;simp only [List.lookup,hb];exact ih
theorem g_o (f:Str) (v:V):∀ fs:List (Str × V),f∈(putF f v fs).map (·.1)/\∀ g,g∈fs.map (·.1)->g∈(putF f v fs).map (·.1)
 | []=>⟨by simp [putF],λ g h=>by simp at h⟩
 | (k,x) :: r=>by
  obtain ⟨i1,i2⟩:=g_o f v r;rw [show putF f v ((k,x) :: r)=(if k=f then (k,v) :: r else (k,x) :: putF f v r) from rfl]
  by_cases hk:k=f
  ·rw [if_pos hk];subst hk;exact ⟨by simp,λ g h=>by simpa using h⟩
  ·rw [if_neg hk];refine ⟨?_,λ g h=>?_⟩
   ·rw [List.map_cons];exact zN _ i1
   ·rw [List.map_cons] at h ⊢;rcases List.mem_cons.mp h with e | e
    ·exact List.mem_cons.mpr (.inl e)
    ·exact zN _ (i2 g e)
theorem g_G (f:Str) (v:V):∀ fs:List (Str × V),(putF f v fs).length<=fs.length+1
 | []=>by simp [putF]
 | (k,x) :: r=>by
  have ih:=g_G f v r;rw [show putF f v ((k,x) :: r)=(if k=f then (k,v) :: r else (k,x) :: putF f v r) from rfl]
  by_cases hk:k=f
  ·rw [if_pos hk,List.length_cons,List.length_cons]; omega
  ·rw [if_neg hk,List.length_cons,List.length_cons]; omega
theorem RelO.some_of {v:V} {o:Option Value} (r:RelO (some v) o):∃ u,o=some u/\RelV v u:=by
 cases o with
 | none=>exact (show False from r).elim
 | some u=>exact ⟨u,rfl,r⟩
theorem RelO.none_of {o:Option Value} (r:RelO none o):o=none:=by
 cases o with
 | none=>rfl
 | some u=>exact (show False from r).elim
theorem m_B {v:V} {u:Value} (r:RelV v u):PySem.W.handedIn u=true:=by
 cases v with
 | non=>cases (show u=Value.none from r); rfl
 | bl b=>cases (show u=Value.bool b from r); rfl
 | int i=>obtain ⟨t,e⟩:=(show ∃ t,u=Value.int i t from r); cases e; rfl
 | str x=>obtain ⟨t,e⟩:=(show ∃ t,u=Value.str x t from r); cases e; rfl
 | byt b=>obtain ⟨t,e⟩:=(show ∃ t,u=Value.bytes b t from r); cases e; rfl
 | flt b=>obtain ⟨t,e⟩:=(show ∃ t,u=Value.float b t from r); cases e; rfl
 | ref a=>cases (show u=Value.ref a from r); rfl
 | ty n=>cases (show u=Value.type n from r); rfl
section
variable {P:Program} {w:World} {H H':Hp} {h h':Heap} {a C dx:Addr} {fs fs':List (Str × V)}
theorem j_c (hok:HOk P w H h) (e:H a=some (.ins C dx fs)):∃ mA,ObjM h a dx C mA/\(∀ f,RelO (fs.lookup f) (mA f))/\PySem.Within mA (fs.map (·.1))/\fs.length<=1000/\H dx=some (.own a):=by
 obtain ⟨d,z,ne,ob,mA,n,r,q⟩:=(show c_v P w H h a (.ins C dx fs) from hok a _ e);exact ⟨mA,⟨ob,n,ne⟩,r,q,z,d⟩
end
structure Cls (K:Frag) (C:Addr):Prop where
 pg:PySem.W.plainGet K C Str.empty=true
 hd:PySem.W.hasDictIn K C=true
 po:PySem.W.plainOver K C=true
 sa:PySem.W.findIn K (.ref C) "__setattr__" = some (some (.builtin "object.__setattr__"))
theorem Cls.get {K:Frag} {C:Addr} (c:Cls K C) (f:Str):PySem.W.plainGet K C f=true:=c.pg
noncomputable def e_w (K:Frag) (C:Addr) (f:Str):Prop:=PySem.W.findIn K (.ref C) f=some none
theorem e_w.taker {K:Frag} {C:Addr} {f:Str} (n:e_w K C f):PySem.W.takerIn K C f=some none:=by
 unfold PySem.W.takerIn;rw [show PySem.W.findIn K (.ref C) f=some none from n];rfl
structure Meth (K:Frag) (C:Addr) (m:Str) (f:Addr):Prop where
 at_:PySem.W.findIn K (.ref C) m=some (some (.ref f))
 fn:PySem.W.isFn K (.ref f)=true
 kp:PySem.W.keepIn K (.ref f)=true
section
variable {X:Cx} {pins:List (Addr × Obj)} {σ:St} {H:Hp} {s:Shared} {a C dx:Addr} {fs:List (Str × V)} {f:Str} {v:V} {A:Around} {E:Value->Shared->Prop}
theorem k_w {b:Bool} {Q:Value->Shared->Prop} (I:Inv X pins σ H s) (e:H a=some (.ins C dx fs)) (c:Cls X.K C) (n:e_w X.K C f) (l:fs.lookup f=some v)
  (h:∀ u s',Inv X pins σ H s'->RelV v u->Q u s'):wpAny (model X.prog X.w) A (getAttr (.ref a) f b) Q E s:=by
 obtain ⟨mA,O,r,_,_,_⟩:=j_c I.hok e;obtain ⟨u,hu,ru⟩:=RelO.some_of (v:=v) (o:=mA f) (by rw [← l]; exact r f);exact p_P I.kIn O (c.get f) c.hd n hu (m_B ru) (h u _ (I.tok _) ru)
theorem h_z {m:Str} {g:Addr} {pl:Sem Bool} {Q:Value × List Value->Shared->Prop} (I:Inv X pins σ H s) (e:H a=some (.ins C dx fs)) (c:Cls X.K C) (k:Meth X.K C m g) (l:fs.lookup m=none)
  (h:Q (.ref g,[.ref a]) s):wpAny (model X.prog X.w) A (getMethod (.ref a) m pl) Q E s:=by
 obtain ⟨mA,O,r,_,_,_⟩:=j_c I.hok e;have hn:mA m=none:=RelO.none_of (by rw [← l]; exact r m);exact n_N I.kIn O (c.get m) k.at_ k.fn hn h
theorem k_x {y:V} {u:Value} {Q:Unit->Shared->Prop} (I:Inv X pins σ H s) (e:H a=some (.ins C dx fs)) (c:Cls X.K C) (n:e_w X.K C f) (hl:fs.length < 1000) (ry:RelV y u)
  (h:∀ s',Inv X pins σ (upd H a (.ins C dx (putF f y fs))) s'->Q () s'):wpAny (model X.prog X.w) A (setAttr (.ref a) f u) Q E s:=by
 obtain ⟨mA,O,r,wi,_,ho⟩:=j_c I.hok e;have hz:(fs.map (·.1)).length<=sizeLine:=by rw [yI,sizeLine_eq]; omega
 refine p_Q I.kIn O c.sa c.po n.taker c.hd wi hz λ h' O' sb=>h _ ?_;have hd:∃ o,h'.get? dx=some o:=let ⟨o,_,_,e',_⟩:=O'.ns; ⟨o,e'⟩
 refine I.write (x:=a) (e:=dx) (by rw [e]; exact True.intro) (.inr ho) (λ b q hb z=>(sb.2 b hb).trans z) hd ?_;refine ⟨by rw [a_H O.ne]; exact ho,?_,O.ne,O'.obj,_,O'.ns,λ g=>?_,λ g hg=>?_⟩
 ·have:=g_G f y fs; omega
 ·show RelO ((putF f y fs).lookup g) (if g=f then some u else mA g);rw [c_k]
  by_cases q:g=f
  ·rw [if_pos q,if_pos q]; exact ry
  ·rw [if_neg q,if_neg q]; exact r g
 ·by_cases q:g=f
  ·rw [q]; exact (g_o f y fs).1
  ·refine (g_o f y fs).2 g (wi g λ z=>hg ?_);show (if g=f then some u else mA g)=none;rw [if_neg q]; exact z
theorem Inv.made (I:Inv X pins σ H s):Inv X pins σ (upd (upd H s.heap.objs.size (.own (s.heap.objs.size+1))) (s.heap.objs.size+1) (.ins C s.heap.objs.size []))
  { s with heap:=(s.heap.push PySem.W.emptyDict).push (PySem.W.instObj C s.heap.objs.size) }:=by
 have e1:(s.heap.push PySem.W.emptyDict).get? s.heap.objs.size=some PySem.W.emptyDict:=zF s.heap rfl;have e2:((s.heap.push PySem.W.emptyDict).push (PySem.W.instObj C s.heap.objs.size)).get? (s.heap.objs.size+1)=some (PySem.W.instObj C s.heap.objs.size):=by
  have:=zF (s.heap.push PySem.W.emptyDict) (o:=PySem.W.instObj C s.heap.objs.size) rfl
  rwa [Heap.size_push] at this
 have e3:(s.heap.push PySem.W.emptyDict).Ns s.heap.objs.size (λ _=>none):=⟨PySem.W.emptyDict,#[],_,e1,rfl,(λ e he=>yJ he (by simp)),λ _=>rfl⟩;have I1:=I.laid (a:=s.heap.objs.size) (o:=.own (s.heap.objs.size+1)) (h':=s.heap.push PySem.W.emptyDict) (t':=s.toks) (λ b u q=>zD _ q) (zL _) ⟨_,e1⟩;refine I1.laid (a:=s.heap.objs.size+1) (o:=.ins C s.heap.objs.size []) (t':=s.toks) (λ b u q=>zD _ q) (Nat.le_of_eq (Heap.size_push _ _)) ?_;have ne:s.heap.objs.size≠s.heap.objs.size+1:=Nat.ne_of_lt (Nat.lt_succ_self _);refine ⟨by rw [a_H ne,a_G],Nat.zero_le _,ne,e2,λ _=>none,(Heap.Ns1.of_empty e3).at λ o q=>zD _ q,λ _=>True.intro,λ y hy=>yJ rfl hy⟩
theorem p_R {prog:Program} {w:World} {env:Env} {e:Expr} {f:Str} {pos:Pos} {s:Shared} {Q:Value->Shared->Prop} (hb:attributeBase e f env (eval e env)=eval e env)
  (h:wpAny (model prog w) A (eval e env) (λ o s₁=>wpAny (model prog w) A (getAttr o f true) Q E s₁) E s):wpAny (model prog w) A (eval (.Attribute e f pos) env) Q E s :=
 Attribute_any_ h (by rw [arm_eval_Attribute,hb])
end
noncomputable def tFld (K:Frag) (ta:TE) (f:Str):TE:=λ σ H Q=>ta σ H λ x H1=>∃ a C dx fs v,x=.ref a/\H1 a=some (.ins C dx fs)/\Cls K C/\e_w K C f/\fs.lookup f=some v/\Q v H1
noncomputable def sFld (K:Frag) (ta tv:TE) (f:Str):TS:=λ D σ H=>tv σ H λ y H1=>ta σ H1 λ x H2=>∃ a C dx fs,x=.ref a/\H2 a=some (.ins C dx fs)/\Cls K C/\e_w K C f/\fs.length < 1000 /\
 D.nx σ (upd H2 a (.ins C dx (putF f y fs)))
section
variable {X:Cx} {o e value:Expr} {f:Str} {pos pos' tpos:Pos} {ta tv:TE}
theorem b_W (he:PE X e ta) (hb:attributeBase e f X.env (eval e X.env)=eval e X.env):PE X (.Attribute e f pos) (tFld X.K ta f):=by
 intro pins s σ H Q I h;refine p_R hb (thn (he pins s σ H _ I h) λ u s1 ⟨x,H1,I1,rx,a,C,dx,fs,v,ex,ea,c,n,l,q⟩=>?_);subst ex;obtain rfl:u=Value.ref a:=rx;exact k_w I1 ea c n l λ u' s2 I2 ru=>⟨v,H1,I2,ru,q⟩
theorem k_y (ha:PE X o ta) (hv:PE X value tv) (hs:swapsWith value (some (.Attribute o f pos')) pos.line X.env=pure false):PS X (.Assign [.Attribute o f pos'] value pos) (sFld X.K ta tv f):=by
 intro pins s σ H D I h;refine plainObj_wpAny_Assign_Attribute (thn (hv pins s σ H _ I h) λ u s1 ⟨y,H1,I1,ry,q⟩=>thn (ha pins s1 σ H1 _ I1 q) λ ov s2 ⟨x,H2,I2,rx,a,C,dx,fs,ex,ea,c,n,l,q2⟩=>?_) hs;subst ex;obtain rfl:ov=Value.ref a:=rx;exact k_x I2 ea c n l ry λ s3 I3=>⟨σ,_,I3,q2⟩
end
structure Room (k:Nat) (A:Around):Prop where
 hd:A.handled=none
 dp:A.depth+3*k+5 < recursionLimit
 un:A.units+16*k+200 < cLine
theorem Room.mono {j k:Nat} {A:Around} (r:Room k A) (h:j<=k):Room j A:=⟨r.hd,by have:=r.dp; omega,by have:=r.un; omega⟩
theorem Room.mo {j k:Nat} {A:Around} (r:Room k A) (h:j<=k:=by first | decide | omega):Room j A:=r.mono h
theorem Room.deeper {k:Nat} {A:Around} (r:Room (k+1) A) (env:Env):Room k (A.deeper env) :=
 ⟨r.hd,by have:=r.dp; show A.depth+1+3*k+5 < _; omega,by have:=r.un; show A.units+3+16*k+200 < _; omega⟩
theorem k_z {A:Around} {C:Addr} {us:List Value} {kw:List (Str × Value)}:(A.under (.builtin "type.__call__" ⟨.ref C :: us,kw⟩)).depth=A.depth+1:=by
 first | rfl | simp [Around.under,Code.weight,Code.isCreation,Code.isGuard,Code.isCaller,Code.frames,Code.isFrame,guardIds]
theorem k_A {A:Around} {C:Addr} {us:List Value} {kw:List (Str × Value)}:(A.under (.builtin "type.__call__" ⟨.ref C :: us,kw⟩)).units=A.units+1:=by
 first | rfl | simp [Around.under,Code.cUnits,Code.frames,Code.isFrame]
theorem Room.make {k:Nat} {A:Around} (r:Room (k+1) A) (C:Addr) (us:List Value) (kw:List (Str × Value)):Room k (A.under (.builtin "type.__call__" ⟨.ref C :: us,kw⟩)) :=
 ⟨r.hd,by have:=r.dp; rw [k_z]; omega,by have:=r.un; rw [k_A]; omega⟩
theorem Room.depth {k:Nat} {A:Around} (r:Room k A):A.depth < recursionLimit:=by have:=r.dp; omega
theorem Room.units {k:Nat} {A:Around} (r:Room k A):A.units+64 < cLine:=by have:=r.un; omega
noncomputable def tNil:TA:=λ _ H Q=>Q [] H
noncomputable def b_D (ta:TE) (tr:TA):TA:=λ σ H Q=>ta σ H λ x H1=>tr σ H1 λ xs H2=>Q (x :: xs) H2
section
variable {X:Cx} {e:Expr} {es:List Expr} {te:TE} {t:TA} {pos:Pos}
theorem a_B:PA X [] tNil:=λ _ _ _ _ H Q I h=>Calls.spliced_nil ⟨[],H,I,.nil,h⟩
theorem a_A (ha:PE X e te) (hr:PA X es t) (hs:starEach (e :: es) X.env=(false,eval e X.env) :: starEach es X.env:=by rfl):PA X (e :: es) (b_D te t):=by
 intro pos pins s σ H Q I h;rw [hs];show wpAny _ _ (spliced ((false,eval e X.env) :: backTo pos (starEach es X.env))) _ _ s;refine Calls.spliced_cons (thn (ha pins s σ H _ I h) λ u s1 ⟨x,H1,I1,r1,q1⟩=>?_);exact thn (hr pos pins s1 σ H1 _ I1 q1) λ us s2 ⟨xs,H2,I2,r2,q2⟩=>⟨x :: xs,H2,I2,.cons r1 r2,q2⟩
noncomputable def tTup (t:TA):TE:=λ σ H Q=>t σ H λ xs H1=>xs.length<=sizeLine/\∀ p,H1 p=none->Q (.ref p) (upd H1 p (.tup xs))
noncomputable def tLst (t:TA):TE:=λ σ H Q=>t σ H λ xs H1=>xs.length<=sizeLine/\∀ p,H1 p=none->Q (.ref p) (upd H1 p (.lst xs))
theorem c_T {x1} (h:PA X es t):PE X (.Tuple es x1 pos) (tTup t):=by
 intro pins s σ H Q I hq;refine wpAny_Tuple_spliced (thn (h pos pins s σ H _ I hq) λ us s1 ⟨xs,H1,I1,r,z,q⟩=>⟨by rw [← r.length]; exact z,?_⟩);have hf:H1 s1.heap.objs.size=none:=I1.hok.fresh (zL _);refine ⟨.ref s1.heap.objs.size,upd H1 s1.heap.objs.size (.tup xs),I1.laid (t':=s1.toks) (λ b u e=>zD _ e) (zL _) ?_,rfl,q _ hf⟩;exact ⟨z,us,r,⟨_,zF _ rfl,rfl,_,rfl⟩⟩
theorem e_g (h:PA X es t):PE X (.List es pos) (tLst t):=by
 intro pins s σ H Q I hq;refine wpAny_List_spliced (thn (h pos pins s σ H _ I hq) λ us s1 ⟨xs,H1,I1,r,z,q⟩=>⟨by rw [← r.length]; exact z,?_⟩);have hf:H1 s1.heap.objs.size=none:=I1.hok.fresh (zL _);refine ⟨.ref s1.heap.objs.size,upd H1 s1.heap.objs.size (.lst xs),I1.laid (t':=s1.toks) (λ b u e=>zD _ e) (zL _) ?_,rfl,q _ hf⟩;exact ⟨z,us,0,r,zF _ rfl⟩
end
noncomputable abbrev Sp:=List V->Hp->VK->XK->Prop
noncomputable abbrev CXT:=List Env->Hp->Shared->XK->Value->Shared->Prop
structure Env0 (P:Program) (w:World) (K:Frag) (mg:Str->Option Value) (base:Heap) (A:Around) (outer:List Env) (s:Shared) (H:Hp):Prop where
 frames:A.frames=some outer
 mod:Mod K mg base
 bs:∀ b o,base.get? b=some o->s.heap.get? b=some o/\H b=none
 bsz:base.objs.size<=s.heap.objs.size
 funs:s.heap.FunFrames base outer
 frf:∀ b∈frs outer,H b=none
 hok:HOk P w H s.heap
 bare:AllBare s.gens
noncomputable def CE (outer:List Env) (P:Program) (w:World) (H:Hp) (s:Shared) (Q:VK) (u:Value) (s':Shared):Prop :=
 ∃ v H',s'.os=s.os/\AllBare s'.gens/\Un (frs outer) [] H H' s.heap s'.heap/\HOk P w H' s'.heap/\RelV v u/\Q v H'
noncomputable def CR (CX:CXT) (outer:List Env) (P:Program) (w:World) (H:Hp) (s:Shared) (Q:VK) (E:XK) (r:Result) (s':Shared):Prop :=
 match r with
 | .ok (.ret u)=>CE outer P w H s Q u s'
 | .ok _=>False
 | .error e=>CX outer H s E e s'
structure FnOk (P:Program) (w:World) (K:Frag) (mg:Str->Option Value) (base:Heap) (CX:CXT) (k:Nat) (f:Addr) (fd:FuncData) (ps:List Str) (sp:Sp):Prop where
 len:∀ vs H Q E,sp vs H Q E->vs.length=ps.length
 run:∀ (A:Around) (outer:List Env) (s:Shared) (H:Hp) (args:Args) (us:List Value) (vs:List V) (Q:VK) (E:XK),Room k A->Env0 P w K mg base A outer s H->BindsTo s fd args (ps.zip us)->Vals vs us->sp vs H Q E ->
  codeAny (model P w) A (.call (.ref f) args) (CR CX outer P w H s Q E) s
theorem Env0.make {P:Program} {w:World} {K:Frag} {mg:Str->Option Value} {base:Heap} {A:Around} {outer:List Env} {s:Shared} {H:Hp} (e:Env0 P w K mg base A outer s H) (C:Addr) (us:List Value) (kw:List (Str × Value)) :
  Env0 P w K mg base (A.under (.builtin "type.__call__" ⟨.ref C :: us,kw⟩)) outer s H:=⟨by first | exact e.frames | (simpa [Around.under,Code.envs,Code.isFrame,pushEnvs] using e.frames),e.mod,e.bs,e.bsz,e.funs,e.frf,e.hok,e.bare⟩
section
variable {X:Cx} {pins:List (Addr × Obj)} {σ:St} {H:Hp} {s s':Shared}
theorem Inv.env0 (I:Inv X pins σ H s):Env0 X.prog X.w X.K X.mg X.base X.A X.stack s H :=
 ⟨I.ok.frames,I.ok.mod,I.bs,zS I.ok.bsz I.sz,I.stack,I.stkFree,I.hok,I.bare⟩
theorem Inv.after {Q:VK} {u:Value} (I:Inv X pins σ H s) (h:CE X.stack X.prog X.w H s Q u s'):EP X pins σ Q u s':=by
 obtain ⟨v,H',os,bare,un,hok,r,q⟩:=h;obtain ⟨hh,g,d,t,os'⟩:=s';obtain rfl:os'=s.os:=os;exact ⟨v,H',I.call (h':=hh) (g':=g) (d':=d) (t':=t) (ch:=[]) un hok bare (λ b z=>yJ z (by simp)),r,q⟩
end
noncomputable def e_o (sp:Sp) (dvs:List V) (E:XK) (t:TA):TE:=λ σ H Q=>t σ H λ vs H1=>sp (vs++dvs) H1 Q E
noncomputable def l_m (C:Addr) (m:Str) (sp:Sp) (dvs:List V) (E:XK) (ta:TE) (t:TA):TE:=λ σ H Q=>ta σ H λ x H1=>∃ a dx fs,x=.ref a/\H1 a=some (.ins C dx fs)/\fs.lookup m=none /\
 t σ H1 λ vs H2=>sp (x :: (vs++dvs)) H2 Q E
noncomputable def n_P (C:Addr) (sp:Sp) (dvs:List V) (E:XK) (t:TA):TE:=λ σ H Q=>t σ H λ vs H1=>∀ x dx,H1 x=none->H1 dx=none->dx≠x ->
 sp (.ref x :: (vs++dvs)) (upd (upd H1 dx (.own x)) x (.ins C dx [])) (λ v H2=>v=.non/\Q (.ref x) H2) E
noncomputable def a_W (K:Frag) (fd:FuncData) (ps:List Str) (ds:List Value):Prop :=
 ∀ (s:Shared) (us:List Value),K.In s.heap->(us++ds).length=ps.length->BindsTo s fd ⟨us,[]⟩ (ps.zip (us++ds))
theorem a_W.all {K:Frag} {fd:FuncData} {ps:List Str} (h:∀ us:List Value,us.length=ps.length->bindArgs fd ⟨us,[]⟩=pure (ps.zip us)):a_W K fd ps []:=λ s us _ hl=>by
 rw [List.append_nil] at hl ⊢;exact .of_eq (h us hl)
noncomputable def e_L (CX:CXT) (X:Cx) (E:XK):Prop:=∀ (pins:List (Addr × Obj)) (σ:St) (H:Hp) (s:Shared) (e:Value) (s':Shared),Inv X pins σ H s->CX X.stack H s E e s'->X.xe e s'
section
variable {X:Cx} {CX:CXT} {k:Nat} {f C:Addr} {fd:FuncData} {ps:List Str} {sp:Sp} {dvs:List V} {ds:List Value} {E:XK} {x m:Str} {p pos apos:Pos} {e o:Expr} {es:List Expr} {ta:TE} {t:TA}
theorem k_B {pins:List (Addr × Obj)} {σ:St} {H:Hp} {s:Shared} {Q:VK} {us:List Value} {vs:List V} (F:FnOk X.prog X.w X.K X.mg X.base CX k f fd ps sp) (hr:Room k X.A) (hb:a_W X.K fd ps ds) (hd:Vals dvs ds) (hx:e_L CX X E)
  (I:Inv X pins σ H s) (r:Vals vs us) (h:sp (vs++dvs) H Q E):wpAny (model X.prog X.w) X.A (call (.ref f) us) (EP X pins σ Q) X.xe s:=by
 have r2:Vals (vs++dvs) (us++ds):=r.append hd;have hl:(us++ds).length=ps.length:=by rw [← r2.length]; exact F.len _ _ _ _ h
 refine wpAny_call (codeAny_mono (F.run X.A X.stack s H ⟨us,[]⟩ (us++ds) (vs++dvs) Q E hr I.env0 (hb s us I.kIn hl) r2 h) λ r s' hq=>?_);cases r with
 | error e=>exact hx pins σ H s e s' I hq
 | ok fl =>
  cases fl with
  | ret u=>exact I.after hq
  | next=>exact False.elim hq
  | brk=>exact False.elim hq
  | cont=>exact False.elim hq
theorem a_I (F:FnOk X.prog X.w X.K X.mg X.base CX k f fd ps sp) (hr:Room k X.A) (hg:Gl X x) (hm:X.mg x=some (.ref f)) (hk:PySem.W.keepIn X.K (.ref f)=true) (hb:a_W X.K fd ps ds) (hd:Vals dvs ds) (hx:e_L CX X E)
  (ha:PA X (e :: es) t) (hdb:(x == ("__debug__" : Str))=false:=by decide) (he:starEach (e :: es) X.env=(false,eval e X.env) :: starEach es X.env:=by rfl) (hpl:(backTo pos (starEach es X.env)).any (·.1)=false:=by rfl) :
  PE X (.Call (.Name x p) (e :: es) [] pos) (e_o sp dvs E t):=by
 intro pins s σ H Q I h;refine wpAny_Call_Name_kw (g_P I hg hm ?_ hdb);refine PySem.W.callWith_K (h₀:=X.base) I.ok.mod.kin hk (thn (ha pos pins s σ H _ I h) λ us s1 ⟨vs,H1,I1,r,q⟩=>⟨I1.kIn,?_⟩) he hpl;exact k_B F hr hb hd hx I1 r q
theorem e_Y {pl:Sem Bool} (he:PE X o ta) (c:Cls X.K C) (hm:Meth X.K C m f) (F:FnOk X.prog X.w X.K X.mg X.base CX k f fd ps sp) (hr:Room k X.A) (hb:a_W X.K fd ps ds) (hd:Vals dvs ds) (hx:e_L CX X E) (ha:PA X (e :: es) t)
  (hst:starEach (e :: es) X.env=(false,eval e X.env) :: starEach es X.env:=by rfl) (hpl:(backTo pos (starEach es X.env)).any (·.1)=false:=by rfl)
  (ht:eval (.Call (.Attribute o m apos) (e :: es) [] pos) X.env=(do
   let ov ← eval o X.env
   standAt apos.atName
   let (f,first) ← holding [ov] (getMethod ov m pl)
   callWith pos f first (backTo pos (starEach (e :: es) X.env)) (backToKw pos (keywordEach [] X.env))):=by rfl) :
  PE X (.Call (.Attribute o m apos) (e :: es) [] pos) (l_m C m sp dvs E ta t):=by
 intro pins s σ H Q I h;refine PySem.W.methodCall_KW (pl:=pl) (thn (he pins s σ H _ I h) λ u s1 ⟨x,H1,I1,rx,a,dx,fs,ex,ea,l,q⟩=>?_) ht;subst ex;obtain rfl:u=Value.ref a:=rx;refine h_z I1 ea c hm l ?_;refine PySem.W.callWith_K (first:=[.ref a]) (h₀:=X.base) I.ok.mod.kin hm.kp (thn (ha pos pins s1 σ H1 _ I1 q) λ us s2 ⟨vs,H2,I2,r,q2⟩=>⟨I2.kIn,?_⟩) hst hpl;exact k_B (us:=.ref a :: us) (vs:=.ref a :: vs) F hr hb hd hx I2 (.cons rfl r) q2
structure Mk (K:Frag) (C f:Addr):Prop where
 makes:PySem.W.makesIn K C=true
 init:PySem.W.findIn K (.ref C) "__init__" = some (some (.ref f))
 fn:PySem.W.isFn K (.ref f)=true
 kp:PySem.W.keepIn K (.ref C)=true
theorem n_Q {pins:List (Addr × Obj)} {σ:St} {H:Hp} {s:Shared} {Q:VK} {us:List Value} {vs:List V} (M:Mk X.K C f) (F:FnOk X.prog X.w X.K X.mg X.base CX k f fd ps sp) (hr:Room (k+1) X.A) (hb:a_W X.K fd ps ds) (hd:Vals dvs ds)
  (hx:e_L CX X E) (I:Inv X pins σ H s) (r:Vals vs us)
  (h:∀ x dx,H x=none->H dx=none->dx≠x->sp (.ref x :: (vs++dvs)) (upd (upd H dx (.own x)) x (.ins C dx [])) (λ v H2=>v=.non/\Q (.ref x) H2) E) :
  wpAny (model X.prog X.w) X.A (call (.ref C) us) (EP X pins σ Q) X.xe s:=by
 have hq:=h (s.heap.objs.size+1) s.heap.objs.size (I.hok.fresh (Nat.le_succ _)) (I.hok.fresh (zL _)) (Nat.ne_of_lt (Nat.lt_succ_self _));have I2:=Inv.made (C:=C) I;have r2:Vals (V.ref (s.heap.objs.size+1) :: (vs++dvs)) (Value.ref (s.heap.objs.size+1) :: (us++ds)):=.cons rfl (r.append hd);have hl:(Value.ref (s.heap.objs.size+1) :: us++ds).length=ps.length:=by
  have e:=r2.length;rw [F.len _ _ _ _ hq] at e;exact e.symm
 refine wpAny_call (n_O (f:=f) I.kIn M.makes M.init (beq_iff_eq.mp M.fn) (codeAny_mono (F.run _ X.stack _ _ ⟨Value.ref (s.heap.objs.size+1) :: us,[]⟩ (Value.ref (s.heap.objs.size+1) :: (us++ds)) _ _ E (hr.make C us [])
  (I2.env0.make C us []) (hb _ (Value.ref (s.heap.objs.size+1) :: us) I2.kIn hl) r2 hq) λ r s' hq'=>?_))
 cases r with
 | error e=>exact hx pins σ _ _ e s' I2 hq'
 | ok fl =>
  cases fl with
  | ret u =>
   obtain ⟨v,H',I3,rv,ev,q3⟩:=I2.after hq';subst ev;exact ⟨rv,⟨V.ref (s.heap.objs.size+1),H',I3,rfl,q3⟩⟩
  | next=>exact False.elim hq'
  | brk=>exact False.elim hq'
  | cont=>exact False.elim hq'
theorem d_G (M:Mk X.K C f) (F:FnOk X.prog X.w X.K X.mg X.base CX k f fd ps sp) (hr:Room (k+1) X.A) (hg:Gl X x) (hm:X.mg x=some (.ref C)) (hb:a_W X.K fd ps ds) (hd:Vals dvs ds) (hx:e_L CX X E)
  (ha:PA X (e :: es) t) (hdb:(x == ("__debug__" : Str))=false:=by decide) (he:starEach (e :: es) X.env=(false,eval e X.env) :: starEach es X.env:=by rfl) (hpl:(backTo pos (starEach es X.env)).any (·.1)=false:=by rfl) :
  PE X (.Call (.Name x p) (e :: es) [] pos) (n_P C sp dvs E t):=by
 intro pins s σ H Q I h;refine wpAny_Call_Name_kw (g_P I hg hm ?_ hdb);refine PySem.W.callWith_K (h₀:=X.base) I.ok.mod.kin M.kp (thn (ha pos pins s σ H _ I h) λ us s1 ⟨vs,H1,I1,r,q⟩=>⟨I1.kIn,?_⟩) he hpl;exact n_Q M F hr hb hd hx I1 r q
end
noncomputable def PK (X:Cx) (kws:List Keyword) (t:TA):Prop :=
 ∀ (pos:Pos) (pins:List (Addr × Obj)) (s:Shared) (σ:St) (H:Hp) (Q:List V->Hp->Prop),Inv X pins σ H s->t σ H Q->wpAny (model X.prog X.w) X.A (evalAll ((backToKw pos (keywordEach kws X.env)).map (·.2))) (AP X pins σ Q) X.xe s
section
variable {X:Cx} {CX:CXT} {k:Nat} {f C:Addr} {fd:FuncData} {ps ks:List Str} {sp:Sp} {E:XK} {x m:Str} {p pos apos kpos:Pos} {e o:Expr} {es:List Expr} {kws:List Keyword} {te ta:TE} {t tk:TA} {nm:Option Str}
theorem r_C:PK X [] tNil:=λ _ _ _ _ H Q I h=>wpAny_evalAll_nil ⟨[],H,I,.nil,h⟩
theorem p_S (ha:PE X e te) (hr:PK X kws t):PK X (⟨nm,e,kpos⟩ :: kws) (b_D te t):=by
 intro pos pins s σ H Q I h;show wpAny _ _ (evalAll ((do let v ← eval e X.env; standAt pos; pure v) :: (backToKw pos (keywordEach kws X.env)).map (·.2))) _ _ s;refine wpAny_evalAll_cons (zA (thn (ha pins s σ H _ I h) λ u s1 ⟨x,H1,I1,r1,q1⟩=>zA (wpAny_standAt (zB ?_))));exact thn (hr pos pins s1 σ H1 _ I1 q1) λ us s2 ⟨xs,H2,I2,r2,q2⟩=>⟨x :: xs,H2,I2,.cons r1 r2,q2⟩
variable {g:List Value->List Value->List Value} {gV:List V->List V->List V}
end
structure a_K (N P:List Str) (sc:Scope):Prop where
 kind:sc.kind=.function
 co:sc.isCoroutine=false
 gen:sc.isGenerator=false
 nd:N.Nodup
 pre:N.take P.length=P
 par:∀ x∈P,sc.names.lookup x=some .local\/sc.names.lookup x=some .cell
 nofree:∀ y∈sc.names,y.2≠.free
theorem i_r {kindOf:Str->Option NameKind} {x:Str}:∀ {binds:List (Str × Value)} {m:Str->Option Value},(∀ v,(x,v) ∉ binds)->bindL kindOf binds m x=m x
 | [],_,_=>rfl
 | (n,v) :: r,m,h=>by
  unfold bindL;rw [i_r λ w hw=>h w (zN _ hw)];split
  ·have:x≠n:=by rintro rfl; exact h v zU
   simp [this]
  ·rfl
theorem i_s {kindOf:Str->Option NameKind} {x:Str}:∀ {binds:List (Str × Value)} {m:Str->Option Value},(∀ v,(x,v) ∉ binds)->bindC kindOf binds m x=m x
 | [],_,_=>rfl
 | (n,v) :: r,m,h=>by
  unfold bindC;rw [i_s λ w hw=>h w (zN _ hw)];split
  ·rfl
  ·have:x≠n:=by rintro rfl; exact h v zU
   simp [this]
theorem i_t {kindOf:Str->Option NameKind} {x:Str} {v:Value}:∀ {P:List Str} {vs:List Value} {i:Nat} {m:Str->Option Value},P.Nodup->P[i]?=some x->vs[i]?=some v->kindOf x=some .local ->
  bindL kindOf (P.zip vs) m x=some v
 | [],_,_,_,_,h,_,_=>by simp at h
 | _ :: _,[],_,_,_,_,h,_=>by simp at h
 | p :: P,w :: vs,0,m,nd,h1,h2,hk=>by
  simp at h1 h2; subst h1; subst h2;show bindL kindOf ((p,w) :: P.zip vs) m p=_;unfold bindL;rw [i_r λ v hv=>(List.nodup_cons.mp nd).1 (List.of_mem_zip hv).1,if_pos hk];simp
 | p :: P,w :: vs,i+1,m,nd,h1,h2,hk=>by
  show bindL kindOf ((p,w) :: P.zip vs) m x=_;unfold bindL;exact i_t (i:=i) (List.nodup_cons.mp nd).2 (by simpa using h1) (by simpa using h2) hk
theorem i_u {kindOf:Str->Option NameKind} {x:Str} {v:Value}:∀ {P:List Str} {vs:List Value} {i:Nat} {m:Str->Option Value},P.Nodup->P[i]?=some x->vs[i]?=some v->kindOf x≠some .local ->
  bindC kindOf (P.zip vs) m x=some v
 | [],_,_,_,_,h,_,_=>by simp at h
 | _ :: _,[],_,_,_,_,h,_=>by simp at h
 | p :: P,w :: vs,0,m,nd,h1,h2,hk=>by
  simp at h1 h2; subst h1; subst h2;show bindC kindOf ((p,w) :: P.zip vs) m p=_;unfold bindC;rw [i_s λ v hv=>(List.nodup_cons.mp nd).1 (List.of_mem_zip hv).1,if_neg hk];simp
 | p :: P,w :: vs,i+1,m,nd,h1,h2,hk=>by
  show bindC kindOf ((p,w) :: P.zip vs) m x=_;unfold bindC;exact i_u (i:=i) (List.nodup_cons.mp nd).2 (by simpa using h1) (by simpa using h2) hk
noncomputable def start (N:List Str) (vs:List V):St:=vs.map some++List.replicate (N.length - vs.length) none
noncomputable def cxOf (CX:CXT) (P:Program) (w:World) (K:Frag) (mg:Str->Option Value) (base:Heap) (N:List Str) (qual:Str) (scope:Scope) (f:Addr) (cd:Value) (A:Around) (outer:List Env) (s:Shared) (H:Hp) (E:XK):Cx where
 prog:=P
 w:=w
 K:=K
 mg:=mg
 base:=base
 A:=A.deeper (envOfC qual scope s.heap.objs.size f cd)
 N:=N
 s₀:=s
 H₀:=H
 env:=envOfC qual scope s.heap.objs.size f cd
 outer:=outer
 stack:=envOfC qual scope s.heap.objs.size f cd :: outer
 ex:=[]
 calm:=true
 fn:=λ _=>true
 pn:=[]
 xe:=λ e s'=>wpAny (model P w) (A.deeper (envOfC qual scope s.heap.objs.size f cd)) (leaving (envOfC qual scope s.heap.objs.size f cd) e) (λ _ s''=>CX outer H s E e s'') (λ e' s''=>CX outer H s E e' s'') s'
theorem j_I {sc:Scope} {n:Nat} {x:Str} (h:sc.names.lookup x=some .cell):∃ c,(cellsFrom n sc.names []).lookup x=some c:=by
 have q:=PySem.W.cellsFrom_some sc.names n [] (.inl h);exact Option.isSome_iff_exists.mp q
theorem m_C {CX:CXT} {P:Program} {w:World} {K:Frag} {mg:Str->Option Value} {base:Heap} {N ps:List Str} {qual:Str} {scope:Scope} {f:Addr} {cd:Value} {A:Around} {outer:List Env} {s s1:Shared} {H:Hp} {E:XK} {us:List Value} {vs:List V}
  (S:a_K N ps scope) (hd:A.handled=none) (e0:Env0 P w K mg base A outer s H) (hl:vs.length=ps.length) (r:Vals vs us)
  (x:InCallC s s.heap.objs.size (bindL (envOfC qual scope s.heap.objs.size f cd).kindOf (ps.zip us) λ _=>none) (cellsFrom (s.heap.objs.size+1) scope.names []) (bindC (envOfC qual scope s.heap.objs.size f cd).kindOf (ps.zip us) λ _=>none) s1) :
  Inv (cxOf CX P w K mg base N qual scope f cd A outer s H E) [] (start N vs) H s1:=by
 have hpl:ps.length<=N.length:=by have:=congrArg List.length S.pre; rw [List.length_take] at this; omega
 obtain ⟨h1,tk,rfl,hk⟩:=x.done;have noA:∀ b:Addr,b ∉ (cxOf CX P w K mg base N qual scope f cd A outer s H E).ex:=λ b z=>yJ (show b∈([]:List Addr) from z) (by simp);refine ⟨⟨e0.mod,S.kind,rfl,rfl,zL _,λ y z c h1 h2=>?_,λ y hy=>?_,λ y c _ h=>?_,λ _=>hd,Around.frames_deeper e0.frames,.inr ⟨rfl,rfl⟩,λ b z=>yJ z (noA b),e0.bs,e0.bsz,λ b _ _=>noA b,λ b z=>yJ z (noA b),e0.funs,e0.frf⟩,
  rfl,e0.bare,Un.kept hk,⟨_,x.toInCall.ns,λ i y v h1 h2 h3=>?_⟩,λ y c h=>⟨_,x.cell y c h⟩,e0.hok.fresh (zL _),λ y c h=>?_,λ p hp=>yJ (show p∈([]:List (Addr × Obj)) from hp) (by simp),e0.hok.kept hk,?_⟩
 ·exact name_of_addr x.apart (PySem.mem_of_lookup h1) (PySem.mem_of_lookup h2)
 ·have hy:scope.names.lookup y=some .cell\/scope.names.lookup y=some .free:=hy;rcases hy with hy | hy
  ·exact j_I hy
  ·exact yJ rfl (S.nofree _ (PySem.mem_of_lookup hy))
 ·exact Nat.le_of_lt (x.above y c (PySem.mem_of_lookup h))
 ·have hi:i < vs.length:=by
   unfold start at h2
   by_cases hi:i < vs.length
   ·exact hi
   ·rw [yD (by simpa using hi)] at h2;rw [List.getElem?_replicate] at h2;split at h2 <;> cases h2
  have ha:vs[i]?=some v:=by
   unfold start at h2;rw [yC (by simpa using hi),zH] at h2;cases e:vs[i]? with
   | none=>rw [e] at h2; cases h2
   | some a=>rw [e] at h2; cases h2; rfl
  obtain ⟨u,hu,rv⟩:=r.get ha;have hp:ps[i]?=some y:=by
   rw [← S.pre,List.getElem?_take_of_lt (by omega)]; exact h1
  have ndP:ps.Nodup:=by rw [← S.pre]; exact S.nd.sublist (List.take_sublist _ _)
  refine ⟨u,rv,?_⟩;rcases S.par y (List.mem_of_getElem? hp) with k | k
  ·exact .inl ⟨k,i_t ndP hp hu k⟩
  ·obtain ⟨c,e⟩:=j_I (n:=s.heap.objs.size+1) k;refine .inr ⟨.inl k,c,e,?_⟩;have q:=x.cell y c e;rw [i_u ndP hp hu (by show scope.names.lookup y≠_; rw [k]; decide)] at q;exact q
 ·exact e0.hok.fresh (Nat.le_of_lt (x.above y c (PySem.mem_of_lookup h)))
 ·unfold start;show _=N.length;rw [List.length_append,yI,List.length_replicate];omega
theorem n_R {CX:CXT} {P:Program} {w:World} {K:Frag} {mg:Str->Option Value} {base:Heap} {k:Nat} {f:Addr} {name qual:Str} {params:Arguments} {body:List Stmt} {scope:Scope} {dV kV doc pm cdv ct oc:Value} {an od:Option Addr}
  {osl:Array (Option Value)} {N ps:List Str} {sp:Sp} (lk:K.lookup f=some ⟨oc,od,.func (PySem.W.fnOf name qual params body scope dV kV doc pm an cdv ct),osl⟩) (hcd:PySem.W.codeIn K cdv qual=true) (S:a_K N ps scope)
  (len:∀ vs H Q E,sp vs H Q E->vs.length=ps.length)
  (hbody:∀ (A:Around) (outer:List Env) (s:Shared) (H:Hp) (vs:List V) (Q:VK) (E:XK),Room k (A.deeper (envOfC qual scope s.heap.objs.size f cdv))->sp vs H Q E ->
   ∃ t,PSs (cxOf CX P w K mg base N qual scope f cdv A outer s H E) body t/\t { nx:=λ _ H'=>Q .non H',rt:=Q } (start N vs) H) :
  FnOk P w K mg base CX (k+1) f (PySem.W.fnOf name qual params body scope dV kV doc pm an cdv ct) ps sp:=by
 refine ⟨len,λ A outer s H args us vs Q E hr e0 hb r hsp=>?_⟩;have hl:=len _ _ _ _ hsp;have KX:K.In s.heap:=e0.mod.kin.keeps λ b o e=>(e0.bs b o e).1;have lim:s.heap.NoLimit:=e0.mod.nolimit.keeps λ b o e=>(e0.bs b o e).1;have hkind:∀ y∈ps.zip us,scope.names.lookup y.1=some .local\/(scope.names.lookup y.1=some .cell/\((cellsFrom (s.heap.objs.size+1) scope.names []).lookup y.1).isSome=true):=λ ⟨n,v⟩ hy=>by
  rcases S.par n (List.of_mem_zip hy).1 with q | q
  ·exact .inl q
  ·exact .inr ⟨q,PySem.W.cellsFrom_some _ _ _ (.inl q)⟩
 refine codeAny_call_function hr.depth (KX _ _ lk) rfl S.co S.gen rfl (PySem.W.codeRec_of KX hcd) (hb _ _ _ _ ?_);refine wpAny_newFunctionEnv_cells S.kind hkind λ env he s1 x=>?_;subst he;refine ⟨lim.keeps x.toInCall.keep,codeAny_func ?_⟩;obtain ⟨t,ht,hq⟩:=hbody A outer s H vs Q E (hr.deeper _) hsp;have I:Inv (cxOf CX P w K mg base N qual scope f cdv A outer s H E) [] (start N vs) H s1:=m_C S hr.hd e0 hl r x;refine zC (ht [] s1 (start N vs) H _ I hq) (λ fl s' hs=>?_) λ e s' hs=>hs;have fin:∀ {σ':St} {H':Hp} {v:V} {u:Value},Inv (cxOf CX P w K mg base N qual scope f cdv A outer s H E) [] σ' H' s'->RelV v u->Q v H'->CE outer P w H s Q u s' :=
  λ {σ' H' v u} J rv q=>⟨v,H',J.os,J.bare,J.base,J.hok,rv,q⟩
 cases fl with
 | ret u =>
  obtain ⟨v,σ',H',J,rv,q⟩:=hs;exact fin J rv q
 | next =>
  obtain ⟨σ',H',J,q⟩:=hs;exact fin (v:=V.non) (u:=Value.none) J rfl q
 | brk =>
  obtain ⟨_,_,_,q⟩:=hs;exact False.elim q
 | cont =>
  obtain ⟨_,_,_,q⟩:=hs;exact False.elim q
section
variable {X:Cx} {x:Str} {p pos:Pos} {e:Expr} {es:List Expr} {t:TA} {id T:String} {r:List V->Hp->VK->Prop}
noncomputable def tCB (r:List V->Hp->VK->Prop) (t:TA):TE:=λ σ H Q=>t σ H λ vs H1=>r vs H1 Q
theorem a_Q (hc:e_m X (.builtin id) r) (hg:Gl X x) (hm:X.mg x=none) (hv:bootBuiltins x=some (.builtin id)) (ha:PA X (e :: es) t) (hn:x ≠ "__name__" := by decide) (hdb:(x == ("__debug__" : Str))=false:=by decide)
  (he:starEach (e :: es) X.env=(false,eval e X.env) :: starEach es X.env:=by rfl) (hpl:(backTo pos (starEach es X.env)).any (·.1)=false:=by rfl):PE X (.Call (.Name x p) (e :: es) [] pos) (tCB r t):=by
 intro pins s σ H Q I h;refine wpAny_Call_Name_kw (e_e I hg hm hv ?_ hn hdb);exact PyProof.Rows.callWith_builtin1 (thn (ha pos pins s σ H _ I h) λ us s1 ⟨vs,H1,I1,r1,q1⟩=>hc pins s1 σ H1 vs us Q I1 r1 q1) he hpl
theorem b_T (hc:e_m X (.type T) r) (hg:Gl X x) (hm:X.mg x=none) (hv:bootBuiltins x=some (.type T)) (ha:PA X (e :: es) t) (hn:x ≠ "__name__" := by decide) (hdb:(x == ("__debug__" : Str))=false:=by decide)
  (he:starEach (e :: es) X.env=(false,eval e X.env) :: starEach es X.env:=by rfl) (hpl:(backTo pos (starEach es X.env)).any (·.1)=false:=by rfl):PE X (.Call (.Name x p) (e :: es) [] pos) (tCB r t):=by
 intro pins s σ H Q I h;refine wpAny_Call_Name_kw (e_e I hg hm hv ?_ hn hdb);exact PyProof.Rows.callWith_type1 (thn (ha pos pins s σ H _ I h) λ us s1 ⟨vs,H1,I1,r1,q1⟩=>hc pins s1 σ H1 vs us Q I1 r1 q1) he hpl
end
end L2
namespace HT
open PySem PyProof.Rows
section
open PySem.SeqAt
open PySem.AutoSeq1 (wpAny_loadPart')
open PySem.MeetsSeq PySem.MeetsSeq2 PySem.MeetsSeq3
end
section
variable {prog:Program} {w:World} {A:Around} {E:Value->Shared->Prop} {s:Shared}
noncomputable def sIx (n d:Nat):Option Int->Nat
 | none=>d
 | some v=>if v < 0 then (v+(n:Int)).toNat else min v.toNat n
theorem sIx_none (n d:Nat):sIx n d none=d:=rfl
theorem sIx_nat (n d k:Nat):sIx n d (some (k:Int))=min k n:=by
 show (if (k:Int) < 0 then ((k:Int)+(n:Int)).toNat else min (k:Int).toNat n)=min k n;rw [if_neg (by omega),zR]
theorem r_D (n d:Nat) (hd:d<=n) (o:Option Int):sIx n d o<=n:=by
 cases o with
 | none=>exact hd
 | some v =>
  show (if v < 0 then (v+(n:Int)).toNat else min v.toNat n)<=n
  by_cases hv:v < 0
  ·rw [if_pos hv]; omega
  ·rw [if_neg hv]; exact Nat.min_le_right _ _
theorem l_n (v:Int) (n d:Nat):(if v < 0 then max (v+(n:Int)) 0 else min v (n:Int))=((sIx n d (some v):Nat):Int):=by
 show (if v < 0 then max (v+(n:Int)) 0 else min v (n:Int))=(((if v < 0 then (v+(n:Int)).toNat else min v.toNat n):Nat):Int)
 by_cases hv:v < 0
 ·simp only [if_pos hv]; omega
 ·simp only [if_neg hv]; omega
theorem k_C (lo hi:Option Int) (n:Nat):Builtin.Slice.sliceAdjust lo hi 1 (n:Int)=(((sIx n 0 lo:Nat):Int),((sIx n n hi:Nat):Int)):=by
 have h1:¬ ((1:Int) < 0):=by omega
 unfold Builtin.Slice.sliceAdjust;simp only [h1,if_false];refine Prod.ext ?_ ?_
 ·cases lo with
  | none=>rfl
  | some v=>exact l_n v n 0
 ·cases hi with
  | none=>rfl
  | some v=>exact l_n v n n
theorem k_D (i j:Nat):Builtin.Slice.slicePlaces (i:Int) (j:Int) 1=j - i:=by
 unfold Builtin.Slice.slicePlaces;have h1:(1:Int) > 0:=by omega
 simp only [h1,if_true,Int.ediv_one];split <;> omega
theorem h_A {v:Value} {o:Option Int} {Q:Option Int->Shared->Prop} (p:IsPart v o) (h:Q o s):wpAny (model prog w) A (Builtin.Slice.slicePartIndex v) Q E s:=by
 cases p with
 | none=>exact slicePart_none h
 | int i t=>exact slicePart_int h
theorem g_p {sl:Addr} {vl vu:Value} {lo hi:Option Int} {n:Nat} {Q:Int × Int × Nat->Shared->Prop} (hs:s.heap.IsSliceOf sl vl vu .none) (pl:IsPart vl lo) (pu:IsPart vu hi)
  (h:Q (((sIx n 0 lo:Nat):Int),1,sIx n n hi - sIx n 0 lo) s):wpAny (model prog w) A (Builtin.Slice.sliceApplied (.ref sl) (pure (n:Int))) Q E s:=by
 obtain ⟨os,hos,hcs,hds⟩:=id hs;unfold Builtin.Slice.sliceApplied Builtin.Slice.sliceFields;refine zA (zA (wpAny_field hos hds (x:=vl) rfl (zA (wpAny_field hos hds (x:=vu) rfl (zA (wpAny_field hos hds (x:=.none) rfl (zB ?_)))))));refine zA (slicePart_none ?_);show wpAny _ _ (if ((1:Int) == 0)=true then _ else _) _ _ s;rw [if_neg (by decide)];refine zA (h_A pl (zA (h_A pu (zA (zB ?_)))));show wpAny _ _ (match Builtin.Slice.sliceAdjust lo hi 1 (n:Int) with | (lo,hi)=>pure (lo,(1:Int),Builtin.Slice.slicePlaces lo hi 1)) _ _ s;rw [k_C lo hi n];show wpAny _ _ (pure (((sIx n 0 lo:Nat):Int),(1:Int),Builtin.Slice.slicePlaces ((sIx n 0 lo:Nat):Int) ((sIx n n hi:Nat):Int) 1)) _ _ s;rw [k_D];exact zB h
theorem n_S (xs:Array Value) (i k:Nat):((List.range k).filterMap λ (m:Nat)=>xs[((i:Int)+(m:Int)*1).toNat]?).toArray=((xs.toList.drop i).take k).toArray:=by
 have e:(λ (m:Nat)=>xs[((i:Int)+(m:Int)*1).toNat]?)=λ m=>xs[i+m]?:=by
  funext m
  have:((i:Int)+(m:Int)*1).toNat=i+m:=by omega
  rw [this]
 rw [e];have:=pick_run xs i k;rw [List.filterMap_map] at this;have e2:((λ x=>xs[x]?) ∘ λ x=>i+x)=λ m=>xs[i+m]?:=rfl;rw [e2] at this;rw [this]
theorem getItem_tuple_cut {t sl:Addr} {items:Array Value} {vl vu:Value} {lo hi:Option Int} {Q:Value->Shared->Prop} (ht:IsTup s.heap t items) (hs:s.heap.IsSliceOf sl vl vu .none) (pl:IsPart vl lo) (pu:IsPart vu hi)
  (hw:¬ (sIx items.size 0 lo=0/\sIx items.size items.size hi=items.size))
  (h:Q (.ref s.heap.objs.size) { s with heap:=s.heap.push { cls:=.type "tuple",data:=.seq ((items.toList.drop (sIx items.size 0 lo)).take (sIx items.size items.size hi - sIx items.size 0 lo)).toArray } })
  (hsz:items.size<=sizeLine):wpAny (model prog w) A (getItem (.ref t) (.ref sl)) Q E s:=by
 have htake:sizeOk (.seq ((items.toList.drop (sIx items.size 0 lo)).take (sIx items.size items.size hi - sIx items.size 0 lo)).toArray):=by
  show ((items.toList.drop (sIx items.size 0 lo)).take (sIx items.size items.size hi - sIx items.size 0 lo)).toArray.size<=sizeLine;rw [zJ,List.length_take,List.length_drop,Array.length_toList];omega
 have hj:sIx items.size items.size hi<=items.size:=r_D _ _ (zL _) hi;obtain ⟨os,hos,hcs,hds⟩:=id hs;have hTs:s.TypeIs (.ref sl) "slice" := ⟨os,hos,hcs⟩;unfold getItem
 try with_reducible refine wpAny_holding ?_
 first | refine zA (zB ?_) | skip
 refine zA (wpAny_sequenceKey ht.typeIs (by decide) ?_);refine zA (wpAny_callSpecial?_slot (name:=Str.ofString "__getitem__") ht.typeIs PyProof.Rows.slot_tuple_getitem
  (wpAny_call_entry PyProof.Rows.slot_tuple_getitem ht.typeIs entry_tuple_getitem ?_ (args_tuple_getitem _ _)))
 show wpAny _ _ (Builtin.Tuple.tupleItemsOf (.ref t) >>= _) _ _ s;refine zA (tupleItemsOf_ ht ?_);refine zA (wpAny_typeOf hTs ?_);rw [if_pos (by decide)];refine zA (g_p hs pl pu ?_);have hno:¬ ((((sIx items.size 0 lo:Nat):Int) == 0 && (1:Int) == 1 && (sIx items.size items.size hi - sIx items.size 0 lo) == items.size)=true):=by
  intro q;rw [Bool.and_eq_true,Bool.and_eq_true] at q;have q1:((sIx items.size 0 lo:Nat):Int)=0:=eq_of_beq q.1.1;have q2:sIx items.size items.size hi - sIx items.size 0 lo=items.size:=eq_of_beq q.2;exact hw ⟨by omega,by omega⟩
 show wpAny _ _ (if (((sIx items.size 0 lo:Nat):Int) == 0 && (1:Int) == 1 && (sIx items.size items.size hi - sIx items.size 0 lo) == items.size)=true then _ else _) _ _ s;rw [if_neg hno,n_S]
 first
  | exact zA (m:=Builtin.Tuple.tupleExact _) (wpAny_newObj_type (zB ⟨_,rfl,zB h⟩) htake)
  | exact zA (m:=Builtin.Tuple.tupleExact _) (wpAny_newObj_type (zA (zB (zB ⟨_,rfl,zB h⟩))) htake)
  | exact zA (zA (m:=Builtin.Tuple.tupleExact _) (wpAny_newObj_type (zB (zB ⟨_,rfl,zB h⟩)) htake))
  | exact zA (zA (m:=Builtin.Tuple.tupleExact _) (wpAny_newObj_type (zB ⟨_,rfl,zB h⟩) htake))
end
end HT
namespace L2
open PySem PySem.Spec PyProof.Rows
open PySem.W (Frag)
noncomputable abbrev TO:=St->Hp->(Option Int->Hp->Prop)->Prop
noncomputable def PO (X:Cx) (e:Option Expr) (t:TO):Prop :=
 ∀ (pins:List (Addr × Obj)) (s:Shared) (σ:St) (H:Hp) (Q:Option Int->Hp->Prop),Inv X pins σ H s->t σ H Q ->
  wpAny (model X.prog X.w) X.A (evalPart e X.env) (λ u s'=>∃ o H',Inv X pins σ H' s'/\IsPart u o/\Q o H') X.xe s
noncomputable def e_Z:TO:=λ _ H Q=>Q none H
noncomputable def i_v (t:TE):TO:=λ σ H Q=>t σ H λ x H1=>∃ i,x=.int i/\Q (some i) H1
theorem h_B {ns:List Int}:∀ {us:List Value},Vals (ns.map V.int) us->IntsAre us ns:=by
 induction ns with
 | nil=>intro us r; rw [List.map_nil] at r; cases r; exact .nil
 | cons n ns ih =>
  intro us r;rw [List.map_cons] at r;cases r with
  | cons r1 r2 =>
   obtain ⟨t,e⟩:=r1;subst e;exact .cons n t (ih r2)
section
variable {X:Cx} {e:Expr} {te:TE} {lo hi:Option Expr} {tl th:TO} {pos p2:Pos}
theorem g_Q:PO X none e_Z:=by
 intro pins s σ H Q I h;rw [evalPart_none];exact zB ⟨none,H,I,.none,h⟩
theorem f_z (h:PE X e te):PO X (some e) (i_v te):=by
 intro pins s σ H Q I hw;rw [evalPart_some];refine thn (h pins s σ H _ I hw) λ u s1 ⟨x,H1,I1,r1,q1⟩=>?_;obtain ⟨i,rfl,q⟩:=q1;obtain ⟨t,rfl⟩:=r1;exact ⟨some i,H1,I1,.int i t,q⟩
noncomputable def SlR (X:Cx) (r:V->Option Int->Option Int->Hp->VK->Prop):Prop :=
 ∀ (pins:List (Addr × Obj)) (s:Shared) (σ:St) (H:Hp) (x:V) (v vl vu:Value) (lo hi:Option Int) (sl:Addr) (Q:VK),Inv X pins σ H s->RelV x v->s.heap.IsSliceOf sl vl vu .none->IsPart vl lo->IsPart vu hi->r x lo hi H Q ->
  ∃ T id,typeLookup (.type T) "__getitem__" = pure (some (.builtin id))/\s.TypeIs v T/\wpAny (model X.prog X.w) X.A (getItem v (.ref sl)) (EP X pins σ Q) X.xe s
noncomputable def tSl (r:V->Option Int->Option Int->Hp->VK->Prop) (te:TE) (tl th:TO):TE:=λ σ H Q=>te σ H λ x H1=>tl σ H1 λ l H2=>th σ H2 λ u H3=>r x l u H3 Q
theorem e_M {r:V->Option Int->Option Int->Hp->VK->Prop} (hr:SlR X r) (he:PE X e te) (hl:PO X lo tl) (hu:PO X hi th):PE X (.Subscript e (.Slice lo hi none p2) pos) (tSl r te tl th):=by
 intro pins s σ H Q I h;refine Subscript_ (thn (he pins s σ H _ I h) λ v s1 ⟨x,H1,I1,r1,q1⟩=>?_);refine wpAny_Slice (thn (hl pins s1 σ H1 _ I1 q1) λ vl s2 ⟨l,H2,I2,pl,q2⟩=>thn (hu pins s2 σ H2 _ I2 q2) λ vu s3 ⟨u,H3,I3,pu,q3⟩=>?_);rw [evalPart_none];refine zB ?_;have I4:Inv X pins σ H3 { s3 with heap:=s3.heap.push { cls:=.type "slice",data:=.fields #[vl,vu,.none] } }:=I3.kept (t':=s3.toks) λ b ob q=>zD _ q;obtain ⟨T,id,hT,ht,hg⟩:=hr pins { s3 with heap:=s3.heap.push { cls:=.type "slice",data:=.fields #[vl,vu,.none] } } σ H3 x v vl vu l u s3.heap.objs.size Q I4 r1 (Heap.IsSliceOf.new ..) pl pu q3;show wpAny (model X.prog X.w) X.A (subscriptTail e (.Slice lo hi none p2) v (.ref s3.heap.objs.size)) (EP X pins σ Q) X.xe { s3 with heap:=s3.heap.push { cls:=.type "slice",data:=.fields #[vl,vu,.none] } };exact tail_any (ops:=[.ref s3.heap.objs.size,v]) ht hT hg (by with_unfolding_all rfl)
noncomputable def cutV (xs:List V) (lo hi:Option Int):List V:=(xs.drop (HT.sIx xs.length 0 lo)).take (HT.sIx xs.length xs.length hi - HT.sIx xs.length 0 lo)
theorem g_H (xs:List V) (lo hi:Option Int):(cutV xs lo hi).length<=xs.length:=by
 unfold cutV;rw [List.length_take,List.length_drop];omega
noncomputable def rSlT (K:Frag):V->Option Int->Option Int->Hp->VK->Prop:=λ x lo hi H Q=>∃ a xs,x=.ref a/\SqT K H a xs /\
 ¬ (HT.sIx xs.length 0 lo=0/\HT.sIx xs.length xs.length hi=xs.length)/\∀ p,H p=none->Q (.ref p) (upd H p (.tup (cutV xs lo hi)))
theorem r_E:SlR X (rSlT X.K):=by
 intro pins s σ H x v vl vu lo hi sl Q I rx hs pl pu h;obtain ⟨a,xs,rfl,hx,hw,q⟩:=h;cases rx;obtain ⟨its,r,ht,hz⟩:=I.tuple hx;have hlen:its.toArray.size=xs.length:=by rw [zJ]; exact r.length.symm
 refine ⟨"tuple",_,PyProof.Rows.slot_tuple_getitem.lookup,ht.typeIs,?_⟩;refine HT.getItem_tuple_cut ht hs pl pu (by rw [hlen]; exact hw) ?_ (by rw [hlen]; exact hz);rw [hlen];refine ⟨.ref s.heap.objs.size,_,I.laid (t':=s.toks) (o:=.tup (cutV xs lo hi)) (λ b ob q=>zD _ q) (zL _) ?_,rfl,q _ (I.hok.fresh (zL _))⟩;exact ⟨zS (g_H xs lo hi) hz,_,(r.drop (HT.sIx xs.length 0 lo)).take (HT.sIx xs.length xs.length hi - HT.sIx xs.length 0 lo),IsTup.new _ _⟩
end
noncomputable def ixN (n:Nat) (i:Int):Option Nat:=if 0<=i then (if i < n then some i.toNat else none) else if -(n:Int)<=i then some (i+n).toNat else none
noncomputable def atI {α:Type} (xs:List α) (i:Int):Option α:=(ixN xs.length i).bind λ j=>xs[j]?
theorem j_d {n:Nat} {i:Int} {j:Nat} (h:ixN n i=some j):seqIndex? i n=some j/\j < n/\-(n:Int)<=i/\i < n:=by
 unfold ixN at h
 by_cases h0:0<=i
 ·rw [if_pos h0] at h
  by_cases h1:i < n
  ·rw [if_pos h1] at h;have e:i.toNat=j:=zT h;exact ⟨by rw [seqIndex_of h0 h1,e],by omega,by omega,h1⟩
  ·rw [if_neg h1] at h; cases h
 ·rw [if_neg h0] at h
  by_cases h1:-(n:Int)<=i
  ·rw [if_pos h1] at h;have e:(i+n).toNat=j:=zT h;exact ⟨by rw [seqIndex_neg (by omega) h1,e],by omega,h1,by omega⟩
  ·rw [if_neg h1] at h; cases h
theorem l_o {α:Type} {xs:List α} {i:Int} {v:α} (h:atI xs i=some v):∃ j,seqIndex? i xs.length=some j/\xs[j]?=some v/\j < xs.length/\-(xs.length:Int)<=i/\i < xs.length:=by
 unfold atI at h;cases e:ixN xs.length i with
 | none=>rw [e] at h; cases h
 | some j =>
  rw [e] at h;obtain ⟨h1,h2,h3,h4⟩:=j_d e;exact ⟨j,h1,h,h2,h3,h4⟩
theorem p_T {α:Type} {xs:List α} {j:Nat} {v:α} (h:xs[j]?=some v):atI xs (j:Int)=some v:=by
 have hj:j < xs.length:=(List.getElem?_eq_some_iff.mp h).1;have e:ixN xs.length (j:Int)=some j:=by
  unfold ixN;rw [if_pos (by omega),if_pos (by omega)]; simp
 unfold atI; rw [e]; exact h
noncomputable def l_p (b:Expr):Prop:=∀ o i,subscripted b false o i=operate [o,i] (getItem o i)
noncomputable def IxR (X:Cx) (r:R2):Prop :=
 ∀ (value slice:Expr) (pins:List (Addr × Obj)) (s:Shared) (σ:St) (H:Hp) (x y:V) (v u:Value) (Q:VK),Inv X pins σ H s->RelV x v->RelV y u->r x y H Q ->
  subscripted slice false v u=operate [v,u] (getItem v u)->wpAny (model X.prog X.w) X.A (subscriptTail value slice v u) (EP X pins σ Q) X.xe s
noncomputable def MtR (X:Cx) (id:String) (r:V->List V->Hp->VK->Prop):Prop :=
 ∀ (pins:List (Addr × Obj)) (s:Shared) (σ:St) (H:Hp) (x:V) (xs:List V) (v:Value) (us:List Value) (Q:VK),Inv X pins σ H s->RelV x v->Vals xs us->r x xs H Q ->
  wpAny (model X.prog X.w) X.A (call (.builtin id) (v :: us)) (EP X pins σ Q) X.xe s
section
variable {X:Cx} {a b:Expr} {ta tb:TE} {pos:Pos}
theorem s_L {r:R2} (hr:IxR X r) (ha:PE X a ta) (hb:PE X b tb) (hs:l_p b):PE X (.Subscript a b pos) (tOp r ta tb):=by
 intro pins s σ H Q I h;exact Subscript_ (binT ha hb I h λ v u s2 x y H2 I2 rx ry q=>hr a b pins s2 σ H2 x y v u Q I2 rx ry q (hs _ _))
noncomputable def rIxL (K:Frag):R2:=λ x y H Q=>∃ p xs i v,x=.ref p/\y=.int i/\SqL K H p xs/\atI xs i=some v/\Q v H
noncomputable def rIxT (K:Frag):R2:=λ x y H Q=>∃ p xs i v,x=.ref p/\y=.int i/\SqT K H p xs/\atI xs i=some v/\Q v H
theorem p_U:IxR X (rIxL X.K):=by
 intro value slice pins s σ H x y v u Q I rx ry h hs;obtain ⟨p,xs,i,z,rfl,rfl,hq,he,q⟩:=h;cases rx;obtain ⟨t,rfl⟩:=ry;obtain ⟨its,r,pl,hz⟩:=I.list hq;obtain ⟨j,h1,h2,h3,h4,h5⟩:=l_o he;obtain ⟨w,ew,rw'⟩:=r.get h2;have hl:=r.length;have hn:=j_b;have fin:EP X pins σ Q w s:=⟨z,H,I,rw',q⟩
 by_cases h0:0<=i
 ·have hj:i.toNat=j:=by
   rw [seqIndex_of h0 h5] at h1;exact zT h1
  exact item_listR pl.isList h0 (by omega) (by rw [hj]; simpa using ew) fin hs
 ·have hj:(i+(its.toArray.size:Int)).toNat=j:=by
   rw [seqIndex_neg (by omega) h4] at h1;rw [zJ,← hl];exact zT h1
  exact subscriptTail_builtinR (x:=w) pl.isList.typeIs slot_list_getitem.lookup
   (wpAny_getItem_list_neg (Q:=λ r s'=>r=w/\EP X pins σ Q r s') pl.isList (by omega) (by rw [zJ] <;> omega) (by omega) (by rw [hj]; simpa using ew) ⟨rfl,fin⟩) hs
theorem r_F:IxR X (rIxT X.K):=by
 intro value slice pins s σ H x y v u Q I rx ry h hs;obtain ⟨p,xs,i,z,rfl,rfl,hq,he,q⟩:=h;cases rx;obtain ⟨t,rfl⟩:=ry;obtain ⟨its,r,pl,hz⟩:=I.tuple hq;obtain ⟨j,h1,h2,h3,h4,h5⟩:=l_o he;obtain ⟨w,ew,rw'⟩:=r.get h2;have hl:=r.length;have hn:=j_b;have fin:EP X pins σ Q w s:=⟨z,H,I,rw',q⟩;exact subscriptTail_builtinR (x:=w) pl.typeIs slot_tuple_getitem.lookup
  (getItem_tuple (j:=j) (Q:=λ r s'=>r=w/\EP X pins σ Q r s') pl (by omega) (by omega) (by rw [zJ,← hl]; exact h1) (by simpa using ew) ⟨rfl,fin⟩) hs
theorem k_E (its:List Value) (n j:Nat) (u:Value):Obj.mapSeq (·.setIfInBounds j u) { cls:=.type "list",data:=.seq its.toArray n }={ cls:=.type "list",data:=.seq (its.set j u).toArray n }:=by
 simp [Obj.mapSeq]
theorem Inv.lst {pins:List (Addr × Obj)} {σ:St} {H:Hp} {s:Shared} {p:Addr} {xs:List V} (I:Inv X pins σ H s) (h:H p=some (.lst xs)) :
  ∃ (its:List Value) (n:Nat),Vals xs its/\s.heap.get? p=some { cls:=.type "list",data:=.seq its.toArray n }/\xs.length<=sizeLine:=by
 obtain ⟨z,its,n,r,e⟩:=I.hok p _ h;exact ⟨its,n,r,e,z⟩
theorem Inv.lstUpd {pins:List (Addr × Obj)} {σ:St} {H:Hp} {s:Shared} {p:Addr} {xs ys:List V} {its its':List Value} {n n':Nat} {f:Obj->Obj} (I:Inv X pins σ H s) (h:H p=some (.lst xs))
  (ho:s.heap.get? p=some { cls:=.type "list",data:=.seq its.toArray n }) (hf:f { cls:=.type "list",data:=.seq its.toArray n }={ cls:=.type "list",data:=.seq its'.toArray n' }) (r:Vals ys its') (hz:ys.length<=sizeLine) (t:Nat) :
  Inv X pins σ (upd H p (.lst ys)) { s with heap:=s.heap.update p f,toks:=t }:=by
 have e:(s.heap.update p f).get? p=some { cls:=.type "list",data:=.seq its'.toArray n' }:=by
  rw [Heap.get?_update_self f ho (by rw [hf] <;> rfl),hf]
 refine I.write (x:=p) (e:=p) (by rw [h]; trivial) (.inl rfl) (λ b u hb q=>(Heap.get?_update_other _ _ (Ne.symm hb)).trans q) ⟨_,e⟩ ?_;exact ⟨hz,its',n',r,e⟩
noncomputable def f_T:V->V->V->Hp->(Hp->Prop)->Prop:=λ o i v H Q=>∃ p xs k j,o=.ref p/\i=.int k/\H p=some (.lst xs)/\ixN xs.length k=some j/\Q (upd H p (.lst (xs.set j v)))
theorem d_I:PSet X f_T:=by
 intro pins s σ H o i v ov iv u Q I ro ri rv h;obtain ⟨p,xs,k,j,rfl,rfl,hp,hj,q⟩:=h;cases ro;obtain ⟨t,rfl⟩:=ri;obtain ⟨its,n,r,ho,hz⟩:=I.lst hp;obtain ⟨h1,h2,h3,h4⟩:=j_d hj;have hl:=r.length;have hn:=j_b;have I':Inv X pins σ (upd H p (.lst (xs.set j v))) { s with heap:=s.heap.update p (Obj.mapSeq (·.setIfInBounds j u)) } :=
  I.lstUpd hp ho (k_E its n j u) (r.set rv j) (by rw [yB]; exact hz) s.toks
 by_cases h0:0<=k
 ·have hk:k.toNat=j:=by
   rw [seqIndex_of h0 h4] at h1;exact zT h1
  exact PySem.W.ki_setAt ho h0 (by omega) (by rw [zJ,← hl]; exact h4) (by rw [hk]; exact ⟨_,I',q⟩)
 ·have hk:(k+(its.toArray.size:Int)).toNat=j:=by
   rw [seqIndex_neg (by omega) h3] at h1;rw [zJ,← hl];exact zT h1
  exact PySem.W.ki_setBack ho (by omega) (by rw [zJ,← hl]; exact h3) (by omega) (by rw [hk]; exact ⟨_,I',q⟩)
theorem j_e (lo hi:Option Int) (n:Nat):(sliceBounds lo hi none n).1=((HT.sIx n 0 lo:Nat):Int)/\(sliceBounds lo hi none n).2.1=((HT.sIx n n hi:Nat):Int)/\(sliceBounds lo hi none n).2.2=1:=by
 refine ⟨?_,?_,rfl⟩
 ·cases lo with
  | none=>simp [sliceBounds,HT.sIx]
  | some i =>
   simp only [sliceBounds,HT.sIx,Option.getD_none,show (1:Int) > 0 by decide,if_true]
   by_cases h:i < 0
   ·simp only [h,if_true] <;> omega
   ·simp only [h,if_false] <;> omega
 ·cases hi with
  | none=>simp [sliceBounds,HT.sIx]
  | some i =>
   simp only [sliceBounds,HT.sIx,Option.getD_none,show (1:Int) > 0 by decide,if_true]
   by_cases h:i < 0
   ·simp only [h,if_true] <;> omega
   ·simp only [h,if_false] <;> omega
theorem i_j (its:List Value) (lo hi:Option Int):slicePick its.toArray lo hi none=((its.drop (HT.sIx its.length 0 lo)).take (HT.sIx its.length its.length hi - HT.sIx its.length 0 lo)).toArray:=by
 obtain ⟨h1,h2,h3⟩:=j_e lo hi its.toArray.size;unfold slicePick;rw [h1,h2,h3];simp only [sliceRange_one,pick_run,zJ] <;> rfl
noncomputable def rSlL (K:Frag):V->Option Int->Option Int->Hp->VK->Prop:=λ x lo hi H Q=>∃ a xs,x=.ref a/\SqL K H a xs/\∀ p,H p=none->Q (.ref p) (upd H p (.lst (cutV xs lo hi)))
theorem p_V:SlR X (rSlL X.K):=by
 intro pins s σ H x v vl vu lo hi sl Q I rx hs pl pu h;obtain ⟨a,xs,rfl,hx,q⟩:=h;cases rx;obtain ⟨its,r,ht,hz⟩:=I.list hx;have hlen:=r.length;refine ⟨"list",_,slot_list_getitem.lookup,ht.isList.typeIs,?_⟩;refine wpAny_getItem_list_slice ht.isList hs pl pu .none (by simp) ?_ (by rw [zJ] <;> omega);rw [i_j,← hlen];refine ⟨.ref s.heap.objs.size,_,I.laid (t':=s.toks) (o:=.lst (cutV xs lo hi)) (λ b ob q=>zD _ q) (zL _) ?_,rfl,q _ (I.hok.fresh (zL _))⟩;exact ⟨zS (g_H xs lo hi) hz,_,0,(r.drop (HT.sIx xs.length 0 lo)).take (HT.sIx xs.length xs.length hi - HT.sIx xs.length 0 lo),zF _ rfl⟩
noncomputable def g_I:V->Bool
 | .non=>true
 | .bl _=>true
 | .int _=>true
 | .str _=>true
 | _=>false
noncomputable def eqV:V->V->Bool
 | .non,.non=>true
 | .bl a,.bl b=>a == b
 | .bl a,.int b=>(if a then 1 else 0) == b
 | .int a,.bl b=>a == (if b then 1 else 0)
 | .int a,.int b=>a == b
 | .str a,.str b=>a == b
 | _,_=>false
theorem r_G {A:Around} {s:Shared} {y x:V} {u v:Value} (ry:RelV y u) (rx:RelV x v) (fy:g_I y=true) (fx:g_I x=true):SeqAt.EqAt A s u v (eqV y x):=by
 cases y with
 | non =>
  cases ry;cases x with
  | non=>cases rx; exact SeqAt.EqAt.same _
  | bl b=>cases rx; exact SeqAt.EqAt.none_bool b
  | int b=>obtain ⟨t,rfl⟩:=rx; exact SeqAt.EqAt.none_int b t
  | str b=>obtain ⟨t,rfl⟩:=rx; exact SeqAt.EqAt.none_str b t
  | _=>exact yJ (show false=true from fx) zV
 | bl a =>
  cases ry;cases x with
  | non=>cases rx; exact SeqAt.EqAt.bool_none a
  | bl b=>cases rx; exact SeqAt.EqAt.bool_bool a b
  | int b=>obtain ⟨t,rfl⟩:=rx; exact SeqAt.EqAt.bool_int a b t
  | str b=>obtain ⟨t,rfl⟩:=rx; exact SeqAt.EqAt.bool_str a b t
  | _=>exact yJ (show false=true from fx) zV
 | int a =>
  obtain ⟨t',rfl⟩:=ry;cases x with
  | non=>cases rx; exact SeqAt.EqAt.int_none a t'
  | bl b=>cases rx; exact SeqAt.EqAt.int_bool a t' b
  | int b=>obtain ⟨t,rfl⟩:=rx; exact SeqAt.EqAt.int_int a t' b t
  | str b=>obtain ⟨t,rfl⟩:=rx; exact SeqAt.EqAt.int_str a t' b t
  | _=>exact yJ (show false=true from fx) zV
 | str a =>
  obtain ⟨t',rfl⟩:=ry;cases x with
  | non=>cases rx; exact SeqAt.EqAt.str_none a t'
  | bl b=>cases rx; exact SeqAt.EqAt.str_bool a t' b
  | int b=>obtain ⟨t,rfl⟩:=rx; exact SeqAt.EqAt.str_int a t' b t
  | str b=>obtain ⟨t,rfl⟩:=rx; exact SeqAt.EqAt.str_str a t' b t
  | _=>exact yJ (show false=true from fx) zV
 | _=>exact yJ (show false=true from fy) zV
noncomputable def eqU (x:V) (u:Value):Bool:=match u with
 | .none=>eqV .non x
 | .bool b=>eqV (.bl b) x
 | .int i _=>eqV (.int i) x
 | .str z _=>eqV (.str z) x
 | _=>false
theorem n_T {x y:V} {u:Value} (r:RelV y u) (f:g_I y=true):eqU x u=eqV y x:=by
 cases y with
 | non=>cases r; rfl
 | bl b=>cases r; rfl
 | int i=>obtain ⟨t,rfl⟩:=r; rfl
 | str z=>obtain ⟨t,rfl⟩:=r; rfl
 | _=>exact yJ (show false=true from f) zV
theorem j_f {x:V}:∀ {xs:List V} {us:List Value},Vals xs us->xs.all g_I=true->us.any (eqU x)=xs.any λ y=>eqV y x
 | _,_,.nil,_=>rfl
 | y :: xs,u :: us,.cons r t,f=>by
  rw [List.all_cons,Bool.and_eq_true] at f;rw [List.any_cons,List.any_cons,n_T r f.1,j_f t f.2]
theorem h_C {A:Around} {s:Shared} {x:V} {v:Value} (rx:RelV x v) (fx:g_I x=true):∀ {xs:List V} {us:List Value},Vals xs us->xs.all g_I=true->∀ u∈us,SeqAt.EqAt A s u v (eqU x u)
 | _,_,.nil,_=>λ u hu=>by cases hu
 | y :: xs,u :: us,.cons r t,f=>λ u' hu=>by
  rw [List.all_cons,Bool.and_eq_true] at f;rcases List.mem_cons.mp hu with rfl | hu
  ·rw [n_T r f.1]; exact r_G r rx f.1 fx
  ·exact h_C rx fx t f.2 u' hu
noncomputable def inV (x:V) (xs:List V):Bool:=xs.any λ y=>eqV y x
noncomputable def rIn (K:Frag) (neg:Bool):R2:=λ x y H Q=>∃ p xs,y=.ref p/\(SqL K H p xs\/SqT K H p xs)/\g_I x=true/\xs.all g_I=true/\Q (.bl (if neg then !inV x xs else inV x xs)) H
theorem f_U:OpR X (compareOp .NotIn) (rIn X.K true):=by
 intro pins s σ H x y v u Q I rx ry h;obtain ⟨p,xs,rfl,hq,fx,fs,q⟩:=h;cases ry;rcases hq with hq | hq
 ·obtain ⟨its,r,pl,hz⟩:=I.list hq;refine SeqAt.notIn_listAt (eqU x) pl.isList (λ w hw=>h_C rx fx r fs w (by simpa using hw)) ⟨.bl _,H,I,rfl,?_⟩;rw [show its.toArray.any (eqU x)=its.any (eqU x) by simp,j_f r fs];exact q
 ·obtain ⟨its,r,pl,hz⟩:=I.tuple hq;refine SeqAt.notIn_tupleAt (eqU x) pl (λ w hw=>h_C rx fx r fs w (by simpa using hw)) ⟨.bl _,H,I,rfl,?_⟩;rw [show its.toArray.any (eqU x)=its.any (eqU x) by simp,j_f r fs];exact q
theorem j_g:e_m X (.builtin "len") (λ xs H Q=>∃ p ys,xs=[.ref p]/\(SqL X.K H p ys\/SqT X.K H p ys)/\Q (.int ys.length) H):=by
 intro pins s σ H xs us Q I r h;obtain ⟨p,ys,rfl,hq,q⟩:=h;obtain ⟨u,rfl,rx⟩:=d_Y r;cases rx;have hn:=j_b;rcases hq with hq | hq
 ·obtain ⟨its,r',pl,hz⟩:=I.list hq;have hlen:=r'.length;exact Calls.call_len_list pl.isList (by simp only [zJ] <;> omega) ⟨.int ys.length,H,I.tok _,⟨s.toks+1,by rw [zJ,hlen]⟩,q⟩
 ·obtain ⟨its,r',pl,hz⟩:=I.tuple hq;have hlen:=r'.length;exact len_tuple pl (by simp only [zJ] <;> omega) ⟨.int ys.length,H,I.tok _,⟨s.toks+1,by rw [zJ,hlen]⟩,q⟩
theorem j_h:e_m X (.type "list") (λ xs H Q=>∃ p ys,xs=[.ref p]/\(SqL X.K H p ys\/SqT X.K H p ys)/\∀ l,H l=none->Q (.ref l) (upd H l (.lst ys))):=by
 intro pins s σ H xs us Q I r h;obtain ⟨p,ys,rfl,hq,q⟩:=h;obtain ⟨u,rfl,rx⟩:=d_Y r;cases rx;have fin:∀ (its:List Value),Vals ys its->ys.length<=sizeLine->∀ (h':Heap) (c':Nat),(∀ b o',s.heap.get? b=some o'->h'.get? b=some o') ->
   h'.get? s.heap.objs.size=some { cls:=.type "list",dict:=none,data:=.seq its.toArray c',slots:=#[] }->EP X pins σ Q (.ref s.heap.objs.size) { s with heap:=h' }:=λ its r' hz h' c' kp e =>
  ⟨.ref s.heap.objs.size,_,I.laid (t':=s.toks) kp (zL _) (show c_v X.prog X.w _ h' _ (.lst ys) from ⟨hz,its,c',r',e⟩),rfl,q _ (I.hok.fresh (zL _))⟩
 rcases hq with hq | hq
 ·obtain ⟨its,r',pl,hz⟩:=I.list hq;have hlen:=r'.length;obtain ⟨o,ho,hc,n,hd⟩:=pl.isList;exact call_list_seq p (.inl rfl) ho hc hd (λ h' c' kp e=>fin its r' hz h' c' kp e) (by simp only [zJ] <;> omega)
 ·obtain ⟨its,r',pl,hz⟩:=I.tuple hq;have hlen:=r'.length;obtain ⟨o,ho,hc,n,hd⟩:=pl;exact call_list_seq p (.inr rfl) ho hc hd (λ h' c' kp e=>fin its r' hz h' c' kp e) (by simp only [zJ] <;> omega)
theorem i_k:e_m X (.type "tuple") (λ xs H Q=>∃ p ys,xs=[.ref p]/\((SqL X.K H p ys/\∀ l,H l=none->Q (.ref l) (upd H l (.tup ys)))\/(SqT X.K H p ys/\Q (.ref p) H))):=by
 intro pins s σ H xs us Q I r h;obtain ⟨p,ys,rfl,h⟩:=h;obtain ⟨u,rfl,rx⟩:=d_Y r;cases rx;rcases h with ⟨hq,q⟩ | ⟨hq,q⟩
 ·obtain ⟨its,r',pl,hz⟩:=I.list hq;have hlen:=r'.length;refine call_tuple_list pl.isList (λ h' kp=>?_) (by simp only [zJ] <;> omega);have I1:Inv X pins σ H { s with heap:=h' }:=I.kept (t':=s.toks) kp;have I2:Inv X pins σ (upd H h'.objs.size (.tup ys)) { s with heap:=h'.push { cls:=.type "tuple",data:=.seq its.toArray } } :=
   I1.laid (t':=s.toks) (λ b o e=>zD _ e) (zL _) (show c_v X.prog X.w _ _ _ (.tup ys) from ⟨hz,its,r',IsTup.new _ _⟩)
  exact ⟨.ref h'.objs.size,_,I2,rfl,q _ (I1.hok.fresh (zL _))⟩
 ·obtain ⟨its,r',pl,hz⟩:=I.tuple hq;exact call_tuple_same pl ⟨.ref p,H,I,rfl,q⟩
noncomputable def tyV (K:Frag) (T:String) (x:V) (H:Hp):Prop:=match x with
 | .str _=>T = "str"
 | .int _=>T = "int"
 | .ref p=>(T = "list" /\ ∃ xs,SqL K H p xs)\/(T = "tuple" /\ ∃ o,K.lookup p=some o/\o.cls=.type "tuple" /\ o.dict=none) \/
   (T = "dict" /\ ((∃ kvs,H p=some (.dK kvs))\/∃ kvs,H p=some (.dT kvs)))\/(T = "set" /\ ∃ S n,H p=some (.set S n))
 | _=>False
theorem r_H {pins:List (Addr × Obj)} {σ:St} {H:Hp} {s:Shared} {T:String} {x:V} {v:Value} (I:Inv X pins σ H s) (r:RelV x v) (ty:tyV X.K T x H) :
  s.TypeIs v T/\∀ a,v=.ref a->∃ ob,s.heap.get? a=some ob/\ob.dict=none:=by
 cases x with
 | str z =>
  obtain ⟨t,rfl⟩:=r;cases (show T = "str" from ty);exact ⟨typeIs_str s z t,λ _ e=>nomatch e⟩
 | int i =>
  obtain ⟨t,rfl⟩:=r;cases (show T = "int" from ty);exact ⟨typeIs_int s i t,λ _ e=>nomatch e⟩
 | ref p =>
  cases r;rcases ty with ⟨rfl,xs,hq⟩ | ⟨rfl,o,hk,hc,hd⟩ | ⟨rfl,hk⟩ | ⟨rfl,S,n,hk⟩
  ·obtain ⟨its,_,pl,_⟩:=I.list hq;refine ⟨pl.isList.typeIs,λ a e=>?_⟩;cases e;obtain ⟨o,n,e,c,hd,_⟩:=pl;exact ⟨o,e,hd⟩
  ·refine ⟨⟨o,I.kIn p o hk,hc⟩,λ a e=>?_⟩;cases e;exact ⟨o,I.kIn _ o hk,hd⟩
  ·have z:∃ o,s.heap.get? p=some o/\o.ExactDict:=by
    rcases hk with ⟨kvs,hk⟩ | ⟨kvs,hk⟩
    ·obtain ⟨_,_,_,_,o,_,_,e,ex,_⟩:=I.hok p _ hk;exact ⟨o,e,ex⟩
    ·obtain ⟨_,_,_,_,o,_,_,e,ex,_⟩:=I.hok p _ hk;exact ⟨o,e,ex⟩
   obtain ⟨o,e,ex⟩:=z;refine ⟨⟨o,e,ex.1⟩,λ a e2=>?_⟩;cases e2;exact ⟨o,e,ex.2.1⟩
  ·obtain ⟨o,_,_,_,e,ex,_⟩:=I.hok p _ hk;refine ⟨⟨o,e,ex.1⟩,λ a e2=>?_⟩;cases e2;exact ⟨o,e,ex.2.1⟩
 | _=>exact False.elim ty
noncomputable def tBM (K:Frag) (T:String) (r:V->List V->Hp->VK->Prop) (to:TE) (t:TA):TE:=λ σ H Q=>to σ H λ x H1=>tyV K T x H1/\t σ H1 λ xs H2=>r x xs H2 Q
variable {o e:Expr} {es:List Expr} {to:TE} {t:TA} {name:Str} {apos cpos:Pos} {T id:String} {r:V->List V->Hp->VK->Prop}
theorem j_J (pa:PlainAttrs T) (slot:Slot T name id) (hty:typeOf (.builtin id)=pure (.type "method_descriptor")) (hm:MtR X id r) (ho:PE X o to) (ha:PA X (e :: es) t)
  (hbase:attributeBase o name X.env (eval o X.env)=eval o X.env:=by rfl)
  (hfew:((backTo cpos (starEach (e :: es) X.env)).all (λ x=>!x.1) && (backToKw cpos (keywordEach [] X.env)).all (λ x=>x.1.isSome)
   && decide ((e :: es).length+([]:List Keyword).length+(if ([]:List Keyword).isEmpty then 0 else 1) < 30))=true:=by rfl)
  (hline:(apos.endLine == cpos.line)=true:=by rfl) (hs:starEach (e :: es) X.env=(false,eval e X.env) :: starEach es X.env:=by rfl) (hplain:(backTo cpos (starEach es X.env)).any (·.1)=false:=by rfl) :
  PE X (.Call (.Attribute o name apos) (e :: es) [] cpos) (tBM X.K T r to t):=by
 intro pins s σ H Q I h;refine wpAny_Call_method_late hbase hfew hline rfl (thn (ho pins s σ H _ I h) λ v s1 ⟨x,H1,I1,r1,ty,q1⟩=>?_);obtain ⟨h1,h2⟩:=r_H I1 r1 ty;refine ⟨T,id,pa,slot,hty,h1,h2,?_⟩;have hA:=ha cpos pins s1 σ H1 _ I1 q1;rw [hs] at hA ⊢;refine Calls.callWith_builtin (by show (false || (backTo cpos (starEach es X.env)).any (·.1))=false; rw [hplain] <;> rfl) (Calls.evalArgs_plain ?_);exact thn hA λ us s2 ⟨vs,H2,I2,r2,q2⟩=>hm pins s2 σ H2 x vs v us Q I2 r1 r2 q2
end
noncomputable def MtM (X:Cx) (id:String) (r:V->List V->Hp->VK->Prop):Prop :=
 ∀ (pins:List (Addr × Obj)) (s:Shared) (σ:St) (H:Hp) (x:V) (xs:List V) (v:Value) (us:List Value) (Q:VK),Inv X pins σ H s->RelV x v->Vals xs us->r x xs H Q ->
  wpAny (model X.prog X.w) X.A (call (.builtin id) (v :: us)) (EP X pins σ Q) X.xe s
theorem Vals.one:∀ {x:V} {us:List Value},Vals [x] us->∃ u,us=[u]/\RelV x u
 | _,_,.cons r .nil=>⟨_,rfl,r⟩
theorem Vals.eraseIdx:∀ {xs:List V} {us:List Value} (i:Nat),Vals xs us->Vals (xs.eraseIdx i) (us.eraseIdx i)
 | _,_,_,.nil=>.nil
 | _,_,0,.cons _ t=>t
 | _,_,i+1,.cons r t=>.cons r (Vals.eraseIdx i t)
theorem Vals.rep {xs:List V} {us:List Value} (h:Vals xs us):∀ k:Nat,Vals (List.replicate k xs).flatten (List.replicate k us).flatten
 | 0=>.nil
 | k+1=>by
  rw [List.replicate_succ,List.replicate_succ,List.flatten_cons,List.flatten_cons];exact Vals.append h (Vals.rep h k)
theorem i_w {α:Type}:∀ (l:List α) (i:Nat),(l.eraseIdx i).length<=l.length
 | [],_=>zL _
 | _ :: _,0=>Nat.le_succ _
 | _ :: r,i+1=>Nat.succ_le_succ (i_w r i)
theorem i_x (its:List Value):∀ (k:Nat) (acc:List Value),
  List.foldl (λ x1 x2=>x1++x2) acc.toArray (List.replicate k its.toArray)=(acc++(List.replicate k its).flatten).toArray
 | 0,acc=>by simp
 | k+1,acc=>by
  have e:acc.toArray++its.toArray=(acc++its).toArray:=by simp
  have e2:(acc++its)++(List.replicate k its).flatten=acc++(List.replicate (k+1) its).flatten:=by
   rw [List.replicate_succ,List.flatten_cons,List.append_assoc]
  rw [← e2,← i_x its k (acc++its),← e,List.replicate_succ,List.foldl_cons]
section
variable {X:Cx} {pins:List (Addr × Obj)} {σ:St} {H:Hp} {s:Shared} {l b:Addr} {xs ys zs:List V}
theorem Inv.lset {its its':List Value} {n:Nat} {f:Array Value->Array Value} {t':Nat} (I:Inv X pins σ H s) (hH:H l=some (.lst xs))
  (e:s.heap.get? l=some { cls:=.type "list",data:=.seq its.toArray n }) (hf:f its.toArray=its'.toArray) (hv:Vals ys its') (hz:ys.length<=sizeLine) :
  Inv X pins σ (upd H l (.lst ys)) { s with heap:=s.heap.update l (Obj.mapSeq f),toks:=t' }:=by
 have q:=PySem.IsL.update e f;rw [hf] at q;refine I.write (x:=l) (e:=l) (by rw [hH]; exact trivial) (.inl rfl) (λ b' u hb hu=>(Heap.get?_update_other s.heap (Obj.mapSeq f) (Ne.symm hb)).trans hu) ⟨_,q⟩ ?_;exact ⟨hz,its',_,hv,q⟩
theorem Inv.lnew {its:List Value} {t':Nat} (I:Inv X pins σ H s) (hv:Vals ys its) (hz:ys.length<=sizeLine) :
  Inv X pins σ (upd H s.heap.objs.size (.lst ys)) { s with heap:=s.heap.push { cls:=.type "list",data:=.seq its.toArray },toks:=t' } :=
 I.laid (λ _ _ q=>zD _ q) (zL _) ⟨hz,its,0,hv,zF _ rfl⟩
theorem Inv.fresh (I:Inv X pins σ H s):H s.heap.objs.size=none:=I.hok.fresh (zL _)
theorem Inv.lstM (I:Inv X pins σ H s) (hH:H l=some (.lst xs)):xs.length<=sizeLine/\∃ (its:List Value) (n:Nat),Vals xs its/\xs.length=its.length/\s.heap.get? l=some { cls:=.type "list",data:=.seq its.toArray n }:=by
 obtain ⟨z,its,n,r,e⟩:=I.hok l _ hH;exact ⟨z,its,n,r,r.length,e⟩
theorem n_U {n:Nat} (h:n<=sizeLine):Builtin.List.listTooLong n=false:=by
 unfold Builtin.List.listTooLong;exact zX (by omega)
end
section
variable {X:Cx}
noncomputable def p_W:V->List V->Hp->VK->Prop:=λ x vs H Q=>∃ l xs y,x=.ref l/\vs=[y]/\H l=some (.lst xs)/\xs.length < sizeLine/\Q .non (upd H l (.lst (xs++[y])))
theorem e_p:MtM X "list.append" p_W:=by
 intro pins s σ H x vs v us Q I rx rv h;obtain ⟨l,xs,y,rfl,rfl,hH,hz,q⟩:=h;cases rx;obtain ⟨u,rfl,ru⟩:=rv.one;obtain ⟨z,its,n,r,hl,e⟩:=I.lstM hH;refine call_meets F.slot_list_append ⟨_,e,rfl⟩ F.entry_list_append (F.args_list_append_2 _ _) (PySem.list_append l its.toArray n u (by rw [zJ]; omega)) ⟨e,?_⟩;refine ⟨.non,_,I.lset (its':=its++[u]) hH e (by simp) (r.append (.cons ru .nil)) ?_,rfl,q⟩;rw [List.length_append,List.length_singleton];omega
noncomputable def n_V:V->List V->Hp->VK->Prop:=λ x vs H Q=>∃ l xs i k y,x=.ref l/\vs=[.int i]/\H l=some (.lst xs)/\-(2 ^ 63)<=i/\i < 2 ^ 63/\seqIndex? i xs.length=some k/\xs[k]?=some y/\Q y (upd H l (.lst (xs.eraseIdx k)))
theorem n_W:MtM X "list.pop" n_V:=by
 intro pins s σ H x vs v us Q I rx rv h;obtain ⟨l,xs,i,k,y,rfl,rfl,hH,h1,h2,hk,hy,q⟩:=h;cases rx;obtain ⟨u,rfl,ru⟩:=rv.one;obtain ⟨t,rfl⟩:=ru;obtain ⟨z,its,n,r,hl,e⟩:=I.lstM hH;obtain ⟨w,hw,rw'⟩:=r.get hy;refine call_meets F.slot_list_pop ⟨_,e,rfl⟩ F.entry_list_pop (F.args_list_pop_2 _ _)
  (MeetsSeq.list_pop_at l its.toArray n i t k w (fitsIndex_both h1 h2) (by rw [zJ,← hl]; exact hk) (by rw [← Array.getElem?_toList]; exact hw) (by rw [zJ]; omega)) ⟨e,?_⟩
 refine ⟨y,_,I.lset (its':=its.eraseIdx k) hH e ?_ (r.eraseIdx k) ?_,rw',q⟩
 ·show its.toArray.eraseIdxIfInBounds k=(its.eraseIdx k).toArray;rw [List.eraseIdxIfInBounds_toArray]
 ·have:=i_w xs k;omega
noncomputable def rCat:R2:=λ x y H Q=>∃ l b xs zs,x=.ref l/\y=.ref b/\H l=some (.lst xs)/\H b=some (.lst zs)/\xs.length+zs.length<=sizeLine/\∀ p,H p=none->Q (.ref p) (upd H p (.lst (xs++zs)))
theorem k_F:OpR X (binaryOp .Add) rCat:=by
 intro pins s σ H x y v u Q I rx ry h;obtain ⟨l,b,xs,zs,rfl,rfl,hH,hB,hz,q⟩:=h;cases rx;cases ry;obtain ⟨z,its,n,r,hl,e⟩:=I.lstM hH;obtain ⟨z2,its2,n2,r2,hl2,e2⟩:=I.lstM hB;refine PySem.P.add_list e e2 ?_ (by rw [zJ,zJ]; omega);have ea:its.toArray++its2.toArray=(its++its2).toArray:=by simp
 rw [ea];exact ⟨.ref _,_,I.lnew (t':=s.toks) (r.append r2) (by rw [List.length_append]; omega),rfl,q _ I.fresh⟩
noncomputable def rRep:R2:=λ x y H Q=>∃ l k xs,x=.ref l/\y=.int k/\H l=some (.lst xs)/\-(2 ^ 63)<=k/\k < 2 ^ 63/\xs.length*k.toNat<=sizeLine /\
 ∀ p,H p=none->Q (.ref p) (upd H p (.lst (List.replicate k.toNat xs).flatten))
theorem p_X {α:Type} (xs:List α) (k:Nat):(List.replicate k xs).flatten.length=k*xs.length:=by
 induction k with
 | zero=>simp
 | succ k ih=>rw [List.replicate_succ,List.flatten_cons,List.length_append,ih,Nat.succ_mul,Nat.add_comm]
theorem n_X:OpR X (binaryOp .Mult) rRep:=by
 intro pins s σ H x y v u Q I rx ry h;obtain ⟨l,k,xs,rfl,rfl,hH,h1,h2,hz,q⟩:=h;cases rx;obtain ⟨t,rfl⟩:=ry;obtain ⟨z,its,n,r,hl,e⟩:=I.lstM hH;have hlen:its.toArray.size*k.toNat<=sizeLine:=by rw [zJ,← hl]; exact hz
 have hcap:¬ its.toArray.size*k.toNat > (2 ^ 63 - 1) / 8:=by
  have:(sizeLine:Nat)<=(2 ^ 63 - 1) / 8:=by decide
  omega
 have hfit:¬ (!Builtin.List.listFitsIndex k)=true:=by
  rw [fitsIndex_both h1 h2];exact zV
 have hlong:¬ Builtin.List.listTooLong (its.toArray.size*k.toNat)=true:=by
  rw [n_U hlen];exact zV
 have hnew:List.foldl (λ x1 x2=>x1++x2) #[] (List.replicate (if its.toArray.isEmpty=true then 0 else k.toNat) its.toArray)=(List.replicate k.toNat its).flatten.toArray:=by
  have f0:∀ m:Nat,List.foldl (λ x1 x2=>x1++x2) #[] (List.replicate m its.toArray)=(List.replicate m its).flatten.toArray:=λ m=>by
   have:=i_x its m [];rw [List.nil_append] at this;exact this
  rw [f0];cases its with
  | nil=>simp
  | cons a r'=>rw [if_neg (by simp)]
 refine wpAny_binaryOp_repeat_ref (T := "list") (U := "int") (by decide) ⟨_,e,rfl⟩ (λ s'=>typeIs_int s' k t) noFill_list_mul F.fills_int_mul F.slot_int_rmul repeat_list F.slot_int_index.lookup
  (call_meets F.slot_int_rmul (typeIs_int s k t) F.entry_int_rmul (F.args_int_rmul_2 _ _) (int___rmul___int_list k t l its.toArray n)
   ⟨e,rfl,⟨_,e,rfl⟩,call_meets F.slot_list_mul ⟨_,e,rfl⟩ F.entry_list_mul (F.args_list_mul_2 _ _) (AutoListH.list___mul___list_int_3 l its.toArray n k t hfit hcap hlong) ⟨e,?_⟩⟩)
 rw [hnew];exact ⟨.ref _,_,I.lnew (t':=s.toks) (r.rep k.toNat) (by rw [p_X,Nat.mul_comm]; exact hz),rfl,q _ I.fresh⟩
end
section
variable {prog:Program} {w:World} {A:Around} {E:Value->Shared->Prop} {s:Shared}
set_option maxRecDepth 100000 in
end
end L2
namespace Att
open PySem PySem.W PySem.Calls PyProof.Rows
theorem g_O {P:Params} {h:Heap}:∀ (ns:List Int) (vs:List Value),WellAll P h vs (ns.map WData.int)->IntsAre vs ns:=by
 intro ns
 induction ns with
 | nil =>
  intro vs w;rw [List.map_nil] at w;cases w;exact .nil
 | cons n ns ih =>
  intro vs w;rw [List.map_cons] at w;cases w with
  | cons a b =>
   cases a;exact .cons _ _ (ih _ b)
theorem m_D {l:OpenLaw} {n:Nat} (hn:l.most=some n) {P:Params} {h:Heap} {args:List WData} {vals:List Value}
  (hpre:l.row.toRowW.claim.pre args=true) (hwl:WellAll P h vals args) :
  ∃ a vs ns,vals=[Value.ref a]/\args=[WData.list (ns.map WData.int)]/\h.get? a=some { cls:=.type "list",data:=.seq vs.toArray }/\IntsAre vs ns/\ns.length<=n:=by
 have hsh:WShape.hasAll [] args [.list .int]=true:=(pre_splitW hpre).1;have hc:l.pre.holds [] { args:=args }=true:=(pre_splitW hpre).2;obtain ⟨d,r,rfl,h1,h2⟩:=hasAllW_cons hsh;obtain rfl:=hasAllW_nil h2;obtain ⟨xs,rfl,h3⟩:=hasW_list h1;obtain ⟨ns,rfl⟩:=items_int h3;have hlen:ns.length<=n:=by
  unfold OpenLaw.pre at hc;have h4:(WTm.not (.lt (.lit (.int (n:Int))) (.len (.arg 0)))).holds [] { args:=[.list (ns.map .int)] }=true:=by
   have h4:=(holds_andW hc).1;rw [hn] at h4;exact h4
  have h5:=condW_of h4 (w_not (w_lt w_lit (w_len_list (w_arg rfl))));rw [yI] at h5;refine Nat.le_of_not_lt λ q=>?_;have q':(n:Int) < ((ns.length:Nat):Int):=by omega
  first
   | (rw [zW q'] at h5; exact yJ h5 (by decide))
   | (simp at h5; omega)
 cases hwl with
 | cons w1 w2 =>
  cases w2;cases w1 with
  | list ho hall=>exact ⟨_,_,ns,rfl,rfl,ho,g_O ns _ hall,hlen⟩
theorem m_E (l:OpenLaw) (args:List WData):l.row.toRowW.claim.post args (.bool true) args=true :=
 postW_of (r:=l.row.toRowW) (X:=(true == true))
  (show WShape.has [] (.bool true) .bool=true by first | rfl | decide | simp [WShape.has,WShape.arms,WShape.armsAll])
  (show (WTm.eq .res (.lit (.bool true))).value [] { args:=args,res:=some (.bool true),after:=args }=some (.bool (true == true)) from w_eq_bool (w_res rfl) w_lit) rfl
section
variable {prog:Program} {w:World} {A:Around} {E:Value->Shared->Prop} {s:Shared} {K:Frag}
end
end Att
namespace L2
open PySem PySem.Spec PyProof.Rows
open PySem.W (Frag)
theorem f_A:∀ {vs:List Value} {ns:List Int},IntsAre vs ns->Vals (ns.map V.int) vs
 | _,_,.nil=>.nil
 | _,_,.cons n t h=>.cons ⟨t,rfl⟩ (f_A h)
noncomputable def Only (H:Hp):Prop:=∀ b,H b=none\/∃ o xs,H b=some (.frz o (.lst xs))
theorem s_M {P:Program} {w:World} {K:Frag} {mg mb:Str->Option Value} {CX:CXT} {k:Nat} {fa a:Addr} {fd:FuncData} {x:Str} {sp:Sp} {s₁:Shared} {vs:List Value} {ns:List Int}
  (KX:K.In s₁.heap) (hns:s₁.heap.Ns mainGlobals mg) (hb:s₁.heap.Ns builtinsNs mb) (hbb:∀ x:Str,x ≠ "__name__" -> mb x=bootBuiltins x) (hlim:s₁.heap.NoLimit) (hg:s₁.gens=#[])
  (ha:s₁.heap.get? a=some { cls:=.type "list",data:=.seq vs.toArray }) (hi:IntsAre vs ns) (hl:ns.length<=sizeLine) (hr:Room k callerA)
  (F:∀ base:Heap,K.In base->base.Ns mainGlobals mg->FnOk P w K mg base CX k fa fd [x] sp) (hbind:∀ (s:Shared) (u:Value),BindsTo s fd ⟨[u],[]⟩ [(x,u)])
  (hsp:∀ H:Hp,Only H->SqL K H a (ns.map V.int)->sp [.ref a] H (λ v _=>v=.bl true) λ _ _ _=>False)
  (hCX:∀ H e s',CX [] H s₁ (λ _ _ _=>False) e s'->False) :
  codeAny (model P w) callerA (.call (.ref fa) ⟨[.ref a],[]⟩) (λ r s'=>r=.ok (.ret (.bool true))/\OldK s₁.heap s'.heap/\s'.os=s₁.os/\AllBare s'.gens) s₁:=by
 have rv:=f_A hi;have lenV:=hi.length
 -- from an abstract heap in which nothing but the script may be tracked
 have core:∀ H:Hp,Only H->SqL K H a (ns.map V.int)->HOk P w H s₁.heap->(∀ b,H b≠none->b=a)->(H a≠none->K.lookup a=none) ->
   codeAny (model P w) callerA (.call (.ref fa) ⟨[.ref a],[]⟩) (λ r s'=>r=.ok (.ret (.bool true))/\OldK s₁.heap s'.heap/\s'.os=s₁.os/\AllBare s'.gens) s₁:=by
  intro H hO hS hok hA hK;have base_of:∀ {b:Addr} {o:Obj},s₁.heap.get? b=some o->H b=none->(hidT s₁.heap H).get? b=some o:=λ e n=>j_D e n;have noA:∀ {b:Addr} {o:Obj} {es:Array DictEntry} {ep:Nat},s₁.heap.get? b=some o->o.data=.dict es ep->H b=none:=λ {b o es ep} e d=>by
   cases q:H b with
   | none=>rfl
   | some u =>
    have e':b=a:=hA b (by rw [q]; simp);subst e';rw [ha] at e; cases e;have d':Data.seq vs.toArray _=Data.dict es ep:=d;cases d'
  have nsK:∀ {b:Addr} {m:Str->Option Value},s₁.heap.Ns b m->(hidT s₁.heap H).Ns b m:=λ {b m} ⟨o,es,ep,e,d,r⟩=>⟨o,es,ep,base_of e (noA e d),d,r⟩;have hKb:K.In (hidT s₁.heap H):=λ b o e=>base_of (KX b o e) (by
   cases q:H b with
   | none=>rfl
   | some u =>
    have e':b=a:=hA b (by rw [q]; simp);subst e';rw [hK (by rw [q]; simp)] at e; cases e)
  have hM:Mod K mg (hidT s₁.heap H):=⟨hKb,nsK hns,⟨mb,nsK hb,hbb⟩,let ⟨mc,h1,h2⟩:=hlim; ⟨mc,nsK h1,h2⟩⟩;have e0:Env0 P w K mg (hidT s₁.heap H) callerA [] s₁ H:=⟨rfl,hM,λ b o e=>l_j e,Nat.le_of_eq (i_m _ _),trivial,λ b hb=>yJ (show b∈([]:List Addr) from hb) (by simp),hok,.of_eq hg⟩;refine codeAny_mono ((F _ hKb (nsK hns)).run callerA [] s₁ H ⟨[.ref a],[]⟩ [.ref a] [.ref a] _ _ hr e0 (hbind s₁ (.ref a)) (.cons rfl .nil) (hsp H hO hS)) λ r s' h=>?_;cases r with
  | error e=>exact (hCX H e s' h).elim
  | ok fl =>
   cases fl with
   | next=>exact False.elim h
   | brk=>exact False.elim h
   | cont=>exact False.elim h
   | ret u =>
    obtain ⟨v,H',os,bare,un,hok',r',q⟩:=h;have q':v=.bl true:=q;subst q';obtain rfl:u=Value.bool true:=r';refine ⟨rfl,OldK.of_keep λ b o e=>?_,os,bare⟩;cases q:H b with
    | none=>exact un.keep b o e q (by intro z; exact yJ (show b∈([]:List Addr) from z) (by simp)) (by simp)
    | some u =>
     rcases hO b with z | ⟨ob,xs,z⟩
     ·rw [q] at z; cases z
     ·have z2:=un.frzs b ob _ z;obtain ⟨e1,_⟩:=hok b _ z;obtain ⟨e2,_⟩:=hok' b _ z2;rw [e] at e1; cases e1;exact e2
 cases hk:K.lookup a with
 | some o =>
  -- the script is one of the module's own objects
  have e:=KX a o hk;rw [ha] at e;cases e;refine core (λ _=>none) (λ _=>.inl rfl) (.inr ⟨_,vs.toArray,_,hk,rfl,rfl,rfl,by rw [zJ,lenV]; exact hl,by simpa using rv⟩) (λ b u z=>by have z':(none:Option HO)=some u:=z; cases z') (λ b z=>yJ rfl z) λ z=>yJ rfl z
 | none =>
  refine core (λ b=>if b=a then some (.frz { cls:=.type "list",data:=.seq vs.toArray } (.lst (ns.map V.int))) else none) (λ b=>?_) (.inl (.inr ⟨{ cls:=.type "list",data:=.seq vs.toArray },if_pos rfl⟩)) (λ b u z=>?_) (λ b z=>?_) λ _=>hk
  ·by_cases hb:b=a
   ·exact .inr ⟨_,_,if_pos hb⟩
   ·exact .inl (if_neg hb)
  ·by_cases hb:b=a
   ·have z':=(if_pos hb).symm.trans z;cases z';subst hb;exact ⟨ha,by rw [yI]; exact hl,vs,_,rv,ha⟩
   ·have z':=(if_neg hb).symm.trans z;cases z'
  ·by_cases hb:b=a
   ·exact hb
   ·exact yJ (if_neg hb) z
noncomputable abbrev KOf {K:Frag} {h:Heap} (_:K.In h):Frag:=K
noncomputable def c_b (s:Stmt) (j:Nat):Stmt:=match s with
 | .ClassDef _ _ _ body _ _ _ _ _ _ _=>body.getD j (.Pass ⟨0,0,0,0⟩)
 | _=>.Pass ⟨0,0,0,0⟩
noncomputable def g_R (s:Stmt):Arguments:=match s with
 | .FunctionDef _ a _ _ _ _ _ _ _ _=>a
 | _=>{ posonlyargs:=[],args:=[],vararg:=none,kwonlyargs:=[],kw_defaults:=[],kwarg:=none,defaults:=[] }
noncomputable def b_L (s:Stmt):List Stmt:=match s with
 | .FunctionDef _ _ b _ _ _ _ _ _ _=>b
 | _=>[]
noncomputable def a_D (s:Stmt):Scope:=match s with
 | .FunctionDef _ _ _ _ _ _ sc _ _ _=>sc
 | _=>{ kind:=.function,names:=[],isGenerator:=false,isCoroutine:=false }
noncomputable abbrev CX0:CXT:=λ _ _ _ _ _ _=>False
noncomputable abbrev E0:XK:=λ _ _ _=>False
theorem a_O {X:Cx}:e_L CX0 X E0:=λ _ _ _ _ _ _ _ h=>h.elim
structure Fun (K:Frag) (x qual:Str) (st:Stmt) (f:Addr) (fd:FuncData):Prop where
 ex:∃ (oc:Value) (od:Option Addr) (kV doc pm:Value) (an:Option Addr) (cdv ct:Value) (osl:Array (Option Value)),
  fd=PySem.W.fnOf x qual (g_R st) (b_L st) (a_D st) .none kV doc pm an cdv ct/\K.lookup f=some ⟨oc,od,.func fd,osl⟩/\PySem.W.codeIn K cdv qual=true
 kp:PySem.W.keepIn K (.ref f)=true
section
variable {P:Program} {w:World} {K:Frag} {mg:Str->Option Value} {base:Heap}
theorem Fun.ok {x qual:Str} {st:Stmt} {f:Addr} {fd:FuncData} {N ps:List Str} {k:Nat} {sp:Sp} (F:Fun K x qual st f fd) (S:a_K N ps (a_D st)) (len:∀ vs H Q E,sp vs H Q E->vs.length=ps.length)
  (hbody:∀ (cdv:Value) (A:Around) (outer:List Env) (s:Shared) (H:Hp) (vs:List V) (Q:VK) (E:XK),Room k (A.deeper (envOfC qual (a_D st) s.heap.objs.size f cdv))->sp vs H Q E ->
   ∃ t,PSs (cxOf CX0 P w K mg base N qual (a_D st) f cdv A outer s H E).nox (b_L st) t/\t { nx:=λ _ H'=>Q .non H',rt:=Q } (start N vs) H):FnOk P w K mg base CX0 (k+1) f fd ps sp:=by
 obtain ⟨oc,od,kV,doc,pm,an,cdv,ct,osl,rfl,lk,hcd⟩:=F.ex;refine n_R lk hcd S len λ A outer s H vs Q E hr hsp=>?_;obtain ⟨t,h,q⟩:=hbody cdv A outer s H vs Q E hr hsp;exact ⟨t,h.nox,q⟩
theorem Fun.binds {x qual:Str} {st:Stmt} {f:Addr} {fd:FuncData} {ps:List Str} (F:Fun K x qual st f fd)
  (h:∀ (kV doc pm:Value) (an:Option Addr) (cdv ct:Value) (us:List Value),us.length=ps.length->bindArgs (PySem.W.fnOf x qual (g_R st) (b_L st) (a_D st) .none kV doc pm an cdv ct) ⟨us,[]⟩=pure (ps.zip us)):a_W K fd ps []:=by
 obtain ⟨oc,od,kV,doc,pm,an,cdv,ct,osl,rfl,lk,hcd⟩:=F.ex;exact .all (h kV doc pm an cdv ct)
theorem fun_mk {x qual:Str} {st:Stmt} {f:Addr} {oc:Value} {od an:Option Addr} {osl:Array (Option Value)} {kV doc pm cdv ct:Value} (l:K.lookup f=some ⟨oc,od,.func (PySem.W.fnOf x qual (g_R st) (b_L st) (a_D st) .none kV doc pm an cdv ct),osl⟩)
  (c:PySem.W.codeIn K cdv qual=true) (k:PySem.W.keepIn K (.ref f)=true):Fun K x qual st f (PySem.W.fnOf x qual (g_R st) (b_L st) (a_D st) .none kV doc pm an cdv ct):=⟨⟨oc,od,kV,doc,pm,an,cdv,ct,osl,rfl,l,c⟩,k⟩
end
theorem c_p {n:Nat} (h:n<=1000):n < sizeLine:=Nat.lt_of_le_of_lt h (by decide)
section
variable {X:Cx}
theorem pv (i:Nat) {x:Str} {pos:Pos} (hN:X.N[i]?=some x:=by rfl) (hv:Vis X.env.scope x:=by first | exact Or.inl rfl | exact Or.inr (Or.inl rfl) | exact Or.inr (Or.inr rfl)) (hd:(x == ("__debug__" : Str))=false:=by decide)
  (hcd:(x == ("__classdict__" : Str))=false:=by decide):PE X (.Name x pos) (tVar i):=k_s hN hv hd hcd
end
theorem iteF {A B:Prop} (h:B):if false=true then A else B:=by
 rw [if_neg zV];exact h
theorem iteT {A B:Prop} (h:A):if true=true then A else B:=by
 rw [if_pos rfl];exact h
theorem ite2 {c A B:Prop} [Decidable c] (h1:c->A) (h2:¬ c->B):if c then A else B:=by
 by_cases h:c
 ·rw [if_pos h];exact h1 h
 ·rw [if_neg h];exact h2 h
noncomputable def Same (H H':Hp):Prop:=∀ b o,H b=some o->H' b=some o
theorem Same.refl (H:Hp):Same H H:=λ _ _ h=>h
theorem Same.trans {H H1 H2:Hp} (a:Same H H1) (b:Same H1 H2):Same H H2:=λ c o h=>b c o (a c o h)
theorem Same.seq {K:Frag} {H H':Hp} {a:Addr} {xs:List V} (e:Same H H') (h:SqL K H a xs):SqL K H' a xs:=by
 rcases h with (h | ⟨o,h⟩) | h
 ·exact .inl (.inl (e _ _ h))
 ·exact .inl (.inr ⟨o,e _ _ h⟩)
 ·exact .inr h
end L2
set_option maxHeartbeats 4000000
namespace L2
open PySem PySem.Spec PyProof.Rows
open PySem.W (Frag)
noncomputable def clOf (env:Env):List (Str × NameKind)->List (Str × Addr)->List (Str × Addr)
 | [],cs=>cs
 | (n,k) :: r,cs=>clOf env r (if k == .free then (n,(env.cells.lookup n).getD 0) :: cs else cs)
theorem e_N {env:Env} {n:Str} {c:Addr}:∀ {l:List (Str × NameKind)} {cs:List (Str × Addr)},(∀ y∈l,y.2=.free->∃ c,env.cells.lookup y.1=some c) ->
  (clOf env l cs).lookup n=some c->cs.lookup n=some c\/env.cells.lookup n=some c
 | [],_,_,h=>.inl h
 | (m,k) :: r,cs,hl,h=>by
  have hr:∀ y∈r,y.2=.free->∃ c,env.cells.lookup y.1=some c:=λ y hy=>hl y (zN _ hy);rcases e_N hr h with q | q
  ·by_cases hk:(k == NameKind.free)=true
   ·rw [if_pos hk] at q;obtain ⟨c',e⟩:=hl (m,k) zU (by simpa using hk);rw [List.lookup_cons] at q;cases hm:n == m with
    | true =>
     rw [hm] at q;have q':(env.cells.lookup m).getD 0=c:=zT q;have em:n=m:=by simpa using hm
     rw [e] at q';have q2:c'=c:=q';rw [em,e,q2];exact .inr rfl
    | false =>
     rw [hm] at q;exact .inl q
   ·rw [if_neg hk] at q;exact .inl q
  ·exact .inr q
theorem e_O {env:Env} {n:Str}:∀ {l:List (Str × NameKind)} {cs:List (Str × Addr)},((n,NameKind.free)∈l\/∃ c,cs.lookup n=some c)->∃ c,(clOf env l cs).lookup n=some c
 | [],_,h=>by
  rcases h with h | h
  ·simp at h
  ·exact h
 | (m,k) :: r,cs,h=>by
  refine e_O (l:=r) ?_
  by_cases hn:(n,NameKind.free)∈r
  ·exact .inl hn
  ·refine .inr ?_;rcases h with h | ⟨c,h⟩
   ·rcases List.mem_cons.mp h with e | e
    ·cases e;rw [if_pos (by decide)];exact ⟨(env.cells.lookup n).getD 0,by rw [List.lookup_cons]; simp⟩
    ·exact yJ e hn
   ·by_cases hk:(k == NameKind.free)=true
    ·rw [if_pos hk,List.lookup_cons];cases hm:n == m with
     | true=>exact ⟨_,rfl⟩
     | false=>exact ⟨c,h⟩
    ·rw [if_neg hk];exact ⟨c,h⟩
theorem f_Q {scope:Scope} {env:Env} (h:∀ y∈scope.names,y.2=.free->∃ c,env.cells.lookup y.1=some c):closureFor scope env=pure (clOf env scope.names []):=by
 have go:∀ (l:List (Str × NameKind)) (cs:List (Str × Addr)),(∀ y∈l,y.2=.free->∃ c,env.cells.lookup y.1=some c) ->
   (forIn l cs (λ (x:Str × NameKind) (r:List (Str × Addr))=>if x.2 == NameKind.free then (do let a ← cellOf env x.1; pure (ForInStep.yield ((x.1,a) :: r))) else (pure (ForInStep.yield r):Sem _)):Sem _)=pure (clOf env l cs):=by
  intro l
  induction l with
  | nil=>intro cs _; rfl
  | cons y r ih =>
   intro cs hl;obtain ⟨n,k⟩:=y;have hr:∀ y∈r,y.2=.free->∃ c,env.cells.lookup y.1=some c:=λ y hy=>hl y (zN _ hy);rw [List.forIn_cons]
   by_cases hk:(k == NameKind.free)=true
   ·obtain ⟨c,e⟩:=hl (n,k) zU (by simpa using hk);have e1:cellOf env n=pure c:=by unfold cellOf; rw [show env.cells.lookup n=some c from e]
    dsimp only;rw [if_pos hk,e1];simp only [pure_bind];rw [ih _ hr];show _=pure (clOf env r _);rw [if_pos hk,show env.cells.lookup n=some c from e]
    all_goals rfl
   ·dsimp only;rw [if_neg hk];simp only [pure_bind];rw [ih _ hr];show _=pure (clOf env r _);rw [if_neg hk]
 have e:closureFor scope env=(forIn scope.names ([]:List (Str × Addr)) (λ (x:Str × NameKind) (r:List (Str × Addr))=>if x.2 == NameKind.free then (do let a ← cellOf env x.1; pure (ForInStep.yield ((x.1,a) :: r))) else (pure (ForInStep.yield r):Sem _)):Sem _):=by
  unfold closureFor
  first
   | rfl
   | (simp only [bind_pure]; rfl)
   | (simp; done)
 rw [e];exact go _ _ h
theorem f_V {env:Env}:∀ {names:List (Str × NameKind)} {x:Str},names.lookup x=some .free ->
  (names.map λ (n,k)=>if (k == NameKind.free && env.scope.kind == .function && env.kindOf n == some .cell) then (n,NameKind.cell) else (n,k)).lookup x=some .cell \/
  (names.map λ (n,k)=>if (k == NameKind.free && env.scope.kind == .function && env.kindOf n == some .cell) then (n,NameKind.cell) else (n,k)).lookup x=some .free
 | [],_,h=>by simp at h
 | (n,k) :: r,x,h=>by
  have ih:=@f_V env r x;cases hx:x == n with
  | true =>
   simp only [List.lookup_cons,hx] at h;cases h
   by_cases hc:(NameKind.free == NameKind.free && env.scope.kind == .function && env.kindOf n == some .cell)=true
   ·refine .inl ?_;rw [List.map_cons];dsimp only;rw [if_pos hc,List.lookup_cons,hx]
   ·refine .inr ?_;rw [List.map_cons];dsimp only;rw [if_neg hc,List.lookup_cons,hx]
  | false =>
   simp only [List.lookup_cons,hx] at h;rw [List.map_cons];dsimp only
   by_cases hc:(k == NameKind.free && env.scope.kind == .function && env.kindOf n == some .cell)=true
   ·rw [if_pos hc,List.lookup_cons,hx]; exact ih h
   ·rw [if_neg hc,List.lookup_cons,hx]; exact ih h
structure e_h (X:Cx) (scope:Scope) (x:Str) (fr:List (Str × Nat)):Prop where
 kind:scope.kind=.function
 cell:∀ y∈scope.names,y.2≠.cell
 free:∀ y∈scope.names,y.2=.free->X.env.kindOf y.1=some .cell\/X.env.kindOf y.1=some .free
 loc:∀ y∈scope.names,y.2=.local->scope.names.lookup y.1=some .local
 name:scope.names.lookup x=some .local
 nd:(x :: fr.map (·.1)).Nodup
 fr:∀ p∈fr,X.N[p.2]?=some p.1/\scope.names.lookup p.1=some .free
noncomputable def c_q (fr:List (Str × Nat)) (σ:St):St:=fr.map λ p=>σ.getD p.2 none
section
variable {X:Cx} {scope:Scope} {x:Str} {fr:List (Str × Nat)}
theorem e_h.cells {pins:List (Addr × Obj)} {σ:St} {H:Hp} {s:Shared} (c:e_h X scope x fr) (I:Inv X pins σ H s):∀ y∈scope.names,y.2=.free->∃ c,X.env.cells.lookup y.1=some c :=
 λ y hy hf=>I.ok.has y.1 (c.free y hy hf)
theorem e_h.was {pins:List (Addr × Obj)} {σ:St} {H:Hp} {s:Shared} (c:e_h X scope x fr) (I:Inv X pins σ H s) {y:Str} {b:Addr} (h:(clOf X.env scope.names []).lookup y=some b):X.env.cells.lookup y=some b:=by
 rcases e_N (c.cells I) h with q | q
 ·simp at q
 ·exact q
noncomputable def e_P (i:Nat) (te:TE):TS:=λ D σ H=>te σ H λ v H1=>D.nx (σ.set i (some v)) H1
end
theorem c_v.there {P:Program} {w:World} {H:Hp} {h:Heap} {a:Addr} {o:HO} (x:c_v P w H h a o):∃ ob,h.get? a=some ob:=by
 cases o with
 | lst xs=>obtain ⟨_,_,_,_,e⟩:=x; exact ⟨_,e⟩
 | tup xs=>obtain ⟨_,_,_,ob,e,_⟩:=x; exact ⟨ob,e⟩
 | dK kvs=>obtain ⟨_,_,_,_,o,_,_,e,_⟩:=x; exact ⟨_,e⟩
 | dT kvs=>obtain ⟨_,_,_,_,o,_,_,e,_⟩:=x; exact ⟨_,e⟩
 | set S n=>obtain ⟨o,_,_,_,e,_⟩:=x; exact ⟨_,e⟩
 | ins C dx fs=>obtain ⟨_,_,_,e,_⟩:=x; exact ⟨_,e⟩
 | own y=>exact x
 | xd fs=>obtain ⟨_,⟨_,_,_,e,_⟩,_⟩:=x; exact ⟨_,e⟩
 | rng lo hi=>obtain ⟨_,_,_,e⟩:=x; exact ⟨_,e⟩
 | frz ob u=>exact ⟨_,x.1⟩
 | tbl ps=>exact ⟨_,x⟩
 | met f y=>exact ⟨_,x⟩
 | ext φ=>exact x.2.1
noncomputable abbrev Cov (fs:List Addr) (h₀:Heap) (H:Hp) (h B:Heap):Prop:=∀ b o,h.get? b=some o->b ∉ fs->((∃ o',h₀.get? b=some o')\/∃ u,H b=some u)->B.get? b=some o
noncomputable def CX1 (P:Program) (w:World):CXT:=λ outer H s E ev s'=>∃ e C H' B a0,ev=.ref e/\s'.os=s.os/\AllBare s'.gens/\Un (frs outer) [] H H' s.heap s'.heap/\HOk P w H' s'.heap /\
 Heap.FlyingW B outer e C a0 s'.heap/\Cov (frs outer) s.heap H' s'.heap B/\E C none H'
noncomputable abbrev XE:=St->Value->Hp->Prop
noncomputable def n_Y (X:Cx) (EX:XE):Prop:=∀ (pins:List (Addr × Obj)) (σ:St) (H:Hp) (s:Shared) (h':Heap) (e:Addr) (C:Value) (vs:List Value),Inv X pins σ H s->Heap.MadeExcOf s.heap h' e C vs->EX σ C H->X.xe (.ref e) { s with heap:=h' }
theorem p_Y {X:Cx} {pins:List (Addr × Obj)} {σ:St} {H:Hp} {s:Shared} {h'' B:Heap} (I:Inv X pins σ H s) (hst:X.stack=X.env :: X.outer) (hfr:X.env.frame=some X.env.locals) (hex:X.ex=[])
  (stay:B.StaysIn h'') (sm:s.heap.UpToSlots h'') (cov:Cov (frs X.stack) X.s₀.heap H s.heap B) :
  Un X.fs [] X.H₀ H X.s₀.heap h''/\HOk X.prog X.w H h''/\Cov X.fs X.s₀.heap H h'' B:=by
 have u:=I.base;rw [hex] at u;have hfs:frs X.stack=X.env.locals :: X.fs:=by
  rw [hst];unfold frs;rw [List.filterMap_cons,hfr];rfl
 have old:∀ b o,X.s₀.heap.get? b=some o->b ∉ X.fs->b ∉ frs X.stack:=λ b o e hb hm=>by
  rw [hfs] at hm;rcases List.mem_cons.mp hm with z | z
  ·exact yJ (zI (zE e) I.ok.above) (by rw [z]; exact Nat.lt_irrefl _)
  ·exact hb z
 have trk:∀ b v,H b=some v->b ∉ frs X.stack:=λ b v e hm=>by
  have:=I.stkFree b hm;rw [e] at this;cases this
 have keepO:∀ b o,s.heap.get? b=some o->b ∉ frs X.stack->((∃ o',X.s₀.heap.get? b=some o')\/∃ v,H b=some v)->h''.get? b=some o:=λ b o e hb hc=>stay b o (cov b o e hb hc);have frm:∀ b,b∈X.fs->∀ o,s.heap.get? b=some o->∃ sl,h''.get? b=some { o with slots:=sl }:=λ b hb o e=>by
  obtain ⟨_,o',e',nf⟩:=I.funs.mem hb;rw [e] at e';cases e';exact sm b o e nf
 refine ⟨⟨λ b o e n hb hx=>?_,λ b o e n hb hx=>?_,u.free,λ b o e hx=>?_,u.tups,u.frzs,u.tbls⟩,λ a o ha=>?_,λ b o e hb hc=>?_⟩
 ·exact keepO b o (u.keep b o e n hb hx) (old b o e hb) (.inl ⟨o,e⟩)
 ·obtain ⟨sl,e1⟩:=u.slot b o e n hb hx;obtain ⟨sl',e2⟩:=frm b hb _ e1;exact ⟨sl',e2⟩
 ·obtain ⟨o1,e1⟩:=u.there b o e hx
  by_cases hb:b∈X.fs
  ·obtain ⟨sl,e2⟩:=frm b hb _ e1;exact ⟨_,e2⟩
  ·exact ⟨o1,keepO b o1 e1 (old b o e hb) (.inl ⟨o,e⟩)⟩
 ·refine (I.hok a o ha).stay (λ b v hb q=>?_) (λ _ q=>q) λ _ _ q=>q;rcases hb with hb | hb
  ·subst hb;exact keepO b v q (trk b o ha) (.inr ⟨o,ha⟩)
  ·exact keepO b v q (trk b _ hb) (.inr ⟨_,hb⟩)
 ·rcases hc with ⟨o',e'⟩ | ⟨v,e'⟩
  ·obtain ⟨o1,e1⟩:=u.there b o' e' (by simp);have q:=keepO b o1 e1 (old b o' e' hb) (.inl ⟨o',e'⟩);rw [e] at q;cases q;exact cov b o e1 (old b o' e' hb) (.inl ⟨o',e'⟩)
  ·obtain ⟨o1,e1⟩:=(I.hok b v e').there;have q:=keepO b o1 e1 (trk b v e') (.inr ⟨v,e'⟩);rw [e] at q;cases q;exact cov b o e1 (trk b v e') (.inr ⟨v,e'⟩)
section
variable {P:Program} {w:World} {K:Frag} {mg:Str->Option Value} {base:Heap} {N:List Str} {qual:Str} {scope:Scope} {f:Addr} {cd:Value} {A:Around} {outer:List Env} {s₀:Shared} {H₀:Hp} {E:XK}
theorem c_M:n_Y (cxOf (CX1 P w) P w K mg base N qual scope f cd A outer s₀ H₀ E) (λ _ C H=>E C none H):=by
 intro pins σ H s h' e C vs I M hE;have hfu:=I.stack;have hid:=PySem.W.funFrames_hide (as:=frs (cxOf (CX1 P w) P w K mg base N qual scope f cd A outer s₀ H₀ E).stack) hfu (λ env he a ha=>List.mem_filterMap.mpr ⟨env,he,ha⟩);refine wpAny_leaves_madeW (s:={ s with heap:=h' }) (h:=s.heap) I.ok.frames rfl (λ b o q=>PySem.W.of_hideAll _ q) hid M λ h'' t fl'' _ _ sm=>?_;obtain ⟨un,ok,cv⟩:=p_Y I rfl rfl rfl fl''.1 ((Heap.UpToSlots.of_keeps M.keeps).trans sm) λ b o q hb _=>PySem.W.hideAll_get _ q hb;exact ⟨e,C,H,_,_,rfl,I.os,I.bare,un,ok,fl'',cv,hE⟩
end
section
variable {X:Cx} {EX:XE} {k:Nat} {f:Addr} {fd:FuncData} {ps:List Str} {sp:Sp} {dvs:List V} {ds:List Value} {x:Str} {p pos:Pos} {e:Expr} {es:List Expr} {t:TA}
theorem e_x {P:Program} {w:World} {Y:Cx}:e_L (CX1 P w) Y E0:=λ _ _ _ _ _ _ _ h=>by
 obtain ⟨_,_,_,_,_,_,_,_,_,_,_,_,q⟩:=h;exact q.elim
end
theorem r_I {K:Frag} {h:Heap} {C:Addr} {bmB:List Value} {newId:String} (KX:K.In h) (hq:PySem.W.excIn K C bmB newId=true) :
  ∃ bm N nm qn bs hd sn sub ab col dd k0 k1 k2 k3 k5 mN,h.get? C=some (excClassObj nm qn C N bs bm hd sn sub ab col dd k0 k1 k2 k3 k5 newId)/\h.Ns N mN/\mN "__init__" = none/\OwnTail h bmB bm:=by
 revert hq
 unfold PySem.W.excIn;split
 ·next dd cd sl lk =>
  split
  ·next C1 bm k0 k1 k2 k3 nw k5 em es =>
   intro hq;simp only [Bool.and_eq_true,beq_iff_eq,Bool.not_eq_true'] at hq;obtain ⟨⟨⟨⟨⟨e1,e2⟩,e3⟩,e4⟩,e5⟩,e6⟩:=hq;subst e1 e2;cases cd with
   | mk nm bs mro ns qn hd sn sub ab col del =>
    have em':mro=Value.ref C1 :: bm:=em;have e3':del=false:=e3;subst em' e3';have esl:sl=#[k0,k1,k2,k3,some (Value.builtin nw),k5]:=by
     cases sl with
     | mk l=>exact congrArg Array.mk es
    subst esl;exact ⟨bm,ns,nm,qn,bs,hd,sn,sub,ab,col,dd,k0,k1,k2,k3,k5,_,KX _ _ lk,Heap.Ns.of_isNs (PySem.W.isNs_of_in KX e5),PySem.W.nsMap_none_of_in KX e5 e6,PySem.W.tail_of_in KX e4⟩
  ·intro z; cases z
 ·intro z; cases z
section
variable {X:Cx} {EX:XE} {C:Addr} {x:Str} {np cpos pos:Pos} {e₀:Expr} {rest:List Expr} {t:TA} {bmB:List Value} {B newId initId:String}
noncomputable def e_i (C:Addr) (EX:XE) (t:TA):TS:=λ _ σ H=>t σ H λ vs H1=>vs.length<=sizeLine/\EX σ (.ref C) H1
theorem d_S (hc:X.calm=true) (hx:n_Y X EX) (hg:Gl X x) (hm:X.mg x=some (.ref C)) (hC:PySem.W.excIn X.K C bmB newId=true) (FB:ExcBaseFacts B newId initId bmB) (ha:PA X (e₀ :: rest) t)
  (hdb:(x == ("__debug__" : Str))=false:=by decide) (he:starEach (e₀ :: rest) X.env=(false,eval e₀ X.env) :: starEach rest X.env:=by rfl) (hpl:(backTo cpos (starEach rest X.env)).any (·.1)=false:=by rfl) :
  PS X (.Raise (some (.Call (.Name x np) (e₀ :: rest) [] cpos)) none pos) (e_i C EX t):=by
 intro pins s σ H D I h;obtain ⟨bm,N,nm,q,bs,hd,sn,sub,ab,col,dd,k0,k1,k2,k3,k5,mN,hcls,hns,hni,T⟩:=r_I I.mod.kin hC;have hpl':(backTo cpos (starEach (e₀ :: rest) X.env)).any (·.1)=false:=by
  rw [he];show (false || (backTo cpos (starEach rest X.env)).any (·.1))=false;rw [hpl];rfl
 refine wpAny_Raise_call_subT (C:=C) (nm:=nm) (q:=q) (N:=N) (bs:=bs) (bm:=bm) (hdct:=hd) (sn:=sn) (sub:=sub) (ab:=ab) (col:=col) (dd:=dd) (k0:=k0) (k1:=k1) (k2:=k2) (k3:=k3) (k5:=k5) FB (mN:=mN) (T.hasType FB.hasBase) (I.ok.hd hc) hpl' hni
  (g_P I hg hm ⟨rfl,?_⟩ hdb)
 have hw:=ha cpos pins s σ H _ I h;rw [he] at hw ⊢;refine Calls.evalArgs_plain (thn hw λ us s2 ⟨vs,H2,I2,r,z,q2⟩=>⟨rfl,?_,I2.bk _ _ hcls,hns.keeps I2.bk,T.keeps I2.bk,λ h' e M=>hx pins σ H2 s2 h' e _ us I2 M q2⟩);show us.length<=sizeLine;rw [← r.length];exact z
end
section
variable {X:Cx}
theorem b_C:OpR X (binaryOp .Mult) (rI (λ i j=>IntMulOk i j) λ i j=>.int (i*j)):=opI λ _ _ _ _ _ _ _ hc q=>mul_int q hc
noncomputable def f_K (_ j:Int):Prop:=j≠0/\j.natAbs.log2 < 9000
theorem b_N:OpR X (binaryOp .FloorDiv) (rI f_K λ i j=>.int (i.fdiv j)):=opI λ _ _ _ _ _ _ _ hc q=>floordiv_int hc.1 q (.inl (PyProof.noPylong_of_log2 hc.2))
end
mutual
inductive Dt (K:Frag) (H:Hp):V->PyData->Prop
 | non:Dt K H .non .none
 | bl (b):Dt K H (.bl b) (.bool b)
 | int (i):Dt K H (.int i) (.int i)
 | str (x):Dt K H (.str x) (.str x)
 | lst {a xs ds}:SqL K H a xs->Dts K H xs ds->Dt K H (.ref a) (.list ds)
 | tup {a xs ds}:SqT K H a xs->Dts K H xs ds->Dt K H (.ref a) (.tuple ds)
inductive Dts (K:Frag) (H:Hp):List V->List PyData->Prop
 | nil:Dts K H [] []
 | cons {x xs d ds}:Dt K H x d->Dts K H xs ds->Dts K H (x :: xs) (d :: ds)
end
theorem Dts.ints {K:Frag} {H:Hp}:∀ (ns:List Int),Dts K H (ns.map V.int) (ns.map PyData.int)
 | []=>.nil
 | n :: r=>.cons (.int n) (Dts.ints r)
section
variable {X:Cx} {pins:List (Addr × Obj)} {σ:St} {H:Hp} {s:Shared}
mutual
theorem Dt.reads (I:Inv X pins σ H s):∀ {x:V} {d:PyData} {u:Value},Dt X.K H x d->RelV x u->∃ as,Reads s.heap u d as
 | _,_,_,.non,r=>by cases (show _=Value.none from r); exact ⟨_,.none⟩
 | _,_,_,.bl b,r=>by cases (show _=Value.bool b from r); exact ⟨_,.bool b⟩
 | _,_,_,.int i,r=>by obtain ⟨t,e⟩:=(show ∃ t,_=Value.int i t from r); cases e; exact ⟨_,.int i t⟩
 | _,_,_,.str x,r=>by obtain ⟨t,e⟩:=(show ∃ t,_=Value.str x t from r); cases e; exact ⟨_,.str x t⟩
 | _,_,_,.lst (a:=a) h hd,r=>by
  cases (show _=Value.ref a from r);obtain ⟨its,rv,⟨o,n,e,c,_,dd⟩,_⟩:=I.list h;obtain ⟨as,q⟩:=Dts.reads I hd rv;exact ⟨_,.list e c dd (by simpa using q)⟩
 | _,_,_,.tup (a:=a) h hd,r=>by
  cases (show _=Value.ref a from r);obtain ⟨its,rv,⟨o,e,c,n,dd⟩,_⟩:=I.tuple h;obtain ⟨as,q⟩:=Dts.reads I hd rv;exact ⟨_,.tuple e c dd (by simpa using q)⟩
theorem Dts.reads (I:Inv X pins σ H s):∀ {xs:List V} {ds:List PyData} {us:List Value},Dts X.K H xs ds->Vals xs us->∃ as,ReadsAll s.heap us ds as
 | _,_,_,.nil,r=>by cases r; exact ⟨_,.nil⟩
 | _,_,_,.cons h t,r=>by
  cases r with
  | cons r1 r2 =>
   obtain ⟨as,q1⟩:=Dt.reads I h r1;obtain ⟨bs,q2⟩:=Dts.reads I t r2;exact ⟨_,.cons q1 q2⟩
end
end
section
variable {X:Cx}
noncomputable def rEqD (K:Frag):R2:=λ x y H Q=>∃ d d',Dt K H x d/\Dt K H y d'/\SeqAt.shaped d=true/\SeqAt.shaped d'=true/\SeqAt.noMix d d'=true/\Q (.bl (same d d')) H
noncomputable def rNeD (K:Frag):R2:=λ x y H Q=>∃ d d',Dt K H x d/\Dt K H y d'/\SeqAt.shaped d=true/\SeqAt.shaped d'=true/\SeqAt.noMix d d'=true/\Q (.bl (!same d d')) H
theorem n_Z (hu:X.A.units+64 < cLine):OpR X (compareOp .Eq) (rEqD X.K):=by
 intro pins s σ H x y v u Q I rx ry h;obtain ⟨d,d',h1,h2,s1,s2,mx,q⟩:=h;obtain ⟨as,r1⟩:=h1.reads I rx;obtain ⟨bs,r2⟩:=h2.reads I ry;exact eq_dataH_same r1 r2 s1 s2 hu mx ⟨.bl (same d d'),H,I,rfl,q⟩
theorem r_J (hu:X.A.units+64 < cLine):OpR X (compareOp .NotEq) (rNeD X.K):=by
 intro pins s σ H x y v u Q I rx ry h;obtain ⟨d,d',h1,h2,s1,s2,mx,q⟩:=h;obtain ⟨as,r1⟩:=h1.reads I rx;obtain ⟨bs,r2⟩:=h2.reads I ry;exact ne_dataH_same r1 r2 s1 s2 hu mx ⟨.bl (!same d d'),H,I,rfl,q⟩
end
structure t_a (k:Nat) (A:Around):Prop where
 dp:A.depth+3*k+5 < recursionLimit
 un:A.units+16*k+200 < cLine
section
variable {X:Cx}
theorem c_g:OpR X (compareOp .Eq) (rI0 λ i j=>.bl (decide (i=j))):=opB0 λ i j _ _ _ _ _ q=>eq_int (by rw [Bool.beq_eq_decide_eq]; exact q)
theorem d_T:OpR X (compareOp .NotEq) (rI0 λ i j=>.bl (!decide (i=j))):=opB0 λ i j _ _ _ _ _ q=>ne_int (by rw [bne,Bool.beq_eq_decide_eq]; exact q)
theorem PS.nox {st:Stmt} {t:TS} (h:PS X.nox st t):PS X st t:=λ pins s σ H D I hw =>
 zC (h pins s σ H D (I.wish _) hw) (λ _ _ q=>q.unwish) λ _ _ z=>z.elim
end
noncomputable def r_j (sc:Scope) (N:List Str) (scope:Scope) (x:Str) (fr:List (Str × Nat)):Bool :=
 decide (scope.kind=.function) && decide (∀ y∈scope.names,y.2≠.cell) && decide (∀ y∈scope.names,y.2=.free->sc.names.lookup y.1=some .cell\/sc.names.lookup y.1=some .free) &&
 decide (∀ y∈scope.names,y.2=.local->scope.names.lookup y.1=some .local) && decide (scope.names.lookup x=some .local) && decide ((x :: fr.map (·.1)).Nodup) && decide (∀ p∈fr,N[p.2]?=some p.1/\scope.names.lookup p.1=some .free)
theorem j_i {X:Cx} {sc scope:Scope} {N:List Str} {x:Str} {fr:List (Str × Nat)} (h1:X.env.scope=sc) (h2:X.N=N) (h:r_j sc N scope x fr=true):e_h X scope x fr:=by
 unfold r_j at h;simp only [Bool.and_eq_true,decide_eq_true_eq] at h;obtain ⟨⟨⟨⟨⟨⟨e1,e2⟩,e3⟩,e4⟩,e5⟩,e6⟩,e7⟩:=h;subst h1 h2;exact ⟨e1,e2,e3,e4,e5,e6,e7⟩
section
variable {P:Program} {w:World} {K:Frag} {mg:Str->Option Value} {base:Heap}
theorem Fun.okX {x qual:Str} {st:Stmt} {f:Addr} {fd:FuncData} {N ps:List Str} {k:Nat} {sp:Sp} (F:Fun K x qual st f fd) (S:a_K N ps (a_D st)) (len:∀ vs H Q E,sp vs H Q E->vs.length=ps.length)
  (hbody:∀ (cdv:Value) (A:Around) (outer:List Env) (s:Shared) (H:Hp) (vs:List V) (Q:VK) (E:XK),Room k (A.deeper (envOfC qual (a_D st) s.heap.objs.size f cdv))->sp vs H Q E ->
   ∃ t,PSs (cxOf (CX1 P w) P w K mg base N qual (a_D st) f cdv A outer s H E) (b_L st) t/\t { nx:=λ _ H'=>Q .non H',rt:=Q } (start N vs) H):FnOk P w K mg base (CX1 P w) (k+1) f fd ps sp:=by
 obtain ⟨oc,od,kV,doc,pm,an,cdv,ct,osl,rfl,lk,hcd⟩:=F.ex;exact n_R lk hcd S len λ A outer s H vs Q E hr hsp=>hbody cdv A outer s H vs Q E hr hsp
end
end L2
namespace Att
open PySem PySem.W PySem.Calls PyProof.Rows
theorem i_y:∀ ns:List Int,ofPys (ns.map PyData.int)=ns.map WData.int
 | []=>rfl
 | n :: r=>by
  show ofPy (.int n) :: ofPys (r.map PyData.int)=_;rw [i_y r];rfl
theorem o_a {ns:List Int} (h:(WData.list (ns.map WData.int)).layable=true):∀ n∈ns,Builtin.Int.intBits n<=1048576:=λ n hn=>by
 have e:ofPy (.list (ns.map PyData.int))=WData.list (ns.map WData.int):=by
  show WData.list (ofPys (ns.map PyData.int))=_;rw [i_y]
 have sh:PySem.Spec.Shape.has (.list .int) (.list (ns.map PyData.int))=true:=by
  simp [PySem.Spec.Shape.has]
 exact intBits_le_of_item hn (layable0_of_all (lay0_ofPy (s:=.list .int) rfl sh (by rw [e]; exact h)))
theorem attach_callB {l:OpenLaw} {n:Nat} {q:Program} {loose:List Str} {XP:(Str->Option Value)->Heap->Prop} {YP:World->Heap->Prop} {d:DefRec} (hn:l.most=some n) (hdf:d.params.defaults=[])
  (call:∀ (w:World) (s₀ s₁:Shared) (mg mb:Str->Option Value) (fa:Addr) (a:Addr) (vs:List Value) (ns:List Int),Ground q loose [] XP w s₀ mg mb s₁.heap->YP w s₁.heap->mg d.name=some (.ref fa) ->
   s₁.heap.get? a=some { cls:=.type "list",data:=.seq vs.toArray }->IntsAre vs ns->ns.length<=n->(∀ m∈ns,Builtin.Int.intBits m<=1048576)->s₁.gens=#[] ->
   codeAny (model l.prog w) callerA (.call (.ref fa) ⟨[.ref a],[]⟩) (λ r s'=>r=.ok (.ret (.bool true))/\OldK s₁.heap s'.heap/\s'.os=s₁.os/\AllBare s'.gens) s₁) :
  WalkO q loose XP YP l.row.toRowW d [] (λ f vs=>PySem.call f vs):=by
 intro w s₀ s₁ mg mb G Y fa o pm cd doc dV kV ho hd hcd hD hmg hg args vals as hpre hlay hrd hwl hlo;obtain rfl:dV=.none:=Dflts.none hD hdf;obtain rfl:kV=.none:=Dflts.noKw hD;obtain ⟨a,vs,ns,rfl,rfl,hobj,hints,hlen⟩:=m_D hn hpre hwl;have hb:=o_a (layableW_arg hlay _ zU);refine enter_call (codeAny_mono (call w s₀ s₁ mg mb fa a vs ns G Y hmg hobj hints hlen hb hg) λ r s' hq=>?_);obtain ⟨rfl,h2,h3,h4⟩:=hq;exact ⟨.inl ⟨.bool true,.bool true,[],rfl,λ _=>rfl,.bool true,m_E l _,λ _=>⟨List.Pairwise.nil,λ _ hm=>(nomatch hm)⟩⟩,h2,h3,h4⟩
end Att
namespace L2
open PySem PySem.Spec PyProof.Rows
open PySem.W (Frag)
theorem c_C {wi:TI} {g:TG} {tb:TS} {D:Ends} {σ:St} {H:Hp} (h:∀ B:TS,B=tb->wi σ H λ J H1=>∃ W:Nat->Nat->St->Hp->Prop,(∃ m,W 0 m σ H1)/\∀ i m σ H,W i m σ H ->
  (J.stop i H/\D.nx σ H)\/(J.go i H/\∃ N:St->Hp->Prop,(∀ σ' H',N σ' H'->∃ m',m' < m/\W (i+1) m' σ' H')/\∀ x H',J.yld i H x H'->g x σ H' λ σ2 H2=>B { D with nx:=N,ct:=N,bk:=D.nx } σ2 H2)):tFor wi g tb D σ H:=h _ rfl
theorem f_W {c:TT} {tb:TS} {D:Ends} {σ:St} {H:Hp} (h:∀ B:TS,B=tb->∃ W:Nat->St->Hp->Prop,(∃ m,W m σ H)/\∀ m σ H,W m σ H ->
  c σ H λ b H1=>if b=true then ∃ N:St->Hp->Prop,(∀ σ' H',N σ' H'->∃ m',m' < m/\W m' σ' H')/\B { D with nx:=N,ct:=N,bk:=D.nx } σ H1 else D.nx σ H1):n_L c tb D σ H:=h _ rfl
theorem st {t u:TS} {D:Ends} {σ:St} {H:Hp} (h:∀ NX:St->Hp->Prop,NX=u D->t { D with nx:=NX } σ H):tSeq t u D σ H:=h _ rfl
section
variable {g:Int->Int->V} {C:Int->Int->Prop} {f:Int->V} {i j:Int} {H:Hp} {Q:VK}
theorem r_K:rI0 g (.int i) (.int j) H Q=Q (g i j) H:=propext ⟨λ ⟨_,_,e1,e2,q⟩=>by cases e1; cases e2; exact q,λ q=>⟨_,_,rfl,rfl,q⟩⟩
theorem s_N:rI C g (.int i) (.int j) H Q=(C i j/\Q (g i j) H):=propext ⟨λ ⟨_,_,e1,e2,q⟩=>by cases e1; cases e2; exact q,λ q=>⟨_,_,rfl,rfl,q⟩⟩
theorem s_O:rU f (.int i) H Q=Q (f i) H:=propext ⟨λ ⟨_,e1,q⟩=>by cases e1; exact q,λ q=>⟨_,rfl,q⟩⟩
end
theorem Same.new {H:Hp} {a:Addr} {o:HO} (h:H a=none):Same H (upd H a o):=λ b u e=>by rw [a_H (a_J e h)]; exact e
theorem Same.over {H H1:Hp} {a:Addr} {o:HO} (h:H a=none) (s:Same H H1):Same H (upd H1 a o):=λ b u e=>by rw [a_H (a_J e h)]; exact s b u e
theorem Same.tup {K:Frag} {H H':Hp} {a:Addr} {xs:List V} (e:Same H H') (h:SqT K H a xs):SqT K H' a xs:=by
 rcases h with (h | ⟨o,h⟩) | h
 ·exact .inl (.inl (e _ _ h))
 ·exact .inl (.inr ⟨o,e _ _ h⟩)
 ·exact .inr h
theorem b_K {α β:Type} {ys:List β} {xs:List α} {f:α->β} (hl:ys.length=xs.length) (h:∀ (j:Nat) (y:β),ys[j]?=some y->∃ x,xs[j]?=some x/\y=f x):ys=xs.map f:=by
 refine yG (by simpa using hl) λ i h1 h2=>?_;obtain ⟨x,e1,e2⟩:=h i ys[i] (by simp [h1]);obtain ⟨hx,e3⟩:=List.getElem?_eq_some_iff.mp e1;rw [List.getElem_map,e2,e3]
noncomputable def g_J (sc scope:Scope):Scope:={ scope with names:=scope.names.map λ (n,k)=>if (k == .free && sc.kind == .function && sc.names.lookup n == some .cell) then (n,.cell) else (n,k) }
theorem o_b {scope sc:Scope} {env:Env} (h:env.scope=sc):relabel scope env=g_J sc scope:=by subst h; rfl
theorem f_X:∀ (names:List (Str × NameKind)) (n:Nat) (acc:List (Str × Addr)),cellsFrom n names acc=cellsFrom n names []++acc
 | [],_,_=>rfl
 | (x,k) :: r,n,acc=>by
  unfold cellsFrom;split
  ·rw [f_X r (n+1) ((x,n) :: acc),f_X r (n+1) [(x,n)],List.append_assoc];rfl
  ·exact f_X r n acc
theorem j_j {y:Str} {b:Addr}:∀ {names:List (Str × NameKind)} {n:Nat} {acc:List (Str × Addr)},(y,b)∈cellsFrom n names acc->(y,b)∈acc\/(y,NameKind.cell)∈names
 | [],_,_,h=>.inl h
 | (x,k) :: r,n,acc,h=>by
  unfold cellsFrom at h;split at h
  ·rename_i hk;rcases j_j h with q | q
   ·rcases List.mem_cons.mp q with e | e
    ·have ek:k=.cell:=by simpa using hk
     cases e;exact .inr (by rw [ek]; exact zU)
    ·exact .inl e
   ·exact .inr (zN _ q)
  ·rcases j_j h with q | q
   ·exact .inl q
   ·exact .inr (zN _ q)
theorem f_Y {y:Str}:∀ {names:List (Str × NameKind)} {n:Nat} {acc:List (Str × Addr)},((y,NameKind.cell)∈names\/∃ b,acc.lookup y=some b)->∃ b,(cellsFrom n names acc).lookup y=some b
 | [],_,_,h=>by
  rcases h with h | h
  ·simp at h
  ·exact h
 | (x,k) :: r,n,acc,h=>by
  unfold cellsFrom;split
  ·rename_i hk;refine f_Y ?_;rcases h with h | ⟨b,h⟩
   ·rcases List.mem_cons.mp h with e | e
    ·cases e;exact .inr ⟨n,by rw [List.lookup_cons]; simp⟩
    ·exact .inl e
   ·rw [List.lookup_cons];cases hx:y == x with
    | true=>exact .inr ⟨n,rfl⟩
    | false=>exact .inr ⟨b,h⟩
  ·rename_i hk;refine f_Y ?_;rcases h with h | h
   ·rcases List.mem_cons.mp h with e | e
    ·cases e;simp at hk
    ·exact .inl e
   ·exact .inr h
theorem g_q {env:Env} {q:NameKind}:∀ {names:List (Str × NameKind)} {x:Str},
  (names.map λ (n,k)=>if (k == NameKind.free && env.scope.kind == .function && env.kindOf n == some .cell) then (n,NameKind.cell) else (n,k)).lookup x=some q ->
  (q=.cell\/q=.free)->(x,NameKind.free)∈names\/(x,NameKind.cell)∈names
 | [],_,h,_=>by simp at h
 | (n,k) :: r,x,h,hq=>by
  have ih:=@g_q env q r x;rw [List.map_cons] at h;dsimp only at h
  by_cases hc:(k == NameKind.free && env.scope.kind == .function && env.kindOf n == some .cell)=true
  ·rw [if_pos hc,List.lookup_cons] at h;cases hx:x == n with
   | true =>
    have ex:x=n:=by simpa using hx
    have ek:k=.free:=by
     have:=(Bool.and_eq_true _ _ ▸ ((Bool.and_eq_true _ _ ▸ hc).1)).1;simpa using this
    rw [ex,ek];exact .inl zU
   | false =>
    rw [hx] at h;exact (ih h hq).imp (zN _) (zN _)
  ·rw [if_neg hc,List.lookup_cons] at h;cases hx:x == n with
   | true =>
    rw [hx] at h;have ex:x=n:=by simpa using hx
    have ek:k=q:=zT h;rcases hq with e | e
    ·rw [ex,ek,e]; exact .inr zU
    ·rw [ex,ek,e]; exact .inl zU
   | false =>
    rw [hx] at h;exact (ih h hq).imp (zN _) (zN _)
theorem l_q {α:Type} {x:Str} {k k':α}:∀ {l:List (Str × α)},(l.map (·.1)).Nodup->(x,k)∈l->(x,k')∈l->k=k'
 | (n,q) :: r,nd,h,h'=>by
  obtain ⟨n1,n2⟩:=List.nodup_cons.mp nd;rcases List.mem_cons.mp h with e | e <;> rcases List.mem_cons.mp h' with e' | e'
  ·cases e; cases e'; rfl
  ·cases e; exact yJ (List.mem_map.mpr ⟨_,e',rfl⟩) n1
  ·cases e'; exact yJ (List.mem_map.mpr ⟨_,e,rfl⟩) n1
  ·exact l_q n2 e e'
theorem k_G {M:Model} {A:Around} {E:Value->Shared->Prop} {s:Shared} {scope:Scope} {globals:Addr} {cl:List (Str × Addr)} {qual:Str} {func:Option Addr} {code:Value} {env:Env} {bl:Addr} {Q:Env->Shared->Prop}
  (h:Q (newEnv scope s.heap.objs.size globals (cellsFrom (s.heap.objs.size+1) scope.names cl) qual func code (some env) bl) { s with heap:=pushCells (s.heap.push { cls:=.type "dict",data:=.dict #[] }) scope.names }) :
  wpAny M A (newFunctionEnv scope globals cl [] qual func code (some env) bl) Q E s:=by
 simp only [newFunctionEnv,Option.isSome_some,if_true];refine zA (wpAny_alloc ?_);refine zA (wpAny_layCells _ (λ name kind cells=>by cases hkc:kind == NameKind.cell <;> simp [hkc]) _ _ _ _ ?_);rw [show ({ s with heap:=s.heap.push { cls:=.type "dict",data:=.dict #[] } }:Shared).heap.objs.size=s.heap.objs.size+1 from Heap.size_push ..];exact zB h
noncomputable def b_U (X:Cx) (scope:Scope) (N:List Str) (s:Shared) (H:Hp) (fp:List Addr):Cx :=
 { X with N:=N,s₀:=s,H₀:=H,env:=compEnvC scope (cellsFrom (s.heap.objs.size+1) scope.names (clOf X.env scope.names [])) s.heap.objs.size X.env,outer:=X.stack,ex:=fp,fn:=λ y=>scope.names.lookup y == some .cell,pn:=[],xe:=λ _ _=>False }
structure c_U (X:Cx) (sc scope:Scope) (xs:List Str) (fr:List (Str × Nat)):Prop where
 hsc:X.env.scope=sc
 kind:scope.kind=.function
 nn:(scope.names.map (·.1)).Nodup
 free:∀ y∈scope.names,y.2=.free->sc.names.lookup y.1=some .cell\/sc.names.lookup y.1=some .free
 loc:∀ y∈scope.names,y.2=.local->scope.names.lookup y.1=some .local
 fr:∀ p∈fr,X.N[p.2]?=some p.1/\scope.names.lookup p.1=some .free
section
variable {X:Cx} {sc scope:Scope} {xs:List Str} {fr:List (Str × Nat)}
theorem c_U.free' (c:c_U X sc scope xs fr):∀ y∈scope.names,y.2=.free->X.env.kindOf y.1=some .cell\/X.env.kindOf y.1=some .free:=λ y hy hf=>by
 unfold Env.kindOf;rw [c.hsc];exact c.free y hy hf
theorem c_U.cells {pins:List (Addr × Obj)} {σ:St} {H:Hp} {s:Shared} (c:c_U X sc scope xs fr) (I:Inv X pins σ H s):∀ y∈scope.names,y.2=.free->∃ c,X.env.cells.lookup y.1=some c :=
 λ y hy hf=>I.ok.has y.1 (c.free' y hy hf)
theorem c_U.was {pins:List (Addr × Obj)} {σ:St} {H:Hp} {s:Shared} (c:c_U X sc scope xs fr) (I:Inv X pins σ H s) {y:Str} {b:Addr} (h:(clOf X.env scope.names []).lookup y=some b):X.env.cells.lookup y=some b:=by
 rcases e_N (c.cells I) h with q | q
 ·simp at q
 ·exact q
theorem c_P {names:List (Str × NameKind)} {n:Nat} {cl:List (Str × Addr)} {y:Str} {b:Addr} (h:(cellsFrom n names cl).lookup y=some b):(cellsFrom n names []).lookup y=some b\/((cellsFrom n names []).lookup y=none/\cl.lookup y=some b):=by
 rw [f_X,List.lookup_append] at h;cases q:(cellsFrom n names []).lookup y with
 | none=>rw [q] at h; exact .inr ⟨rfl,h⟩
 | some c=>rw [q] at h; exact .inl h
theorem j_K {pins:List (Addr × Obj)} {σ:St} {H:Hp} {s:Shared} {fp:List Addr} (c:c_U X sc scope xs fr) (I:Inv X pins σ H s)
  (hf:∀ b∈fp,FpOk X pins H b/\∃ o,s.heap.get? b=some o) :
  Inv (b_U X scope (xs++fr.map (·.1)) s H fp) [] (xs.map (λ _=>none)++c_q fr σ) H { s with heap:=pushCells (s.heap.push { cls:=.type "dict",data:=.dict #[] }) scope.names }:=by
 have k:∀ b o,s.heap.get? b=some o->(pushCells (s.heap.push { cls:=.type "dict",data:=.dict #[] }) scope.names).get? b=some o:=λ b o e=>pushCells_keeps _ _ b o (zD _ e);have hn:(pushCells (s.heap.push { cls:=.type "dict",data:=.dict #[] }) scope.names).Ns s.heap.objs.size (λ _=>none):=(Heap.Ns.new s.heap (.type "dict")).keeps (pushCells_keeps _ _);have ok:=cellsFrom_ok scope.names (s.heap.push { cls:=.type "dict",data:=.dict #[] }) (s.heap.objs.size+1) [] ⟨λ _ _ hm=>(nomatch hm),List.Pairwise.nil⟩ (by rw [Heap.size_push]; exact zL _);rw [Heap.size_push] at ok;have I4:Inv X pins σ H { s with heap:=pushCells (s.heap.push { cls:=.type "dict",data:=.dict #[] }) scope.names }:=I.kept (t':=s.toks) k;generalize hh:pushCells (s.heap.push { cls:=.type "dict",data:=.dict #[] }) scope.names=h₁ at k hn ok I4;have old:∀ {y:Str} {b:Nat},(clOf X.env scope.names []).lookup y=some b->b < s.heap.objs.size:=λ {y b} e=>by
  obtain ⟨v,z⟩:=I.cell y b (c.was I e);exact z.lt
 have own:∀ {y:Str} {b:Nat},(cellsFrom (s.heap.objs.size+1) scope.names []).lookup y=some b->h₁.IsCell b none/\s.heap.objs.size+1<=b:=λ {y b} e=>ok.empty y b (mem_of_lookup e);refine ⟨⟨I.ok.mod,c.kind,I.ok.glob,I.ok.blt,zL _,λ y z b h1 h2=>?_,λ y hy=>?_,λ y b h0 h1=>?_,I.ok.hd,I.ok.frames,.inl rfl,λ b hb=>?_,λ b o e=>?_,?_,λ b o e hb=>?_,λ b hb hs=>?_,?_,λ b hb=>?_⟩,
  rfl,I.bare,Un.kept k,⟨_,hn,λ i y v h1 h2 h3=>?_⟩,λ y b h=>?_,?_,λ y b h=>?_,λ p hp=>yJ (show p∈([]:List (Addr × Obj)) from hp) (by simp),I4.hok,?_⟩
 ·rcases c_P h1 with e1 | ⟨_,e1⟩ <;> rcases c_P h2 with e2 | ⟨_,e2⟩
  ·exact name_of_addr ok.apart (mem_of_lookup e1) (mem_of_lookup e2)
  ·exact yJ (zI (old e2) (Nat.le_of_succ_le (own e1).2)) (Nat.lt_irrefl _)
  ·exact yJ (zI (old e1) (Nat.le_of_succ_le (own e2).2)) (Nat.lt_irrefl _)
  ·exact I.ok.inj y z b (c.was I e1) (c.was I e2)
 ·show ∃ b,(cellsFrom (s.heap.objs.size+1) scope.names (clOf X.env scope.names [])).lookup y=some b;have hm:(y,NameKind.free)∈scope.names\/(y,NameKind.cell)∈scope.names:=by
   rcases hy with hy | hy
   ·exact g_q hy (.inl rfl)
   ·exact g_q hy (.inr rfl)
  rcases hm with hm | hm
  ·exact f_Y (.inr (e_O (.inl hm)))
  ·exact f_Y (.inl hm)
 ·have hy:scope.names.lookup y=some .cell:=by
   have h0':(scope.names.lookup y == some NameKind.cell)=true:=h0;simpa using h0'
  rcases c_P h1 with e1 | ⟨e1,_⟩
  ·have:=(own e1).2;show s.heap.objs.size<=b;omega
  ·obtain ⟨b',e⟩:=f_Y (n:=s.heap.objs.size+1) (acc:=[]) (.inl (mem_of_lookup hy));rw [e1] at e;cases e
 ·obtain ⟨⟨_,_,_,_,f5,_⟩,o,e⟩:=hf b hb;refine ⟨Nat.ne_of_lt (zE e),λ y b' h=>?_⟩;rcases c_P h with e1 | ⟨_,e1⟩
  ·exact λ z=>yJ (zI (zE e) (Nat.le_of_succ_le (z ▸ (own e1).2))) (Nat.lt_irrefl _)
  ·exact f5 y b' (c.was I e1)
 ·exact I.bs b o e
 ·exact zS I.ok.bsz I.sz
 ·obtain ⟨⟨_,_,_,f4,_,_⟩,_⟩:=hf b hb;rcases f4 with z | z
  ·exact I.ok.noex b o e z
  ·exact yJ (zI (zE e) (zS I.ok.bsz z)) (Nat.lt_irrefl _)
 ·obtain ⟨⟨_,f2,f3,_,_,_⟩,_⟩:=hf b hb;rcases List.mem_cons.mp (I.stkSub b hs) with z | z
  ·exact f2 z
  ·exact f3 z
 ·exact I.stack
 ·exact I.stkFree b hb
 ·have h1':(xs++fr.map (·.1))[i]?=some y:=h1
  by_cases hi:i < xs.length
  ·rw [yC (by simpa using hi),zH] at h2;cases q:xs[i]? with
   | none=>rw [q] at h2; cases h2
   | some z=>rw [q] at h2; cases zT h2
  ·rw [yD (by omega)] at h1';rw [yD (by simpa using hi),yI] at h2;generalize i - xs.length=j at h1' h2;rw [zH] at h1';unfold c_q at h2;rw [zH] at h2;cases e:fr[j]? with
   | none=>rw [e] at h1'; cases h1'
   | some p =>
    rw [e] at h1' h2;have e1:p.1=y:=zT h1';have e2:σ.getD p.2 none=some v:=zT h2;obtain ⟨n1,n2⟩:=c.fr p (List.mem_of_getElem? e);have e3:σ[p.2]?=some (some v):=by
     rw [List.getD_eq_getElem?_getD] at e2;cases q:σ[p.2]? with
     | none=>rw [q] at e2; cases e2
     | some o=>rw [q] at e2; have e2':o=some v:=e2; rw [e2']
    subst e1;have hm:(p.1,NameKind.free)∈scope.names:=PySem.mem_of_lookup n2;have kd:=c.free' _ hm rfl;obtain ⟨m',_,hl⟩:=I4.loc;obtain ⟨u,ru,lk⟩:=hl p.2 p.1 v n1 e3 (.inr kd);refine ⟨u,ru,.inr ⟨f_V n2,?_⟩⟩;rcases lk with ⟨k1,_⟩ | ⟨_,b,q,z⟩
    ·rcases kd with kd | kd <;> (rw [kd] at k1; cases k1)
    ·obtain ⟨b',q'⟩:=e_O (env:=X.env) (l:=scope.names) (cs:=[]) (.inl hm);have e4:=c.was I q';rw [q] at e4;cases e4;refine ⟨b,?_,z⟩;show (cellsFrom (s.heap.objs.size+1) scope.names (clOf X.env scope.names [])).lookup p.1=some b;rw [f_X,List.lookup_append];cases w:(cellsFrom (s.heap.objs.size+1) scope.names []).lookup p.1 with
     | none=>exact q'
     | some b2 =>
      rcases j_j (mem_of_lookup w) with w | w
      ·simp at w
      ·cases l_q c.nn hm w
 ·rcases c_P h with e1 | ⟨_,e1⟩
  ·exact ⟨none,(own e1).1⟩
  ·exact I4.cell y b (c.was I e1)
 ·exact I.hok.fresh (zL _)
 ·rcases c_P h with e1 | ⟨_,e1⟩
  ·exact I.hok.fresh (by have:=(own e1).2; omega)
  ·exact I4.freeC y b (c.was I e1)
 ·show (xs.map (λ _=>none)++c_q fr σ).length=(xs++fr.map (·.1)).length;simp [c_q]
end
noncomputable abbrev TOx:=St->Hp->(Option V->Hp->Prop)->Prop
noncomputable def tEl (te:TE)  : TOx:=λ σ H Q=>te σ H λ y H'=>Q (some y) H'
noncomputable def e_E (tc:TT) (te:TE)  : TOx:=λ σ H Q=>tc σ H λ b H1=>if b=true then te σ H1 (λ y H'=>Q (some y) H') else Q none H1
noncomputable def h_D (elt:Expr) (ifs:List Expr) (env:Env) (M:Model) (A:Around) (Q:Option Value->Shared->Prop) (E:Value->Shared->Prop) (s:Shared):Prop :=
 match ifs with
 | []=>wpAny M A (eval elt env) (λ x s1=>Q (some x) s1) E s
 | [c]=>wpAny M A (isTrue c env (eval c env)) (λ b s1=>if b=true then wpAny M A (eval elt env) (λ x s2=>Q (some x) s2) E s1 else Q none s1) E s
 | _=>False
noncomputable def POx (X:Cx) (elt:Expr) (ifs:List Expr) (t:TOx):Prop:=∀ (pins:List (Addr × Obj)) (s:Shared) (σ:St) (H:Hp) (Q:Option V->Hp->Prop),Inv X pins σ H s->t σ H Q ->
 h_D elt ifs X.env (model X.prog X.w) X.A (λ o s'=>∃ v H',Inv X pins σ H' s'/\(match o,v with | some u,some y=>RelV y u | none,none=>True | _,_=>False)/\Q v H') X.xe s
theorem b_J {X:Cx} {elt:Expr} {te:TE} (h:PE X elt te):POx X elt [] (tEl te):=λ pins s σ H Q I hw =>
 thn (h pins s σ H _ I hw) λ u s1 ⟨y,H1,I1,r1,q1⟩=>⟨some y,H1,I1,r1,q1⟩
theorem o_c {X:Cx} {elt c:Expr} {tc:TT} {te:TE} (hc:PT X c tc) (h:PE X elt te):POx X elt [c] (e_E tc te):=λ pins s σ H Q I hw=>by
 refine thn (hc pins s σ H _ I hw) λ b s1 ⟨H1,I1,q1⟩=>?_;cases b with
 | true =>
  rw [if_pos rfl] at q1 ⊢;exact thn (h pins s1 σ H1 _ I1 q1) λ u s2 ⟨y,H2,I2,r2,q2⟩=>⟨some y,H2,I2,r2,q2⟩
 | false =>
  rw [if_neg zV] at q1 ⊢;exact ⟨none,H1,I1,trivial,q1⟩
theorem e_Q {prog:Program} {w:World} {A:Around} {R:Result->Shared->Prop} {s:Shared} {elt target iter:Expr} {ifs:List Expr} {scope:Scope} {pos:Pos} {it acc:Value} {env:Env} (I:Nat->Shared->Prop)
  (turn:∀ n s,I n s->wpAny (model prog w) A (pyNext it) (λ r s₁=>match r with
   | none=>R (.ok .next) s₁
   | some v=>wpAny (model prog w) A (letOwnedTupleGo target it v) (λ _ s₁'=>wpAny (model prog w) A (assign target env v) (λ _ s₂=>h_D elt ifs env (model prog w) A (λ o s₃=>match o with
     | some x=>wpAny (model prog w) A (call (.builtin "list.append") [acc,x]) (λ _ s₄=>∃ m,m < n/\I m s₄) (λ _ _=>False) s₃
     | none=>∃ m,m < n/\I m s₃)
     (λ _ _=>False) s₂) (λ _ _=>False) s₁') (λ _ _=>False) s₁) (λ _ _=>False) s)
  (n:Nat) (h:I n s) (hifs:ifs.length<=1) :
  codeAny (model prog w) A (.compLoop (.ListComp elt [⟨target,iter,ifs,0⟩] scope pos) 0 it acc env) R s:=by
 refine codeAny_loop rfl I (λ n s hI=>?_) n h;show wpAny _ _ ((compTurn (.ListComp elt [⟨target,iter,ifs,0⟩] scope pos) 0 it acc env).onRaise (λ x=>do noteFrame x env; theTreesLotGoes x)) _ _ s;refine wpAny_noted ?_;have T:=turn n s hI
 match ifs,hifs,T with
 | [],_,T =>
  rw [compTurn_list1];refine zA (wpAny_standAt (zA (zC T (λ r s₁ h₁=>?_) λ _ _ h'=>h'.elim)));cases r with
  | none=>exact zB h₁
  | some v =>
   refine zA (zC h₁ (λ _ s₁' h₁'=>?_) λ _ _ h'=>h'.elim);exact zA (zC h₁' (λ _ s₂ h₂=>zA (zA (zC (show wpAny _ _ _ _ _ _ from h₂) (λ x s₃ h₃=>zA (zC h₃
    (λ _ s₄ h₄=>zB (zB ⟨rfl,h₄⟩)) λ _ _ h'=>h'.elim)) λ _ _ h'=>h'.elim))) λ _ _ h'=>h'.elim)
 | [c],_,T =>
  have e1:compTurn (.ListComp elt [⟨target,iter,[c],0⟩] scope pos) 0 it acc env=(standAt iter.pos >>= λ _=>pyNext it >>= λ r=>match r with
   | none=>pure (.done .next)
   | some v=>letOwnedTupleGo target it v >>= λ _=>assign target env v >>= λ _=>isTrue c env (eval c env) >>= λ ok =>
    (if ok=true then (eval elt env >>= λ x=>call (.builtin "list.append") [acc,x] >>= λ _=>pure ()) >>= λ _=>again (.compLoop (.ListComp elt [⟨target,iter,[c],0⟩] scope pos) 0 it acc env)
     else again (.compLoop (.ListComp elt [⟨target,iter,[c],0⟩] scope pos) 0 it acc env))):=by
   unfold compTurn;simp only [List.forIn_cons,List.forIn_nil,if_true,bind_assoc,pure_bind,List.getElem?_cons_zero];rfl
  rw [e1];refine zA (wpAny_standAt (zA (zC T (λ r s₁ h₁=>?_) λ _ _ h'=>h'.elim)));cases r with
  | none=>exact zB h₁
  | some v =>
   refine zA (zC h₁ (λ _ s₁' h₁'=>?_) λ _ _ h'=>h'.elim);refine zA (zC h₁' (λ _ s₂ h₂=>zA (zC (show wpAny _ _ _ _ _ _ from h₂) (λ b s₃ h₃=>?_) λ _ _ h'=>h'.elim)) λ _ _ h'=>h'.elim);cases b with
   | true =>
    rw [if_pos rfl] at h₃ ⊢;exact zA (zA (zC h₃ (λ x s₄ h₄=>zA (zC h₄ (λ _ s₅ h₅=>zB (zB ⟨rfl,h₅⟩)) λ _ _ h'=>h'.elim)) λ _ _ h'=>h'.elim))
   | false =>
    rw [if_neg zV] at h₃ ⊢;exact zB ⟨rfl,h₃⟩
 | _ :: _ :: _,hifs,T =>
  exact yJ hifs (by simp)
noncomputable def s_P (a:Addr) (N:Hp->Prop):Option V->Hp->Prop
 | some y,H=>∃ zs,H a=some (.lst zs)/\zs.length < sizeLine/\N (upd H a (.lst (zs++[y])))
 | none,H=>N H
noncomputable abbrev c_D (J:It) (g:TG) (tt:TOx) (n:Nat) (fr:List (Str × Nat)) (σ:St) (a:Addr) (H:Hp) (Q:VK):Prop :=
 ∃ W:Nat->Nat->Hp->Prop,(∃ m,W 0 m (upd H a (.lst [])))/\∀ i m H2,W i m H2->(J.stop i H2/\Q (.ref a) H2) \/
  (J.go i H2/\∃ N:Hp->Prop,(∀ H',N H'->∃ m',m' < m/\W (i+1) m' H')/\∀ (ys:St) x H3,ys.length=n->J.yld i H2 x H3 ->
   g x (ys++c_q fr σ) H3 λ σ4 H4=>(∃ ys':St,ys'.length=n/\σ4=ys'++c_q fr σ)/\tt σ4 H4 (s_P a N))
noncomputable def b_X (wi:TI) (g:TG) (tt:TOx) (n:Nat) (fr:List (Str × Nat)):TE:=λ σ H Q=>wi σ H λ J H1=>∀ a,H1 a=none->c_D J g tt n fr σ a H1 Q
section
variable {X:Cx} {sc scope:Scope} {xs:List Str} {fr:List (Str × Nat)} {elt tg iter:Expr} {ifs:List Expr} {g:TG} {tt:TOx}
theorem h_E {pins:List (Addr × Obj)} {σ:St} {H:Hp} {s:Shared} {pos:Pos} {J:It} {fp:List Addr} {it:Addr} {tn:Nat->Heap->Prop} {Q:VK} {RR:Value->Addr->Result->Shared->Prop} {E:Value->Shared->Prop}
  (c:c_U X sc scope xs fr) (hc:X.calm=true) (hifs:ifs.length<=1) (I:Inv X pins σ H s) (T:Turn X.prog X.w X.K tg J fp it tn) (t0:tn 0 s.heap) (hf:∀ b∈fp,FpOk X pins H b)
  (hg:∀ (s₃:Shared) (H₃:Hp) (fp:List Addr),(b_U X scope (xs++fr.map (·.1)) s₃ H₃ fp).env.scope=g_J sc scope->PG (b_U X scope (xs++fr.map (·.1)) s₃ H₃ fp) tg g)
  (he:∀ (s₃:Shared) (H₃:Hp) (fp:List Addr),(b_U X scope (xs++fr.map (·.1)) s₃ H₃ fp).env.scope=g_J sc scope->POx (b_U X scope (xs++fr.map (·.1)) s₃ H₃ fp) elt ifs tt)
  (hw:∀ a,H a=none->c_D J g tt xs.length fr σ a H Q)
  (hRR:∀ a C H' s' m,s'.heap.Ns C m->Inv X pins σ H' s'->FpOk X pins H' C->Q (.ref a) H'->RR (.ref a) C (.ok .next) s') :
  wpAny (model X.prog X.w) X.A (newList []) (λ acc s₃=>wpAny (model X.prog X.w) X.A (newFunctionEnv scope X.env.globals (clOf X.env scope.names []) [] X.env.qual none .none (some X.env)) (λ cenv s₄ =>
   codeAny (model X.prog X.w) X.A (.compStart (.ListComp elt [⟨tg,iter,ifs,0⟩] scope pos) 0 (.ref it) acc { cenv with scope:=relabel scope X.env }) (RR acc cenv.locals) s₄) E s₃) E s:=by
 obtain ⟨W,⟨m0,w0⟩,turn⟩:=hw s.heap.objs.size I.fresh;refine wpAny_newObj_type (k_G ?_);have I3:Inv X pins σ (upd H s.heap.objs.size (.lst [])) { s with heap:=s.heap.push { cls:=.type "list",dict:=none,data:=.seq ([]:List Value).toArray } }:=I.lnew (ys:=[]) (its:=[]) (t':=s.toks) .nil (Nat.zero_le _);have kp:∀ b o,s.heap.get? b=some o->(s.heap.push { cls:=.type "list",dict:=none,data:=.seq ([]:List Value).toArray }).get? b=some o:=λ b o e=>zD _ e;have un0:Un (frs X.stack) fp H (upd H s.heap.objs.size (.lst [])) s.heap (s.heap.push { cls:=.type "list",dict:=none,data:=.seq ([]:List Value).toArray }):=Un.laid kp (zL _) I.fresh;dsimp only;generalize hH2:s.heap.push { cls:=.type "list",dict:=none,data:=.seq ([]:List Value).toArray }=hp2 at I3 kp un0 ⊢;have hsz:s.heap.objs.size<=hp2.objs.size:=by rw [← hH2,Heap.size_push]; exact Nat.le_succ _
 have ft:∀ b∈fp,∃ o,s.heap.get? b=some o:=λ b hb=>let ⟨o,e,_⟩:=T.obj _ _ t0 b hb; ⟨o,e⟩
 have nea:∀ b∈fp,b≠s.heap.objs.size:=λ b hb=>let ⟨_,e⟩:=ft b hb; Nat.ne_of_lt (zE e)
 have f3:∀ b∈fp,FpOk X pins (upd H s.heap.objs.size (.lst [])) b/\∃ o,hp2.get? b=some o:=λ b hb=>by
  obtain ⟨o,e⟩:=ft b hb;exact ⟨⟨by rw [a_H (nea b hb)]; exact (hf b hb).1,(hf b hb).2⟩,o,kp b o e⟩
 have J0:=j_K c I3 f3;have k4:∀ b o,hp2.get? b=some o->(pushCells (hp2.push { cls:=.type "dict",data:=.dict #[] }) scope.names).get? b=some o:=λ b o e=>pushCells_keeps _ _ b o (zD _ e);have t4:tn 0 (pushCells (hp2.push { cls:=.type "dict",data:=.dict #[] }) scope.names):=T.keep 0 _ _ t0 λ b hb o e=>k4 b o (kp b o e);have esc:∀ (s₃:Shared) (H₃:Hp) (fp:List Addr),(b_U X scope (xs++fr.map (·.1)) s₃ H₃ fp).env.scope=g_J sc scope:=λ _ _ _=>o_b c.hsc;have stat:∀ {H':Hp},(∀ b∈fp,H' b=none)->∀ b∈fp,FpOk (b_U X scope (xs++fr.map (·.1)) { s with heap:=hp2 } (upd H s.heap.objs.size (.lst [])) fp) [] H' b:=λ hn b hb=>by
  obtain ⟨e1,e2⟩:=J0.ok.exf b hb;exact ⟨hn b hb,e1,J0.ok.exfs b hb,.inl hb,e2,λ p hp=>yJ (show p∈([]:List (Addr × Obj)) from hp) (by simp)⟩
 have loop:codeAny (model X.prog X.w) X.A (.compLoop (.ListComp elt [⟨tg,iter,ifs,0⟩] scope pos) 0 (.ref it) (.ref s.heap.objs.size) (compEnvC scope (cellsFrom (hp2.objs.size+1) scope.names (clOf X.env scope.names [])) hp2.objs.size X.env))
   (RR (.ref s.heap.objs.size) hp2.objs.size) { s with heap:=pushCells (hp2.push { cls:=.type "dict",data:=.dict #[] }) scope.names }:=by
  refine e_Q (λ n s'=>∃ i,∃ ys:St,∃ H',ys.length=xs.length/\Inv (b_U X scope (xs++fr.map (·.1)) { s with heap:=hp2 } (upd H s.heap.objs.size (.lst [])) fp) [] (ys++c_q fr σ) H' s'/\tn i s'.heap/\(∀ b∈fp,H' b=none)/\W i n H')
   ?_ m0 ⟨0,xs.map λ _=>none,_,by simp,J0,t4,λ b hb=>(f3 b hb).1.1,w0⟩ hifs
  rintro n s3 ⟨i,ys,H3,hys,K3,st3,fr3,w3⟩;rcases turn i n H3 w3 with ⟨stop,qn⟩ | ⟨go,N,hN,step⟩
  ·refine thn (T.done (b_U X scope (xs++fr.map (·.1)) { s with heap:=hp2 } (upd H s.heap.objs.size (.lst [])) fp) rfl rfl rfl hc i [] s3 _ H3 (λ _ _=>False) K3 (stat fr3) st3 stop) λ r s4 ⟨hr,K4⟩=>?_;subst hr;obtain ⟨m4,hn4,_⟩:=K4.loc;have K5:Inv X pins σ H3 s4:=I.call' K4.os (un0.trans K4.base) K4.hok K4.bare λ b hb=>let f:=hf b hb; ⟨f.2.2.2.1,f.2.1,f.2.2.2.2.1,f.2.2.2.2.2⟩
   exact hRR _ _ H3 s4 m4 hn4 K5 (I.fpOk hsz K4.free) qn
  ·refine thn (T.item (b_U X scope (xs++fr.map (·.1)) { s with heap:=hp2 } (upd H s.heap.objs.size (.lst [])) fp) rfl rfl rfl hc i [] s3 _ H3 (λ _ _=>False) K3 (stat fr3) st3 go) λ r s4 ⟨u,hr,h4⟩=>?_;subst hr;refine thn h4 λ _ s5 ⟨y,H5,K5,r5,y5,st5,fr5⟩=>?_;have K5':=K5.pinned (stat fr5) (T.obj _ _ st5);refine thn (hg _ _ _ (esc _ _ _) _ s5 _ H5 y u _ K5' r5 (step ys y H5 hys y5)) λ _ s6 ⟨σ6,H6,K6,⟨ys6,hl6,e6⟩,q6⟩=>?_;subst e6;have fin:∀ (s8:Shared) (H8:Hp),Inv (b_U X scope (xs++fr.map (·.1)) { s with heap:=hp2 } (upd H s.heap.objs.size (.lst [])) fp) ([]++h_h fp s5.heap) (ys6++c_q fr σ) H8 s8->N H8 ->
     ∃ m,m < n/\∃ i,∃ ys:St,∃ H',ys.length=xs.length/\Inv (b_U X scope (xs++fr.map (·.1)) { s with heap:=hp2 } (upd H s.heap.objs.size (.lst [])) fp) [] (ys++c_q fr σ) H' s8/\tn i s8.heap/\(∀ b∈fp,H' b=none)/\W i m H':=by
    intro s8 H8 K8 n8;obtain ⟨m',hm,w8⟩:=hN H8 n8;refine ⟨m',hm,i+1,ys6,H8,hl6,K8.unpinned,T.keep _ _ _ st5 λ b hb o e=>(K8.pin (b,o) (zZ _ (zZ _ (e_v hb e)))).1,λ b hb=>?_,w8⟩;obtain ⟨o,e,d⟩:=T.obj _ _ st5 b hb;exact (K8.pin (b,o) (zZ _ (zZ _ (e_v hb e)))).2.1
   have h7:=he _ _ _ (esc _ _ _) _ s6 _ H6 _ K6 q6;have mono:∀ {Q Q':Option Value->Shared->Prop} {E:Value->Shared->Prop} {s':Shared} {env:Env},(∀ o s1,Q o s1->Q' o s1)->h_D elt ifs env (model X.prog X.w) X.A Q E s'->h_D elt ifs env (model X.prog X.w) X.A Q' E s':=by
    intro Q Q' E s' env hq ht;unfold h_D at ht ⊢
    match ifs,hifs,ht with
    | [],_,ht=>exact zC ht (λ x s1 q=>hq _ _ q) λ _ _ e=>e
    | [c],_,ht =>
     refine zC ht (λ b s1 q=>?_) λ _ _ e=>e;split at q
     ·rename_i hb; rw [if_pos hb]; exact zC q (λ x s2 q=>hq _ _ q) λ _ _ e=>e
     ·rename_i hb; rw [if_neg hb]; exact hq _ _ q
    | _ :: _ :: _,hifs,_=>exact yJ hifs (by simp)
   refine mono (λ o s7 ⟨z7,H7,K7,r7,q7⟩=>?_) h7;cases o with
   | none =>
    cases z7 with
    | none=>exact fin s7 H7 K7 q7
    | some z=>exact r7.elim
   | some v7 =>
    cases z7 with
    | none=>exact r7.elim
    | some z7 =>
     obtain ⟨zs,hz,hl,w7⟩:=q7;exact thn (e_p _ s7 _ H7 (.ref s.heap.objs.size) [z7] (.ref s.heap.objs.size) [v7] (λ _ H8=>N H8) K7 rfl (.cons r7 .nil) ⟨_,zs,z7,rfl,rfl,hz,hl,w7⟩) λ _ s8 ⟨_,H8,K8,_,n8⟩=>fin s8 H8 K8 n8
 exact codeAny_compStart_list loop (T.self _ 0 _ _ _ t4 loop)
variable {wi:TI}
theorem a_X {pos:Pos} (c:c_U X sc scope xs fr) (hc:X.calm=true) (hi:PI X tg iter wi)
  (hg:∀ (s₃:Shared) (H₃:Hp) (fp:List Addr),(b_U X scope (xs++fr.map (·.1)) s₃ H₃ fp).env.scope=g_J sc scope->PG (b_U X scope (xs++fr.map (·.1)) s₃ H₃ fp) tg g)
  (he:∀ (s₃:Shared) (H₃:Hp) (fp:List Addr),(b_U X scope (xs++fr.map (·.1)) s₃ H₃ fp).env.scope=g_J sc scope->POx (b_U X scope (xs++fr.map (·.1)) s₃ H₃ fp) elt ifs tt)
  (hifs:ifs.length<=1:=by exact Nat.le_of_ble_eq_true rfl) (hs:∀ x,foldedSetIterable iter X.env x=pure x:=by intro _; rfl):PE X (.ListComp elt [⟨tg,iter,ifs,0⟩] scope pos) (b_X wi g tt xs.length fr):=by
 intro pins s σ H Q I h;rw [eval_ListComp];refine wpAny_comprehension_free (use:=none) rfl hs (f_Q (c.cells I)) c.kind c.loc (thn (hi pins s σ H _ I h) λ v s1 h1=>thn h1 λ itv s2 h2=>?_);obtain ⟨it,fp,tn,J,H2,e,I2,T,t2,f2,hw⟩:=h2;subst e;refine h_E (RR:=λ acc C=>compPost (model X.prog X.w) X.A X.xe none (EP X pins σ Q) acc C) c hc hifs I2 T t2 f2 hg he hw ?_;intro a C H' s' m hn K f q;exact ⟨m,hn,λ h' hs'=>⟨.ref a,H',K.turned (t':=s'.toks) (λ b o hb e=>(hs'.2 b hb).trans e) f.1 f.2.1 f.2.2.2.1 f.2.2.2.2.1 f.2.2.2.2.2,rfl,q⟩⟩
theorem c_r {pos spos py:Pos} {y:Str} {i:Nat} (c:c_U X sc scope xs fr) (hc:X.calm=true) (hN:X.N.Nodup) (hy:X.N[i]?=some y) (hl:X.env.scope.names.lookup y=some .local) (hi:PI X tg iter wi)
  (hg:∀ (s₃:Shared) (H₃:Hp) (fp:List Addr),(b_U X scope (xs++fr.map (·.1)) s₃ H₃ fp).env.scope=g_J sc scope->PG (b_U X scope (xs++fr.map (·.1)) s₃ H₃ fp) tg g)
  (he:∀ (s₃:Shared) (H₃:Hp) (fp:List Addr),(b_U X scope (xs++fr.map (·.1)) s₃ H₃ fp).env.scope=g_J sc scope->POx (b_U X scope (xs++fr.map (·.1)) s₃ H₃ fp) elt ifs tt)
  (hsw:swapsWith (.ListComp elt [⟨tg,iter,ifs,0⟩] scope pos) (some (.Name y py)) spos.line X.env=pure true:=by rfl)
  (hifs:ifs.length<=1:=by exact Nat.le_of_ble_eq_true rfl) (hs:∀ x,foldedSetIterable iter X.env x=pure x:=by intro _; rfl):PS X (.Assign [.Name y py] (.ListComp elt [⟨tg,iter,ifs,0⟩] scope pos) spos) (e_P i (b_X wi g tt xs.length fr)):=by
 intro pins s σ H D I h;rw [exec_Assign_Name_used _ _ _ _ hsw];refine zA (wpAny_standAt (zA ?_));show wpAny _ _ (do let _ ← comprehension (.ListComp elt [⟨tg,iter,ifs,0⟩] scope pos) scope X.env _ (newList []) false (eval iter X.env) (some (assign (.Name y py) X.env))) _ _ s;refine zA (zC (wpAny_comprehension_free (use:=some (assign (.Name y py) X.env)) (Q:=λ _ s'=>SP X pins D .next s') rfl hs (f_Q (c.cells I)) c.kind c.loc
  (thn (hi pins s σ H _ I h) λ v s1 h1=>thn h1 λ itv s2 h2=>?_)) (λ _ s' hq=>zB (zB hq)) λ _ _ e=>e)
 obtain ⟨it,fp,tn,J,H2,e,I2,T,t2,f2,hw⟩:=h2;subst e;refine h_E (RR:=λ acc C=>compPost (model X.prog X.w) X.A X.xe (some (assign (.Name y py) X.env)) (λ _ s'=>SP X pins D .next s') acc C) (Q:=λ v H1=>D.nx (σ.set i (some v)) H1) c hc hifs I2 T t2 f2 hg he hw ?_;intro a C H' s' m hn K f q;show wpAny _ _ (assign (.Name y py) X.env (.ref a)) _ _ _;refine wpAny_assign_Name (i_n K hN hy (.inl hl) (show RelV (.ref a) (.ref a) from rfl) (λ s'' K2 ⟨b,sb,hb⟩=>?_) (.inr hl));have hCb:C≠b:=by
  rcases hb with e | e
  ·rw [e]; exact f.2.1
  ·exact Ne.symm (f.2.2.2.2.1 y b e)
 refine ⟨m,hn.sameBut sb hCb,λ h' hs'=>?_⟩;exact ⟨_,H',K2.turned (t':=s''.toks) (λ b o hb e=>(hs'.2 b hb).trans e) f.1 f.2.1 f.2.2.2.1 f.2.2.2.2.1 f.2.2.2.2.2,q⟩
end
noncomputable def o_d (sc:Scope) (N:List Str) (scope:Scope) (fr:List (Str × Nat)):Bool :=
 decide (scope.kind=.function) && decide ((scope.names.map (·.1)).Nodup) && decide (∀ y∈scope.names,y.2=.free->sc.names.lookup y.1=some .cell\/sc.names.lookup y.1=some .free) &&
 decide (∀ y∈scope.names,y.2=.local->scope.names.lookup y.1=some .local) && decide (∀ p∈fr,N[p.2]?=some p.1/\scope.names.lookup p.1=some .free)
theorem a_R {X:Cx} {sc scope:Scope} {N xs:List Str} {fr:List (Str × Nat)} (h1:X.env.scope=sc) (h2:X.N=N) (h:o_d sc N scope fr=true):c_U X sc scope xs fr:=by
 unfold o_d at h;simp only [Bool.and_eq_true,decide_eq_true_eq] at h;obtain ⟨⟨⟨⟨e1,e2⟩,e3⟩,e4⟩,e5⟩:=h;subst h2;exact ⟨h1,e1,e2,e3,e4,e5⟩
noncomputable def r_k (sc:Scope) (N:List Str) (i:Nat) (x:Str):Bool:=decide (N.Nodup) && decide (N[i]?=some x) && (decide (sc.names.lookup x=some .local))
theorem a_Y {X:Cx} {sc:Scope} {N:List Str} {i:Nat} {x:Str} {pos:Pos} (h1:X.env.scope=sc) (h2:X.N=N) (h:r_k sc N i x=true):PG X (.Name x pos) (a_M i):=by
 unfold r_k at h;simp only [Bool.and_eq_true,decide_eq_true_eq] at h;subst h1 h2;exact b_E h.1.1 h.1.2 (.inl h.2) (.inr h.2)
theorem d_Z {X:Cx} {sc:Scope} {N:List Str} {i:Nat} {x:Str} {pos:Pos} (h1:X.env.scope=sc) (h2:X.N=N) (h:(decide (N.Nodup) && decide (N[i]?=some x) && (decide (sc.names.lookup x=some .cell)))=true) (hf:X.fn x=true):PG X (.Name x pos) (a_M i):=by
 simp only [Bool.and_eq_true,decide_eq_true_eq] at h;subst h1 h2;exact b_E h.1.1 h.1.2 (.inr h.2) (.inl hf)
noncomputable def SqB (b:Bool) (K:Frag) (H:Hp) (a:Addr) (xs:List V):Prop:=match b with | false=>SqL K H a xs | true=>SqT K H a xs
noncomputable def ItB (b:Bool) (h:Heap) (it a:Addr) (i:Nat):Prop:=match b with | false=>h.IsListIter it a i | true=>h.IsTupleIter it a i
noncomputable def seqB (b:Bool) (h:Heap) (a:Addr) (its:Array Value):Prop:=match b with | false=>h.IsList a its | true=>h.IsTuple a its
noncomputable def nmB (b:Bool):String:=match b with | false => "list_iterator" | true => "tuple_iterator"
theorem ItB.at {b:Bool} {h h':Heap} {it a:Addr} {i:Nat} (x:ItB b h it a i) (e:∀ o,h.get? it=some o->h'.get? it=some o):ItB b h' it a i:=by
 cases b
 ·exact Heap.IsListIter.at x e
 ·exact Heap.IsTupleIter.at x e
theorem seqB.at {b:Bool} {h h':Heap} {a:Addr} {its:Array Value} (x:seqB b h a its) (e:∀ o,h.get? a=some o->h'.get? a=some o):seqB b h' a its:=by
 cases b
 ·exact Heap.IsList.at x e
 ·obtain ⟨o,ho,r⟩:=x;exact ⟨o,e o ho,r⟩
theorem ItB.lt {b:Bool} {h:Heap} {it a:Addr} {i:Nat} (x:ItB b h it a i):∃ o,h.get? it=some o/\∀ v,o.data≠.cell v:=by
 cases b
 ·obtain ⟨o,e,c,d⟩:=x;exact ⟨o,e,λ v z=>by rw [d] at z; cases z⟩
 ·obtain ⟨o,e,c,d⟩:=x;exact ⟨o,e,λ v z=>by rw [d] at z; cases z⟩
section
variable {prog:Program} {w:World} {A:Around} {E:Value->Shared->Prop} {s:Shared}
theorem k_H {it t:Addr} {i:Nat} {items} {x:Value} {Q:Value->Shared->Prop} (hit:s.heap.IsTupleIter it t i) (ht:s.heap.IsTuple t items) (hx:items[i]?=some x)
  (hQ:∀ h',h'.IsTupleIter it t (i+1)->Heap.SameBut it s.heap h'->Q x { s with heap:=h' }):wpAny (model prog w) A (Builtin.SmallTypes.nextOf (.ref it)) Q E s:=by
 obtain ⟨o,ho,hc,hd⟩:=id hit;obtain ⟨ol,hol,_,nl,hdl⟩:=ht;unfold Builtin.SmallTypes.nextOf;refine zA (wpAny_callSpecial?_slot (name:=Str.ofString "__next__") hit.typeIs F.slot_tuple_iterator_next
  (wpAny_call_entry F.slot_tuple_iterator_next hit.typeIs F.entry_tuple_iterator_next ?_ (F.args_tuple_iterator_next_1 _)))
 show wpAny _ _ (field (.ref it) 0 >>= _) _ _ s;refine zA (wpAny_field ho hd (x:=.ref t) rfl ?_);show wpAny _ _ (if (Value.ref t == Value.none)=true then _ else _) _ _ s;rw [if_neg (show ¬ ((Value.ref t == Value.none)=true) from zV)];show wpAny _ _ (field (.ref it) 1 >>= _) _ _ s;refine zA (wpAny_field ho hd (x:=.int i 0) rfl ?_);show wpAny _ _ (seqItems? (.ref t) >>= _) _ _ s;refine zA (wpAny_seqItems hol hdl ?_);simp only [zR,hx];refine zA (wpAny_setField ho hd (by simp) (zB ⟨x,rfl,zB (hQ _ ?_ (Heap.SameBut.update ..))⟩));exact ⟨_,Heap.get?_update_self _ ho (Obj.isFreed_of_fields (Obj.data_mapFields hd _)),(Obj.cls_mapFields ..).trans hc,by
  rw [Obj.data_mapFields hd]; simp [rawInt]⟩
theorem m_F {it t:Addr} {i:Nat} {items} {Q:Value->Shared->Prop} (hh:A.handled=none) (hit:s.heap.IsTupleIter it t i) (ht:s.heap.IsTuple t items) (hx:items[i]?=none)
  (hE:∀ h' e,Heap.ExtBut it s.heap h'->(∃ o,h'.get? e=some o/\o.cls=.type "StopIteration")->E (.ref e) { s with heap:=h' }):wpAny (model prog w) A (Builtin.SmallTypes.nextOf (.ref it)) Q E s:=by
 obtain ⟨o,ho,hc,hd⟩:=id hit;obtain ⟨ol,hol,_,nl,hdl⟩:=ht;unfold Builtin.SmallTypes.nextOf;refine zA (wpAny_callSpecial?_slot (name:=Str.ofString "__next__") hit.typeIs F.slot_tuple_iterator_next
  (wpAny_call_entry F.slot_tuple_iterator_next hit.typeIs F.entry_tuple_iterator_next ?_ (F.args_tuple_iterator_next_1 _)))
 show wpAny _ _ (field (.ref it) 0 >>= _) _ _ s;refine zA (wpAny_field ho hd (x:=.ref t) rfl ?_);show wpAny _ _ (if (Value.ref t == Value.none)=true then _ else _) _ _ s;rw [if_neg (show ¬ ((Value.ref t == Value.none)=true) from zV)];show wpAny _ _ (field (.ref it) 1 >>= _) _ _ s;refine zA (wpAny_field ho hd (x:=.int i 0) rfl ?_);show wpAny _ _ (seqItems? (.ref t) >>= _) _ _ s;refine zA (wpAny_seqItems hol hdl ?_);simp only [zR,hx];refine zA (wpAny_rule (zA (wpAny_setField ho hd (by simp) ?_)));show wpAny _ _ (newExc (.type "StopIteration") [] >>= _) _ _ _;refine zA ?_;simp only [newExc,newTuple];refine zA (wpAny_newObj_type ?_ (by size_fits));refine zA (m:=firstArgMember _ _) (wpAny_of_eq (a:=Value.none) (by first | rfl | (simp only [firstArgMember]; rfl)) ?_);refine wpAny_newObj_type ?_ (by size_fits);simp only [raiseNew];refine zA (wpAny_handled ?_)
 first | rw [show A.in1.handled=none from hh] | rw [hh]
 refine zA (zB (wpAny_throw ?_));exact hE _ _ (((Heap.SameBut.update ..).extBut.push _).push _) ⟨_,zF _ rfl,rfl⟩
theorem e_y {b:Bool} {it l:Addr} {i:Nat} {items:Array Value} {x:Value} {Q:Value->Shared->Prop} (hit:ItB b s.heap it l i) (hl:seqB b s.heap l items) (hx:items[i]?=some x)
  (hQ:∀ h',ItB b h' it l (i+1)->Heap.SameBut it s.heap h'->Q x { s with heap:=h' }):wpAny (model prog w) A (Builtin.SmallTypes.nextOf (.ref it)) Q E s:=by
 cases b
 ·exact wpAny_nextOf_list_item hit hl hx hQ
 ·exact k_H hit hl hx hQ
theorem g_r {b:Bool} {it l:Addr} {i:Nat} {items:Array Value} {Q:Value->Shared->Prop} (hh:A.handled=none) (hit:ItB b s.heap it l i) (hl:seqB b s.heap l items) (hx:items[i]?=none)
  (hE:∀ h' e,Heap.ExtBut it s.heap h'->(∃ o,h'.get? e=some o/\o.cls=.type "StopIteration")->E (.ref e) { s with heap:=h' }):wpAny (model prog w) A (Builtin.SmallTypes.nextOf (.ref it)) Q E s:=by
 cases b
 ·exact wpAny_nextOf_list_end hh hit hl hx hE
 ·exact m_F hh hit hl hx hE
theorem r_l {b:Bool} {l:Addr} {items:Array Value} {Q:Value->Shared->Prop} (hl:seqB b s.heap l items)
  (hQ:Q (.ref s.heap.objs.size) { s with heap:=s.heap.push { cls:=.type (nmB b),data:=.fields #[.ref l,.int 0 0] } }):wpAny (model prog w) A (pyIter (.ref l)) Q E s:=by
 cases b
 ·exact wpAny_pyIter_list hl hQ
 ·exact wpAny_pyIter_tuple hl hQ
theorem i_z {b:Bool} {h:Heap} {l:Addr}:ItB b (h.push { cls:=.type (nmB b),data:=.fields #[.ref l,.int 0 0] }) h.objs.size l 0:=by
 cases b
 ·exact ⟨_,zF _ rfl,rfl,rfl⟩
 ·exact ⟨_,zF _ rfl,rfl,rfl⟩
theorem o_e (b:Bool) (hh:A.handled=none) (it l:Addr) (hne:l≠it) (items:Array Value) :
  Draws prog w A it [it,l] items.size (λ i v=>items[i]?=some v) (λ i h=>ItB b h it l i/\seqB b h l items) where
 live:=λ _ _ st=>let ⟨o,ho,_⟩:=st.1.lt; ⟨o,ho⟩
 frame:=λ _ _ _ st hk=>⟨st.1.at λ o e=>hk it (by simp) o e,st.2.at λ o e=>hk l (by simp) o e⟩
 item:=λ i s Q E hi st hQ=>by
  refine e_y st.1 st.2 (x:=items[i]) (by simp [hi]) λ h' hit' hs'=>?_;exact hQ _ h' s.toks (by simp [hi]) ⟨hit',st.2.at λ o e=>(hs'.2 l hne).trans e⟩ hs'
 done:=λ s Q E st hE=>g_r hh st.1 st.2 (by simp) hE
theorem m_G {b1 b2:Bool} {z TI TO i1 i2 l1 l2:Addr} {k1 k2:Nat} {xs ys:Array Value} {x y a b:Value} {Q:Option Value->Shared->Prop} (D:ZipApart z TI TO i1 i2 l1 l2)
  (hz:IsZip s.heap z TI TO .none) (hTI:IsPair s.heap TI (.ref i1) (.ref i2)) (hTO:IsPair s.heap TO a b)
  (h1:ItB b1 s.heap i1 l1 k1) (h2:ItB b2 s.heap i2 l2 k2) (hl1:seqB b1 s.heap l1 xs) (hl2:seqB b2 s.heap l2 ys) (hx:xs[k1]?=some x) (hy:ys[k2]?=some y)
  (hQ:∀ h',IsZip h' z TI TO (rawInt s.heap.objs.size)->IsPair h' TO x y->ItB b1 h' i1 l1 (k1+1)->ItB b2 h' i2 l2 (k2+1)->IsPair h' s.heap.objs.size x y->h'.objs.size=s.heap.objs.size+1 ->
   (∀ c o,c≠z->c≠TO->c≠i1->c≠i2->s.heap.get? c=some o->h'.get? c=some o)->Q (some (.ref s.heap.objs.size)) { s with heap:=h' }) :
  wpAny (model prog w) A (pyNext (.ref z)) Q E s:=by
 have hT:s.TypeIs (.ref z) "zip" := ⟨_,hz,rfl⟩;unfold pyNext;refine zA (wpAny_attempt (wpAny_callSpecial?_slot (name:=Str.ofString "__next__") hT F.slot_zip_next (wpAny_call_entry F.slot_zip_next hT F.entry_zip_next ?_ (F.args_zip_next_1 _))));show wpAny _ _ (field (.ref z) 2 >>= _) _ _ _;refine zA (wpAny_field hz rfl (x:=.bool false) rfl ?_);show wpAny _ _ (field (.ref z) 3 >>= _) _ _ _;refine zA (wpAny_field hz rfl (x:=.ref TI) rfl ?_);refine zA (wpAny_seqItems hTI rfl ?_);show wpAny _ _ (Builtin.SmallTypes.ownedTupleIsFree (.ref z) >>= _) _ _ _;refine zA ?_;unfold Builtin.SmallTypes.ownedTupleIsFree;refine zA (wpAny_field hz rfl (x:=.none) rfl (zB ?_));simp only [if_true];refine zA (wpAny_rule ?_);refine zA (wpAny_field hz rfl (x:=.ref TO) rfl ?_);refine zA (wpAny_setField_rec hz (by simp) λ h₁ hz₁ hs₁=>?_);replace hz₁:IsZip h₁ z TI TO .ellipsis:=hz₁;refine zA ?_;simp only [List.zipIdx_cons,List.zipIdx_nil,List.forIn_cons,List.forIn_nil];refine zA (zA (wpAny_onRaise ?_));show wpAny _ _ (Builtin.SmallTypes.nextOf (.ref i1) >>= _) _ _ _;refine zA (e_y (h1.at λ o e=>hs₁.extBut _ _ D.i1z e) (hl1.at λ o e=>hs₁.extBut _ _ D.l1z e) hx λ h₂ h1₂ hs₂=>zB ?_);have hTO₂:IsPair h₂ TO a b:=hs₂.extBut _ _ D.TOi1 (hs₁.extBut _ _ D.TOz hTO);refine zA (wpAny_seqItems hTO₂ rfl ?_);refine zA (wpAny_updateSeq_pair hTO₂ λ h₃ hTO₃ hs₃=>?_);replace hTO₃:IsPair h₃ TO x b:=hTO₃;refine zA (wpAny_letGo (zB ?_));refine zA (zA (wpAny_onRaise ?_));show wpAny _ _ (Builtin.SmallTypes.nextOf (.ref i2) >>= _) _ _ _;refine zA (e_y (h2.at λ o e=>hs₃.extBut _ _ D.TOi2.symm (hs₂.extBut _ _ D.i12.symm (hs₁.extBut _ _ D.i2z e)))
  (hl2.at λ o e=>hs₃.extBut _ _ D.l2TO (hs₂.extBut _ _ D.l2i1 (hs₁.extBut _ _ D.l2z e))) hy λ h₄ h2₄ hs₄=>zB ?_)
 have hTO₄:IsPair h₄ TO x b:=hs₄.extBut _ _ D.TOi2 hTO₃;refine zA (wpAny_seqItems hTO₄ rfl ?_);refine zA (wpAny_updateSeq_pair hTO₄ λ h₅ hTO₅ hs₅=>?_);replace hTO₅:IsPair h₅ TO x y:=hTO₅;refine zA (wpAny_letGo (zB (zB ?_)));refine zA (wpAny_seqItems hTO₅ rfl ?_);refine zA (wpAny_newTuple ?_);have hsz:h₅.objs.size=s.heap.objs.size:=by rw [hs₅.1,hs₄.1,hs₃.1,hs₂.1,hs₁.1]
 have hz₅:IsZip h₅ z TI TO .ellipsis:=hs₅.extBut _ _ D.TOz.symm (hs₄.extBut _ _ D.i2z.symm (hs₃.extBut _ _ D.TOz.symm (hs₂.extBut _ _ D.i1z.symm hz₁)));have hk₅:∀ c o,c≠z->c≠TO->c≠i1->c≠i2->s.heap.get? c=some o->h₅.get? c=some o:=λ c o c1 c2 c3 c4 e =>
  hs₅.extBut _ _ c2 (hs₄.extBut _ _ c4 (hs₃.extBut _ _ c2 (hs₂.extBut _ _ c3 (hs₁.extBut _ _ c1 e))))
 have h1₅:ItB b1 h₅ i1 l1 (k1+1):=h1₂.at λ o e=>hs₅.extBut _ _ D.TOi1.symm (hs₄.extBut _ _ D.i12 (hs₃.extBut _ _ D.TOi1.symm e));have h2₅:ItB b2 h₅ i2 l2 (k2+1):=h2₄.at λ o e=>hs₅.extBut _ _ D.TOi2.symm e;have hzlt:z < h₅.objs.size:=zE hz₅;show wpAny _ _ (Builtin.SmallTypes.ownedTupleHandOut (.ref z) (.ref h₅.objs.size) >>= _) _ _ _;refine zA ?_;unfold Builtin.SmallTypes.ownedTupleHandOut;have hz₆:IsZip (h₅.push { cls:=.type "tuple",data:=.seq #[x,y] }) z TI TO .ellipsis:=zD _ hz₅;refine zA (wpAny_setField_rec hz₆ (by simp) λ h₇ hz₇ hs₇=>?_);replace hz₇:IsZip h₇ z TI TO (rawInt h₅.objs.size):=hz₇;refine wpAny_setField_rec hz₇ (by simp) λ h₈ hz₈ hs₈=>?_;replace hz₈:IsZip h₈ z TI TO (rawInt h₅.objs.size):=hz₈;have up:∀ c o,c≠z->h₅.get? c=some o->h₈.get? c=some o:=λ c o c1 e=>hs₈.extBut _ _ c1 (hs₇.extBut _ _ c1 (zD _ e));have hT₈:IsPair h₈ h₅.objs.size x y:=hs₈.extBut _ _ (Nat.ne_of_gt hzlt) (hs₇.extBut _ _ (Nat.ne_of_gt hzlt) (zF _ rfl));have hz8:h₈.objs.size=h₅.objs.size+1:=by rw [hs₈.1,hs₇.1,Heap.size_push]
 rw [hsz] at hz₈ hT₈ hz8;refine zB ⟨_,rfl,zB ?_⟩;show Q (some (.ref h₅.objs.size)) _;rw [hsz];exact hQ h₈ hz₈ (up _ _ D.TOz hTO₅) (h1₅.at λ o e=>up _ o D.i1z e) (h2₅.at λ o e=>up _ o D.i2z e) hT₈ hz8 λ c o c1 c2 c3 c4 e=>up c o c1 (hk₅ c o c1 c2 c3 c4 e)
theorem o_f {b1 b2:Bool} {z TI TO i1 i2 l1 l2:Addr} {k1 k2:Nat} {xs ys:Array Value} {a b:Value} {Q:Option Value->Shared->Prop} (hh:A.handled=none) (D:ZipApart z TI TO i1 i2 l1 l2)
  (hz:IsZip s.heap z TI TO .none) (hTI:IsPair s.heap TI (.ref i1) (.ref i2)) (hTO:IsPair s.heap TO a b)
  (h1:ItB b1 s.heap i1 l1 k1) (h2:ItB b2 s.heap i2 l2 k2) (hl1:seqB b1 s.heap l1 xs) (hl2:seqB b2 s.heap l2 ys) (hend:xs[k1]?=none\/ys[k2]?=none)
  (hQ:∀ h',(∀ c o,c≠z->c≠TO->c≠i1->c≠i2->s.heap.get? c=some o->h'.get? c=some o)->Q none { s with heap:=h' }):wpAny (model prog w) A (pyNext (.ref z)) Q E s:=by
 have hT:s.TypeIs (.ref z) "zip" := ⟨_,hz,rfl⟩;unfold pyNext;refine zA (wpAny_attempt (wpAny_callSpecial?_slot (name:=Str.ofString "__next__") hT F.slot_zip_next (wpAny_call_entry F.slot_zip_next hT F.entry_zip_next (Q:=_) ?_ (F.args_zip_next_1 _))));show wpAny _ _ (field (.ref z) 2 >>= _) _ _ _;refine zA (wpAny_field hz rfl (x:=.bool false) rfl ?_);show wpAny _ _ (field (.ref z) 3 >>= _) _ _ _;refine zA (wpAny_field hz rfl (x:=.ref TI) rfl ?_);refine zA (wpAny_seqItems hTI rfl ?_);show wpAny _ _ (Builtin.SmallTypes.ownedTupleIsFree (.ref z) >>= _) _ _ _;refine zA ?_;unfold Builtin.SmallTypes.ownedTupleIsFree;refine zA (wpAny_field hz rfl (x:=.none) rfl (zB ?_));simp only [if_true];refine zA (wpAny_rule ?_);refine zA (wpAny_field hz rfl (x:=.ref TO) rfl ?_);refine zA (wpAny_setField_rec hz (by simp) λ h₁ hz₁ hs₁=>?_);replace hz₁:IsZip h₁ z TI TO .ellipsis:=hz₁;refine zA ?_;simp only [List.zipIdx_cons,List.zipIdx_nil,List.forIn_cons,List.forIn_nil];refine zA (zA (wpAny_onRaise ?_));show wpAny _ _ (Builtin.SmallTypes.nextOf (.ref i1) >>= _) _ _ _;cases hx:xs[k1]? with
 | none =>
  refine zA (g_r hh (h1.at λ o e=>hs₁.extBut _ _ D.i1z e) (hl1.at λ o e=>hs₁.extBut _ _ D.l1z e) hx λ h₂ e hs₂ he=>?_);obtain ⟨oe,hoe,hce⟩:=he;have hz₂:IsZip h₂ z TI TO .ellipsis:=hs₂ _ _ D.i1z.symm hz₁;have hez:e≠z:=λ x=>by subst x; rw [hz₂] at hoe; cases hoe; simp at hce
  refine wpAny_setField_rec hz₂ (by simp) λ h₃ _ hs₃=>?_;refine zA (wpAny_isInstance (T := "StopIteration") (b:=true) ⟨oe,hs₃.extBut _ _ hez hoe,hce⟩ isSubtype_stop ?_);exact zB (hQ h₃ λ c o c1 _ c3 _ x=>hs₃.extBut _ _ c1 (hs₂ _ _ c3 (hs₁.extBut _ _ c1 x)))
 | some x =>
  have hy:ys[k2]?=none:=by rcases hend with h | h; rw [hx] at h; cases h; exact h
  refine zA (e_y (h1.at λ o e=>hs₁.extBut _ _ D.i1z e) (hl1.at λ o e=>hs₁.extBut _ _ D.l1z e) hx λ h₂ h1₂ hs₂=>zB ?_);have hTO₂:IsPair h₂ TO a b:=hs₂.extBut _ _ D.TOi1 (hs₁.extBut _ _ D.TOz hTO);refine zA (wpAny_seqItems hTO₂ rfl ?_);refine zA (wpAny_updateSeq_pair hTO₂ λ h₃ hTO₃ hs₃=>?_);refine zA (wpAny_letGo (zB ?_));refine zA (zA (wpAny_onRaise ?_));show wpAny _ _ (Builtin.SmallTypes.nextOf (.ref i2) >>= _) _ _ _;refine zA (g_r hh (h2.at λ o e=>hs₃.extBut _ _ D.TOi2.symm (hs₂.extBut _ _ D.i12.symm (hs₁.extBut _ _ D.i2z e)))
   (hl2.at λ o e=>hs₃.extBut _ _ D.l2TO (hs₂.extBut _ _ D.l2i1 (hs₁.extBut _ _ D.l2z e))) hy λ h₄ e hs₄ he=>?_)
  obtain ⟨oe,hoe,hce⟩:=he;have hz₄:IsZip h₄ z TI TO .ellipsis:=hs₄ _ _ D.i2z.symm (hs₃.extBut _ _ D.TOz.symm (hs₂.extBut _ _ D.i1z.symm hz₁));have hez:e≠z:=λ x=>by subst x; rw [hz₄] at hoe; cases hoe; simp at hce
  refine wpAny_setField_rec hz₄ (by simp) λ h₅ _ hs₅=>?_;refine zA (wpAny_isInstance (T := "StopIteration") (b:=true) ⟨oe,hs₅.extBut _ _ hez hoe,hce⟩ isSubtype_stop ?_);exact zB (hQ h₅ λ c o c1 c2 c3 c4 x=>hs₅.extBut _ _ c1 (hs₄ _ _ c4 (hs₃.extBut _ _ c2 (hs₂.extBut _ _ c3 (hs₁.extBut _ _ c1 x)))))
end
noncomputable abbrev zB1 (b1:Bool) (h:Heap) (l1:Addr):Heap:=h.push { cls:=.type (nmB b1),data:=.fields #[.ref l1,.int 0 0] }
noncomputable abbrev zB2 (b1 b2:Bool) (h:Heap) (l1 l2:Addr):Heap:=(zB1 b1 h l1).push { cls:=.type (nmB b2),data:=.fields #[.ref l2,.int 0 0] }
noncomputable abbrev zB3 (b1 b2:Bool) (h:Heap) (l1 l2:Addr):Heap:=(zB2 b1 b2 h l1 l2).push { cls:=.type "tuple",data:=.seq #[.ref h.objs.size,.ref (zB1 b1 h l1).objs.size] }
noncomputable abbrev zB4 (b1 b2:Bool) (h:Heap) (l1 l2:Addr):Heap:=(zB3 b1 b2 h l1 l2).push { cls:=.type "tuple",data:=.seq #[.none,.none] }
noncomputable abbrev zB5 (b1 b2:Bool) (h:Heap) (l1 l2:Addr):Heap:=(zB4 b1 b2 h l1 l2).push { cls:=.type "zip",data:=.fields #[.none,.bool false,.bool false,.ref (zB2 b1 b2 h l1 l2).objs.size,.ref (zB3 b1 b2 h l1 l2).objs.size] }
theorem k_I (b1 b2:Bool) (l1 l2:Addr) (xs ys:Array Value) :
  Meets (Builtin.«zip.__new__» ⟨[.type "zip",.ref l1,.ref l2],[]⟩) (λ _ R s=>seqB b1 s.heap l1 xs/\seqB b2 s.heap l2 ys /\
   R (.ok (.ret (.ref (zB4 b1 b2 s.heap l1 l2).objs.size))) { s with heap:=zB5 b1 b2 s.heap l1 l2 }) :=
 .of_wp λ prog w A R s h=>by
  obtain ⟨hp,g,d,tk,os⟩:=s; obtain ⟨hl1,hl2,h⟩:=h;have hsub:=sub_zip;have hL1:seqB b1 (Shared.heap ⟨hp,g,d,tk,os⟩) l1 xs:=hl1;have hL2:seqB b2 (Shared.heap ⟨hp.push { cls:=.type (nmB b1),data:=.fields #[.ref l1,.int 0 0] },g,d,tk,os⟩) l2 ys:=hl2.at λ o e=>zD _ e
  wp_walk using r_l hL1,r_l hL2
  exact ⟨_,rfl,h⟩
theorem m_H {prog:Program} {w:World} {A:Around} {E:Value->Shared->Prop} {s:Shared} {b1 b2:Bool} {l1 l2:Addr} {xs ys:Array Value} {Q:Value->Shared->Prop} (hl1:seqB b1 s.heap l1 xs) (hl2:seqB b2 s.heap l2 ys)
  (h:∀ h',IsZip h' (s.heap.objs.size+4) (s.heap.objs.size+2) (s.heap.objs.size+3) .none->IsPair h' (s.heap.objs.size+2) (.ref s.heap.objs.size) (.ref (s.heap.objs.size+1)) ->
   IsPair h' (s.heap.objs.size+3) .none .none->ItB b1 h' s.heap.objs.size l1 0->ItB b2 h' (s.heap.objs.size+1) l2 0 ->
   (∀ c o,s.heap.get? c=some o->h'.get? c=some o)->Q (.ref (s.heap.objs.size+4)) { s with heap:=h' }) :
  wpAny (model prog w) A (call (.type "zip") [.ref l1,.ref l2]) Q E s:=by
 refine callType_new F.called_zip (by decide) (F.typeCall_zip_2 _ _) (F.newCall_zip_2 _ _) (λ obj=>F.args_object_init_3 obj _ _) F.entry_zip_new
  (k_I b1 b2 l1 l2 xs ys) ⟨hl1,hl2,?_⟩
 have z1:(zB1 b1 s.heap l1).objs.size=s.heap.objs.size+1:=Heap.size_push ..;have z2:(zB2 b1 b2 s.heap l1 l2).objs.size=s.heap.objs.size+2:=by rw [Heap.size_push,z1]
 have z3:(zB3 b1 b2 s.heap l1 l2).objs.size=s.heap.objs.size+3:=by rw [Heap.size_push,z2]
 have z4:(zB4 b1 b2 s.heap l1 l2).objs.size=s.heap.objs.size+4:=by rw [Heap.size_push,z3]
 have g5:(zB5 b1 b2 s.heap l1 l2).get? (zB4 b1 b2 s.heap l1 l2).objs.size=some _:=zF _ rfl;have g4:(zB5 b1 b2 s.heap l1 l2).get? (zB3 b1 b2 s.heap l1 l2).objs.size=some _:=zD _ (zF _ rfl);have g3:(zB5 b1 b2 s.heap l1 l2).get? (zB2 b1 b2 s.heap l1 l2).objs.size=some _:=zD _ (zD _ (zF _ rfl));have u2:∀ c o,(zB2 b1 b2 s.heap l1 l2).get? c=some o->(zB5 b1 b2 s.heap l1 l2).get? c=some o:=λ c o e=>zD _ (zD _ (zD _ e));have g2:ItB b2 (zB5 b1 b2 s.heap l1 l2) (zB1 b1 s.heap l1).objs.size l2 0:=i_z.at λ o e=>u2 _ o e;have g1:ItB b1 (zB5 b1 b2 s.heap l1 l2) s.heap.objs.size l1 0:=i_z.at λ o e=>u2 _ o (zD _ e);show _/\_;rw [z2,z3,z4] at g5;rw [z1,z2] at g3;rw [z3] at g4;rw [z1] at g2;rw [z4];exact ⟨⟨_,g5,rfl⟩,h _ g5 g3 g4 g1 g2 λ c o x=>u2 c o (zD _ (zD _ x))⟩
section
variable {X:Cx} {pins:List (Addr × Obj)} {σ:St} {H:Hp} {s:Shared} {h':Heap}
theorem Inv.seqB {b:Bool} {a:Addr} {xs:List V} (I:Inv X pins σ H s) (h:SqB b X.K H a xs):∃ its:List Value,Vals xs its/\L2.seqB b s.heap a its.toArray:=by
 cases b
 ·obtain ⟨its,rv,p,_⟩:=I.list h;exact ⟨its,rv,p.isList⟩
 ·obtain ⟨its,rv,p,_⟩:=I.tuple h;exact ⟨its,rv,p⟩
theorem Inv.seqB_inj {b:Bool} {a:Addr} {xs ys:List V} (I:Inv X pins σ H s) (h:SqB b X.K H a xs) (h2:SqB b X.K H a ys):xs=ys:=by
 cases b
 ·exact I.list_inj h h2
 ·exact I.tuple_inj h h2
theorem Inv.seq_ne {b:Bool} {a f:Addr} {xs:List V} (I:Inv X pins σ H s) (h:SqB b X.K H a xs) (hf:FpOk X pins H f):a≠f:=by
 have rd:∀ u,Rd H a u->a≠f:=λ u r z=>by
  subst z;rcases r with r | ⟨o,r⟩ <;> (rw [hf.1] at r; cases r)
 have kk:∀ o,X.K.lookup a=some o->a≠f:=λ o e z=>by
  subst z;have q:=I.mod.kin a o e;rcases hf.2.2.2.1 with w | w
  ·exact I.ok.noex _ _ q w
  ·exact yJ (zI (zE q) (zS I.ok.bsz w)) (Nat.lt_irrefl _)
 cases b
 ·rcases h with h | ⟨o,its,n,hk,_⟩
  ·exact rd _ h
  ·exact kk _ hk
 ·rcases h with h | ⟨o,its,n,hk,_⟩
  ·exact rd _ h
  ·exact kk _ hk
theorem Inv.turnedNew {fp:List Addr} {n:Addr} {u:HO} {t':Nat} (I:Inv X pins σ H s) (hf:∀ b∈fp,FpOk X pins H b) (k:∀ b o,b ∉ fp->s.heap.get? b=some o->h'.get? b=some o) (hn:s.heap.objs.size<=n)
  (new:c_v X.prog X.w (upd H n u) h' n u):Inv X pins σ (upd H n u) { s with heap:=h',toks:=t' }:=by
 have fn:=I.hok.fresh hn;have nfp:∀ b v,H b=some v->b ∉ fp:=λ b v e z=>by rw [(hf b z).1] at e; cases e
 have nl:X.env.locals ∉ fp:=λ z=>(hf _ z).2.1 rfl;refine I.step (g':=s.gens) (d':=s.drawn) (ch:=fp) (λ b hb=>?_) (λ b o _ _ hc e _=>k b o hc e) (λ b o _ _ hc e _=>⟨o.slots,k b o hc e⟩) (λ b o _ e z=>?_)
  (λ b o hc e=>⟨o,k b o hc e⟩) (λ b xs e=>?_) (λ b o v e=>?_) (λ b ps e=>⟨#[],?_⟩) (λ m hm=>?_) (λ b v e=>?_) I.bare
 ·obtain ⟨f0,f1,f2,f3,f4,f5⟩:=hf b hb;exact ⟨f3,f1,f4,f5⟩
 ·rw [a_H (Nat.ne_of_lt (zI (zE e) hn))];exact z
 ·rw [a_H (a_J e fn)]; exact e
 ·rw [a_H (a_J e fn)]; exact e
 ·rw [a_H (a_J e fn),e]; simp
 ·obtain ⟨o,es,ep,ho,r⟩:=hm;exact ⟨o,es,ep,k _ o nl ho,r⟩
 ·by_cases hb:b=n
  ·subst hb;rw [a_G] at e;cases e;exact new
  ·rw [a_H hb] at e;refine (I.hok b v e).stay (λ c x hc q=>k c x ?_ q) (λ c q=>by rw [a_H (a_J q fn)]; exact q) λ c xs q=>by rw [a_H (a_J q fn)]; exact q
   rcases hc with z | z
   ·rw [z]; exact nfp b v e
   ·exact nfp c _ z
theorem Inv.turnedL {fp:List Addr} {t':Nat} (I:Inv X pins σ H s) (hf:∀ b∈fp,FpOk X pins H b) (k:∀ b o,b ∉ fp->s.heap.get? b=some o->h'.get? b=some o):Inv X pins σ H { s with heap:=h',toks:=t' }:=by
 have nfp:∀ b v,H b=some v->b ∉ fp:=λ b v e z=>by rw [(hf b z).1] at e; cases e
 have nl:X.env.locals ∉ fp:=λ z=>(hf _ z).2.1 rfl;refine I.step (g':=s.gens) (d':=s.drawn) (ch:=fp) (λ b hb=>?_) (λ b o _ _ hc e _=>k b o hc e) (λ b o _ _ hc e _=>⟨o.slots,k b o hc e⟩) (λ b o _ e z=>z)
  (λ b o hc e=>⟨o,k b o hc e⟩) (λ b xs e=>e) (λ b o v e=>e) (λ b ps e=>⟨#[],by rw [e]; simp⟩) (λ m hm=>?_) (λ b v e=>?_) I.bare
 ·obtain ⟨f0,f1,f2,f3,f4,f5⟩:=hf b hb;exact ⟨f3,f1,f4,f5⟩
 ·obtain ⟨o,es,ep,ho,r⟩:=hm;exact ⟨o,es,ep,k _ o nl ho,r⟩
 ·refine (I.hok b v e).stay (λ c x hc q=>k c x ?_ q) (λ c q=>q) λ c xs q=>q;rcases hc with z | z
  ·rw [z]; exact nfp b v e
  ·exact nfp c _ z
end
noncomputable def Itz (K:Frag) (b1:Bool) (l1:Addr) (b2:Bool) (l2:Addr):It :=
  ⟨λ i H=>∃ xs ys x y,SqB b1 K H l1 xs/\SqB b2 K H l2 ys/\xs[i]?=some x/\ys[i]?=some y,
   λ i H v H'=>∃ p x y,v=.ref p/\H p=none/\H'=upd H p (.tup [x,y])/\(∀ xs,SqB b1 K H l1 xs->xs[i]?=some x)/\∀ ys,SqB b2 K H l2 ys->ys[i]?=some y,
   λ i H=>∃ xs ys,SqB b1 K H l1 xs/\SqB b2 K H l2 ys/\(xs[i]?=none\/ys[i]?=none)⟩
theorem l_r {xs:List V} {its:List Value} {i:Nat} (r:Vals xs its):xs[i]?=none->its.toArray[i]?=none:=λ h=>by
 have:=r.none_of h;simpa using this
theorem o_g {P:Program} {w:World} {K:Frag} {es:List Expr} {k:Nat} {pos:Pos} {b1 b2:Bool} {z TI TO i1 i2 l1 l2:Addr} (hd:[z,TI,TO,i1,i2].Nodup) :
  Turn P w K (.Tuple es k pos) (Itz K b1 l1 b2 l2) [z,TI,TO,i1,i2] z (λ i h=>IsZip h z TI TO .none/\IsPair h TI (.ref i1) (.ref i2)/\(∃ a b,IsPair h TO a b)/\ItB b1 h i1 l1 i/\ItB b2 h i2 l2 i) where
 mem:=by simp
 obj:=λ i h ⟨hz,hTI,⟨a,b,hTO⟩,h1,h2⟩ c hc=>by
  simp only [List.mem_cons,List.not_mem_nil,or_false] at hc;rcases hc with e | e | e | e | e <;> subst e
  ·exact ⟨_,hz,λ v q=>by have q':Data.fields _=Data.cell v:=q; cases q'⟩
  ·exact ⟨_,hTI,λ v q=>by have q':Data.seq _ _=Data.cell v:=q; cases q'⟩
  ·exact ⟨_,hTO,λ v q=>by have q':Data.seq _ _=Data.cell v:=q; cases q'⟩
  ·exact h1.lt
  ·exact h2.lt
 keep:=λ i h h' ⟨hz,hTI,⟨a,b,hTO⟩,h1,h2⟩ kk=>⟨kk z (by simp) _ hz,kk TI (by simp) _ hTI,⟨a,b,kk TO (by simp) _ hTO⟩,h1.at λ o e=>kk i1 (by simp) o e,h2.at λ o e=>kk i2 (by simp) o e⟩
 item:=by
  intro X hP hw hK hc i pins s σ H E I hf st hg;subst hP hw hK;obtain ⟨hz,hTI,⟨a,b,hTO⟩,h1,h2⟩:=st;obtain ⟨xs,ys,x,y,q1,q2,e1,e2⟩:=hg;obtain ⟨its1,r1,p1⟩:=I.seqB q1;obtain ⟨its2,r2,p2⟩:=I.seqB q2;obtain ⟨u1,hu1,ru1⟩:=r1.get e1;obtain ⟨u2,hu2,ru2⟩:=r2.get e2;have ne1:∀ f∈[z,TI,TO,i1,i2],l1≠f:=λ f hff=>I.seq_ne q1 (hf f hff);have ne2:∀ f∈[z,TI,TO,i1,i2],l2≠f:=λ f hff=>I.seq_ne q2 (hf f hff);simp only [List.nodup_cons,List.mem_cons,List.not_mem_nil,or_false,not_or,List.nodup_nil,and_true,not_false_eq_true] at hd;obtain ⟨⟨d1,d2,d3,d4⟩,⟨d5,d6,d7⟩,⟨d8,d9⟩,d10⟩:=hd;have D:ZipApart z TI TO i1 i2 l1 l2:=⟨Ne.symm d1,Ne.symm d2,Ne.symm d3,Ne.symm d4,d5,d6,d7,d8,d9,d10,ne1 z (by simp),ne1 TO (by simp),ne1 i1 (by simp),ne1 i2 (by simp),ne2 z (by simp),ne2 TO (by simp),ne2 i1 (by simp),ne2 i2 (by simp)⟩;refine m_G D hz hTI hTO h1 h2 p1 p2 (x:=u1) (y:=u2) (by simpa using hu1) (by simpa using hu2) λ h' a1 a2 a3 a4 a5 a6 a7=>⟨_,rfl,?_⟩;refine wpAny_letOwnedTupleGo_zip a1 λ h'' hz' hs'=>?_;have up:∀ c o,c ∉ [z,TI,TO,i1,i2]->s.heap.get? c=some o->h''.get? c=some o:=λ c o hc' e=>by
   simp only [List.mem_cons,List.not_mem_nil,or_false,not_or] at hc';obtain ⟨c1,c2,c3,c4,c5⟩:=hc';exact hs'.extBut _ _ c1 (a7 c o c1 c3 c4 c5 e)
  have nz:s.heap.objs.size≠z:=Nat.ne_of_gt (zE hz);have new:c_v X.prog X.w (upd H s.heap.objs.size (.tup [x,y])) h'' s.heap.objs.size (.tup [x,y]) :=
   ⟨by show 2<=sizeLine; decide,[u1,u2],.cons ru1 (.cons ru2 .nil),⟨_,hs'.extBut _ _ nz a5,rfl,_,rfl⟩⟩
  have I2:Inv X pins σ (upd H s.heap.objs.size (.tup [x,y])) { s with heap:=h'' }:=I.turnedNew (t':=s.toks) hf up (zL _) new;refine ⟨.ref s.heap.objs.size,_,I2,rfl,⟨_,x,y,rfl,I.fresh,rfl,λ xs' q=>by rw [I.seqB_inj q q1]; exact e1,λ ys' q=>by rw [I.seqB_inj q q2]; exact e2⟩,⟨hz',hs'.extBut _ _ D.TIz (a7 _ _ D.TIz D.TITO D.TIi1 D.TIi2 hTI),⟨_,_,hs'.extBut _ _ D.TOz a2⟩,a3.at λ o e=>hs'.extBut _ _ D.i1z e,a4.at λ o e=>hs'.extBut _ _ D.i2z e⟩,λ c hc'=>?_⟩;have hcf:=(hf c hc').1;rw [a_H]
  ·exact hcf
  ·intro e;subst e;simp only [List.mem_cons,List.not_mem_nil,or_false] at hc';rcases hc' with e | e | e | e | e
   ·exact nz e
   ·exact yJ (zE hTI) (by rw [← e]; exact Nat.lt_irrefl _)
   ·exact yJ (zE hTO) (by rw [← e]; exact Nat.lt_irrefl _)
   ·obtain ⟨o,q,_⟩:=h1.lt; exact yJ (zE q) (by rw [← e]; exact Nat.lt_irrefl _)
   ·obtain ⟨o,q,_⟩:=h2.lt; exact yJ (zE q) (by rw [← e]; exact Nat.lt_irrefl _)
 done:=by
  intro X hP hw hK hc i pins s σ H E I hf st hg;subst hP hw hK;obtain ⟨hz,hTI,⟨a,b,hTO⟩,h1,h2⟩:=st;obtain ⟨xs,ys,q1,q2,e1⟩:=hg;obtain ⟨its1,r1,p1⟩:=I.seqB q1;obtain ⟨its2,r2,p2⟩:=I.seqB q2;have ne1:∀ f∈[z,TI,TO,i1,i2],l1≠f:=λ f hff=>I.seq_ne q1 (hf f hff);have ne2:∀ f∈[z,TI,TO,i1,i2],l2≠f:=λ f hff=>I.seq_ne q2 (hf f hff);simp only [List.nodup_cons,List.mem_cons,List.not_mem_nil,or_false,not_or,List.nodup_nil,and_true,not_false_eq_true] at hd;obtain ⟨⟨d1,d2,d3,d4⟩,⟨d5,d6,d7⟩,⟨d8,d9⟩,d10⟩:=hd;have D:ZipApart z TI TO i1 i2 l1 l2:=⟨Ne.symm d1,Ne.symm d2,Ne.symm d3,Ne.symm d4,d5,d6,d7,d8,d9,d10,ne1 z (by simp),ne1 TO (by simp),ne1 i1 (by simp),ne1 i2 (by simp),ne2 z (by simp),ne2 TO (by simp),ne2 i1 (by simp),ne2 i2 (by simp)⟩;refine o_f (I.ok.hd hc) D hz hTI hTO h1 h2 p1 p2 (e1.imp (l_r r1) (l_r r2)) λ h' a7=>⟨rfl,I.turnedL (t':=s.toks) hf λ c o hc' e=>?_⟩;simp only [List.mem_cons,List.not_mem_nil,or_false,not_or] at hc';obtain ⟨c1,c2,c3,c4,c5⟩:=hc';exact a7 c o c1 c3 c4 c5 e
 self:=λ _ _ _ _ _ st h=>wpAny_pyIter_zip st.1 h
section
variable {X:Cx}
noncomputable def iZip (K:Frag) (ta:TA):TI:=λ σ H R=>ta σ H λ vs H1=>∃ b1 b2 l1 l2,vs=[.ref l1,.ref l2]/\(∃ xs,SqB b1 K H1 l1 xs)/\(∃ ys,SqB b2 K H1 l2 ys)/\R (Itz K b1 l1 b2 l2) H1
theorem g_s {a b:Expr} {ta:TA} {es:List Expr} {k:Nat} {tp p pos:Pos} (hg:Gl X "zip") (hm:X.mg "zip" = none) (ha:PA X [a,b] ta) (hv:bootBuiltins "zip" = some (.type "zip"):=by decide +kernel)
  (hs:starEach [a,b] X.env=[(false,eval a X.env),(false,eval b X.env)]:=by rfl) (hs2:starEach [b] X.env=[(false,eval b X.env)]:=by rfl) :
  PI X (.Tuple es k tp) (.Call (.Name "zip" p) [a,b] [] pos) (iZip X.K ta):=by
 intro pins s σ H R I h;refine Call_ (e_e I hg hm hv (PyProof.Rows.callWith_type1 (thn (ha pos pins s σ H _ I h) λ us s1 ⟨vs,H1,I1,r1,q1⟩=>?_) (by rw [hs,hs2]) (by rw [hs2]; rfl)));obtain ⟨b1,b2,l1,l2,e,⟨xs,q1⟩,⟨ys,q2⟩,q⟩:=q1;subst e;cases r1 with
 | cons r rr =>
  cases rr with
  | cons r' rr =>
   cases rr;cases r;cases r';obtain ⟨its1,v1,p1⟩:=I1.seqB q1;obtain ⟨its2,v2,p2⟩:=I1.seqB q2;refine m_H p1 p2 λ h' a1 a2 a3 a4 a5 kp=>?_;refine wpAny_pyIter_zip a1 ?_;have lt:∀ j,j<=4->s1.heap.objs.size<=s1.heap.objs.size+j:=λ j _=>Nat.le_add_right _ _;refine ⟨s1.heap.objs.size+4,[s1.heap.objs.size+4,s1.heap.objs.size+2,s1.heap.objs.size+3,s1.heap.objs.size,s1.heap.objs.size+1],_,_,H1,rfl,I1.kept (t':=s1.toks) kp,o_g (b1:=b1) (b2:=b2) (l1:=l1) (l2:=l2) ?_,⟨a1,a2,⟨_,_,a3⟩,a4,a5⟩,λ c hc=>?_,q⟩
   ·simp
   ·have hle:s1.heap.objs.size<=c:=by
     simp only [List.mem_cons,List.not_mem_nil,or_false] at hc;rcases hc with e | e | e | e | e <;> subst e <;> first | exact zL _ | exact Nat.le_add_right _ _
    exact I1.fpOk hle (I1.hok.fresh hle)
end
open AutoSeq1 (wpAny_loadPart')
set_option maxRecDepth 100000 in
theorem j_L (l:Addr) (items:Array Value) (n:Nat) (dct:Option Addr) (sl:Array (Option Value)) :
  Meets (Builtin.«enumerate.__new__» ⟨[.type "enumerate",.ref l],[]⟩) (λ _ R s=>s.heap.get? l=some { cls:=.type "tuple",dict:=dct,data:=.seq items n,slots:=sl } /\
   R (.ok (.ret (.ref (s.heap.push { cls:=.type "tuple_iterator",data:=.fields #[.ref l,.int 0 0] }).objs.size)))
    { s with heap:=(s.heap.push { cls:=.type "tuple_iterator",data:=.fields #[.ref l,.int 0 0] }).push { cls:=.type "enumerate",data:=.fields #[.none,.bool false,.ref s.heap.objs.size,rawInt 0,.none,.none] } }) :=
 .of_wp λ prog w A R s h=>by
  obtain ⟨hp,g,d,tk,os⟩:=s; obtain ⟨hl,h⟩:=h;have hsub:=sub_enumerate;have hL:Heap.IsTuple (Shared.heap ⟨hp,g,d,tk,os⟩) l items:=⟨_,hl,rfl,n,rfl⟩
  wp_walk using wpAny_loadPart' hl
  refine wpAny_stack_any λ st=>zB ?_;split
  ·rename_i c _ _ _ _ _;cases (c == Value.type "enumerate")
   ·wp_walk using wpAny_loadPart' hl,wpAny_pyIter_tuple hL
    exact ⟨_,rfl,h⟩
   ·wp_walk using wpAny_loadPart' hl,wpAny_pyIter_tuple hL
    exact ⟨_,rfl,h⟩
  ·wp_walk using wpAny_loadPart' hl,wpAny_pyIter_tuple hL
   exact ⟨_,rfl,h⟩
theorem k_J {prog:Program} {w:World} {A:Around} {E:Value->Shared->Prop} {s:Shared} {b:Bool} {l:Addr} {items:Array Value} {Q:Value->Shared->Prop} (hL:seqB b s.heap l items)
  (h:∀ h',IsEnum h' (s.heap.objs.size+1) s.heap.objs.size 0 .none->ItB b h' s.heap.objs.size l 0 ->
   (∀ b o,s.heap.get? b=some o->h'.get? b=some o)->Q (.ref (s.heap.objs.size+1)) { s with heap:=h' }) :
  wpAny (model prog w) A (call (.type "enumerate") [.ref l]) Q E s:=by
 cases b
 ·exact call_enumerate_list hL λ h' a1 a2 a3 a4=>h h' a1 a2 a4
 ·obtain ⟨⟨c,dct,dt,sl⟩,hl,hc,n,hd⟩:=hL;replace hc:c=.type "tuple" := hc;replace hd:dt=.seq items n:=hd;subst hc hd;refine callType_new F.called_enumerate (by decide) (F.typeCall_enumerate_1 _) (F.newCall_enumerate_1 _) (λ obj=>F.args_object_init_2 obj _) F.entry_enumerate_new
   (j_L l items n dct sl) ⟨hl,?_⟩
  have hz:(s.heap.push { cls:=.type "tuple_iterator",data:=.fields #[.ref l,.int 0 0] }).objs.size=s.heap.objs.size+1:=Heap.size_push ..;show _/\_;rw [hz];have he:IsEnum ((s.heap.push { cls:=.type "tuple_iterator",data:=.fields #[.ref l,.int 0 0] }).push
    { cls:=.type "enumerate",data:=.fields #[.none,.bool false,.ref s.heap.objs.size,rawInt 0,.none,.none] }) (s.heap.objs.size+1) s.heap.objs.size 0 .none:=by
   have:=zF (s.heap.push { cls:=.type "tuple_iterator",data:=.fields #[.ref l,.int 0 0] })
    (o:={ cls:=.type "enumerate",data:=.fields #[.none,.bool false,.ref s.heap.objs.size,rawInt 0,.none,.none] }) rfl
   rw [hz] at this; exact this
  refine ⟨⟨_,he,rfl⟩,h _ he ⟨_,zD _ (zF _ rfl),rfl,rfl⟩ λ b o x=>zD _ (zD _ x)⟩
noncomputable def Ite (K:Frag) (b:Bool) (l:Addr):It :=
  ⟨λ i H=>∃ xs x,SqB b K H l xs/\xs[i]?=some x,
   λ i H v H'=>∃ p x,v=.ref p/\H p=none/\H'=upd H p (.tup [.int i,x])/\∀ xs,SqB b K H l xs->xs[i]?=some x,
   λ i H=>∃ xs,SqB b K H l xs/\xs.length=i⟩
theorem m_I {P:Program} {w:World} {K:Frag} {es:List Expr} {k:Nat} {pos:Pos} {b:Bool} {e it l:Addr} (hd:e≠it) :
  Turn P w K (.Tuple es k pos) (Ite K b l) [e,it] e (λ i h=>(∃ old,IsEnum h e it i old)/\ItB b h it l i) where
 mem:=by simp
 obj:=λ i h ⟨⟨old,hz⟩,h1⟩ c hc=>by
  simp only [List.mem_cons,List.not_mem_nil,or_false] at hc;rcases hc with e | e <;> subst e
  ·exact ⟨_,hz,λ v q=>by have q':Data.fields _=Data.cell v:=q; cases q'⟩
  ·exact h1.lt
 keep:=λ i h h' ⟨⟨old,hz⟩,h1⟩ kk=>⟨⟨old,kk e (by simp) _ hz⟩,h1.at λ o q=>kk it (by simp) o q⟩
 item:=by
  intro X hP hw hK hc i pins s σ H E I hf st hg;subst hP hw hK;obtain ⟨⟨old,hz⟩,h1⟩:=st;obtain ⟨xs,x,q1,e1⟩:=hg;obtain ⟨its1,r1,p1⟩:=I.seqB q1;obtain ⟨u1,hu1,ru1⟩:=r1.get e1;have ne1:∀ f∈[e,it],l≠f:=λ f hff=>I.seq_ne q1 (hf f hff);have hlt:i < its1.toArray.size:=by
   have:=(List.getElem?_eq_some_iff.mp hu1).1;simpa using this
  refine wpAny_pyNext_enum_itemD (o_e b (show X.A.in1.handled=none from I.ok.hd hc) it l (ne1 it (by simp)) its1.toArray) hz ⟨h1,p1⟩ hlt hd (λ q=>?_) λ u h' tk hP a1 a2 a3 a4 a5=>⟨_,rfl,?_⟩
  ·simp only [List.mem_cons,List.not_mem_nil,or_false] at q;rcases q with q | q
   ·exact hd q
   ·exact ne1 e (by simp) q.symm
  have eu:u=u1:=by
   have:its1.toArray[i]?=some u1:=by simpa using hu1
   rw [this] at hP;exact (zT hP).symm
  subst eu;refine wpAny_letOwnedTupleGo_enum a1 λ h'' hz' hs'=>?_;have ne:s.heap.objs.size≠e:=Nat.ne_of_gt (zE hz);have up:∀ c o,c ∉ [e,it]->s.heap.get? c=some o->h''.get? c=some o:=λ c o hc' q=>by
   simp only [List.mem_cons,List.not_mem_nil,or_false,not_or] at hc';exact hs'.extBut _ _ hc'.1 (a5 c o hc'.1 hc'.2 q)
  have new:c_v X.prog X.w (upd H s.heap.objs.size (.tup [.int i,x])) h'' s.heap.objs.size (.tup [.int i,x]) :=
   ⟨by show 2<=sizeLine; decide,[.int i tk,u],.cons ⟨tk,rfl⟩ (.cons ru1 .nil),⟨_,hs'.extBut _ _ ne a3,rfl,_,rfl⟩⟩
  have I2:Inv X pins σ (upd H s.heap.objs.size (.tup [.int i,x])) { s with heap:=h'',toks:=tk+1 }:=I.turnedNew (t':=tk+1) hf up (zL _) new;refine ⟨.ref s.heap.objs.size,_,I2,rfl,⟨_,x,rfl,I.fresh,rfl,λ xs' q=>by rw [I.seqB_inj q q1]; exact e1⟩,⟨⟨u,by simpa using hz'⟩,a2.1.at λ o q=>hs'.extBut _ _ (Ne.symm hd) q⟩,λ c hc'=>?_⟩;have hcf:=(hf c hc').1;rw [a_H]
  ·exact hcf
  ·intro z;subst z;simp only [List.mem_cons,List.not_mem_nil,or_false] at hc';rcases hc' with z | z
   ·exact ne z
   ·obtain ⟨o,q,_⟩:=h1.lt; exact yJ (zE q) (by rw [← z]; exact Nat.lt_irrefl _)
 done:=by
  intro X hP hw hK hc i pins s σ H E I hf st hg;subst hP hw hK;obtain ⟨⟨old,hz⟩,h1⟩:=st;obtain ⟨xs,q1,e1⟩:=hg;obtain ⟨its1,r1,p1⟩:=I.seqB q1;have ne1:∀ f∈[e,it],l≠f:=λ f hff=>I.seq_ne q1 (hf f hff);have el:its1.toArray.size=i:=by rw [zJ,← r1.length,e1]
  refine wpAny_pyNext_enum_endD (o_e b (show X.A.in1.handled=none from I.ok.hd hc) it l (ne1 it (by simp)) its1.toArray) hz ⟨by rw [el]; exact h1,p1⟩ λ h' hx=>⟨rfl,I.turnedL (t':=s.toks) hf λ c o hc' q=>?_⟩;simp only [List.mem_cons,List.not_mem_nil,or_false,not_or] at hc';exact hx c o hc'.2 q
 self:=λ _ _ _ _ _ st h=>let ⟨⟨_,q⟩,_⟩:=st; wpAny_pyIter_enum q h
section
variable {X:Cx}
noncomputable def j_M (K:Frag) (ta:TA):TI:=λ σ H R=>ta σ H λ vs H1=>∃ b l,vs=[.ref l]/\(∃ xs,SqB b K H1 l xs)/\R (Ite K b l) H1
theorem g_S {a:Expr} {ta:TA} {es:List Expr} {k:Nat} {tp p pos:Pos} (hg:Gl X "enumerate") (hm:X.mg "enumerate" = none) (ha:PA X [a] ta) (hv:bootBuiltins "enumerate" = some (.type "enumerate"):=by decide +kernel)
  (hs:starEach [a] X.env=[(false,eval a X.env)]:=by rfl) :
  PI X (.Tuple es k tp) (.Call (.Name "enumerate" p) [a] [] pos) (j_M X.K ta):=by
 intro pins s σ H R I h;refine Call_ (e_e I hg hm hv (PyProof.Rows.callWith_type1 (thn (ha pos pins s σ H _ I h) λ us s1 ⟨vs,H1,I1,r1,q1⟩=>?_) hs rfl));obtain ⟨b,l,e,⟨xs,q1⟩,q⟩:=q1;subst e;cases r1 with
 | cons r rr =>
  cases rr;cases r;obtain ⟨its1,v1,p1⟩:=I1.seqB q1;refine k_J p1 λ h' a1 a2 kp=>?_;refine wpAny_pyIter_enum a1 ?_;refine ⟨s1.heap.objs.size+1,[s1.heap.objs.size+1,s1.heap.objs.size],_,_,H1,rfl,I1.kept (t':=s1.toks) kp,m_I (b:=b) (l:=l) (by simp),⟨⟨_,a1⟩,a2⟩,λ c hc=>?_,q⟩;have hle:s1.heap.objs.size<=c:=by
   simp only [List.mem_cons,List.not_mem_nil,or_false] at hc;rcases hc with e | e <;> subst e <;> first | exact zL _ | exact Nat.le_add_right _ _
  exact I1.fpOk hle (I1.hok.fresh hle)
theorem h_F:∀ {ns:List Int} {its:List Value},Vals (ns.map V.int) its->∃ xs:List (Int × Tok),its=xs.map (λ p=>Value.int p.1 p.2)/\xs.map (·.1)=ns
 | [],_,.nil=>⟨[],rfl,rfl⟩
 | n :: r,_,.cons ⟨t,h⟩ q=>by
  obtain ⟨xs,e1,e2⟩:=h_F (ns:=r) q;exact ⟨(n,t) :: xs,by rw [h,e1]; rfl,by rw [List.map_cons,e2]⟩
theorem e_R (hc:X.calm=true):e_m X (.builtin "sum") (λ xs H Q=>∃ (p:Addr) (ns:List Int),xs=[.ref p]/\SqL X.K H p (ns.map V.int)/\Q (.int ns.sum) H):=by
 intro pins s σ H xs us Q I r h;obtain ⟨p,ns,rfl,hq,q⟩:=h;obtain ⟨u,rfl,rx⟩:=d_Y r;cases rx;obtain ⟨its,rv,pl,hz⟩:=I.list hq;obtain ⟨ps,e1,e2⟩:=h_F rv;have hl:s.heap.IsList p (intItems ps.toArray):=by
  have:=pl.isList;rw [e1] at this;simpa [intItems] using this
 refine sum_intListG (I.ok.hd hc) hl λ h' tk t' hk=>⟨.int ns.sum,H,I.kept (t':=tk) hk,⟨t',?_⟩,q⟩;rw [preSum_eq,List.take_of_length_le (by simp)];simp [e2]
end
theorem SqB.or {b:Bool} {K:Frag} {H:Hp} {a:Addr} {xs:List V} (h:SqB b K H a xs):SqL K H a xs\/SqT K H a xs:=by
 cases b
 ·exact .inl h
 ·exact .inr h
theorem SqB.up {b:Bool} {K:Frag} {H H':Hp} {a:Addr} {xs:List V} (h:SqB b K H a xs) (s:Same H H'):SqB b K H' a xs:=by
 cases b
 ·exact s.seq h
 ·exact s.tup h
theorem SqB.lst {K:Frag} {H:Hp} {a:Addr} {xs:List V} (h:H a=some (.lst xs)):SqB false K H a xs:=SqL.of h
theorem SqB.tup {K:Frag} {H:Hp} {a:Addr} {xs:List V} (h:H a=some (.tup xs)):SqB true K H a xs:=SqT.of h
noncomputable def Its (K:Frag) (b:Bool) (a:Addr):It:=match b with | false=>Itl K a | true=>Itt K a
theorem Its.go {K:Frag} {b:Bool} {a:Addr} {xs:List V} {x:V} {i:Nat} {H:Hp} (h:SqB b K H a xs) (e:xs[i]?=some x):(Its K b a).go i H:=by
 cases b
 ·exact ⟨xs,x,h,e⟩
 ·exact ⟨xs,x,h,e⟩
theorem Its.stop {K:Frag} {b:Bool} {a:Addr} {xs:List V} {i:Nat} {H:Hp} (h:SqB b K H a xs) (e:xs.length<=i):(Its K b a).stop i H:=by
 cases b
 ·exact ⟨xs,h,e⟩
 ·exact ⟨xs,h,e⟩
theorem Its.yld {K:Frag} {b:Bool} {a:Addr} {xs:List V} {i:Nat} {H H':Hp} {x:V} (h:SqB b K H a xs) (y:(Its K b a).yld i H x H'):H'=H/\xs[i]?=some x:=by
 cases b
 ·exact ⟨y.1,y.2 xs h⟩
 ·exact ⟨y.1,y.2 xs h⟩
section
variable {X:Cx}
noncomputable def iSeq (K:Frag) (tl:TE):TI:=λ σ H R=>tl σ H λ x H1=>∃ b a,x=.ref a/\(∃ xs,SqB b K H1 a xs)/\R (Its K b a) H1
theorem b_M {tg l:Expr} {tl:TE} (hl:PE X l tl):PI X tg l (iSeq X.K tl):=by
 intro pins s σ H R I h;refine thn (hl pins s σ H _ I h) λ v s1 ⟨x,H1,I1,r1,q1⟩=>?_;obtain ⟨b,a,e,⟨xs,hq⟩,q⟩:=q1;subst e;cases r1;cases b
 ·obtain ⟨its,rv,p,hz⟩:=I1.list hq;refine wpAny_pyIter_list p.isList ?_;refine ⟨s1.heap.objs.size,[s1.heap.objs.size],_,_,H1,rfl,I1.kept (t':=s1.toks) λ b o e=>zD _ e,m_m a _,⟨_,zF _ rfl,rfl,rfl⟩,λ b hb=>?_,q⟩;have e:b=s1.heap.objs.size:=by simpa using hb
  subst e;exact I1.fpOk (zL _) (I1.hok.fresh (zL _))
 ·obtain ⟨its,rv,p,hz⟩:=I1.tuple hq;refine wpAny_pyIter_tuple (show s1.heap.IsTuple a its.toArray from p) ?_;refine ⟨s1.heap.objs.size,[s1.heap.objs.size],_,_,H1,rfl,I1.kept (t':=s1.toks) λ b o e=>zD _ e,k_u a _,⟨_,zF _ rfl,rfl,rfl⟩,λ b hb=>?_,q⟩;have e:b=s1.heap.objs.size:=by simpa using hb
  subst e;exact I1.fpOk (zL _) (I1.hok.fresh (zL _))
noncomputable def rIxB (K:Frag):R2:=λ x y H Q=>∃ b p xs i v,x=.ref p/\y=.int i/\SqB b K H p xs/\atI xs i=some v/\Q v H
theorem ix_B:IxR X (rIxB X.K):=by
 intro value slice pins s σ H x y v u Q I rx ry h;obtain ⟨b,p,xs,i,v',e1,e2,hq,ha,q⟩:=h;cases b
 ·exact p_U value slice pins s σ H x y v u Q I rx ry ⟨p,xs,i,v',e1,e2,hq,ha,q⟩
 ·exact r_F value slice pins s σ H x y v u Q I rx ry ⟨p,xs,i,v',e1,e2,hq,ha,q⟩
noncomputable def f_Z (K:Frag):List V->Hp->VK->Prop:=λ xs H Q=>∃ b p ys,xs=[.ref p]/\SqB b K H p ys/\Q (.int ys.length) H
theorem a_U:e_m X (.builtin "len") (f_Z X.K):=by
 intro pins s σ H xs us Q I r h;obtain ⟨b,p,ys,e,hq,q⟩:=h;exact j_g pins s σ H xs us Q I r ⟨p,ys,e,hq.or,q⟩
noncomputable def e_S (K:Frag):List V->Hp->VK->Prop:=λ xs H Q=>∃ b p ys,xs=[.ref p]/\SqB b K H p ys/\∀ l,H l=none->Q (.ref l) (upd H l (.lst ys))
theorem d_U:e_m X (.type "list") (e_S X.K):=by
 intro pins s σ H xs us Q I r h;obtain ⟨b,p,ys,e,hq,q⟩:=h;exact j_h pins s σ H xs us Q I r ⟨p,ys,e,hq.or,q⟩
noncomputable def j_N (K:Frag):List V->Hp->VK->Prop:=λ xs H Q=>∃ p ys,xs=[.ref p]/\((SqL K H p ys/\∀ l,H l=none->Q (.ref l) (upd H l (.tup ys)))\/(SqT K H p ys/\Q (.ref p) H))
theorem d_C:e_m X (.type "tuple") (j_N X.K):=i_k
end
theorem p_Z {K:Frag} {b:Bool} {a:Addr} {xs:List V} {g:TG} {tb:TS} {D:Ends} {σ:St} {H:Hp} (Pv:Nat->St->Hp->Prop) (h0:Pv 0 σ H) (hl:∀ i σ H,i<=xs.length->Pv i σ H->SqB b K H a xs)
  (hs:∀ i x σ H,xs[i]?=some x->Pv i σ H->g x σ H λ σ2 H2=>tb { D with nx:=Pv (i+1),ct:=Pv (i+1),bk:=D.nx } σ2 H2) (hd:∀ σ H,Pv xs.length σ H->D.nx σ H) :
  ∃ W:Nat->Nat->St->Hp->Prop,(∃ m,W 0 m σ H)/\∀ i m σ H,W i m σ H ->
   ((Its K b a).stop i H/\D.nx σ H)\/((Its K b a).go i H/\∃ N:St->Hp->Prop,(∀ σ' H',N σ' H'->∃ m',m' < m/\W (i+1) m' σ' H')/\∀ x H',(Its K b a).yld i H x H'->g x σ H' λ σ2 H2=>tb { D with nx:=N,ct:=N,bk:=D.nx } σ2 H2):=by
 cases b
 ·exact n_M Pv h0 hl hs hd
 ·exact p_K Pv h0 hl hs hd
theorem o_h {K:Frag} {b:Bool} {a:Addr} {xs:List V} {g:TG} {tb:TS} {D:Ends} {σ:St} {H:Hp} (Pv:Nat->St->Hp->Prop) (h0:Pv 0 σ H) (hl:∀ i σ H,i<=xs.length->Pv i σ H->SqB b K H a xs)
  (hs:∀ i x p σ H,xs[i]?=some x->Pv i σ H->H p=none->g (.ref p) σ (upd H p (.tup [.int i,x])) λ σ2 H2=>tb { D with nx:=Pv (i+1),ct:=Pv (i+1),bk:=D.nx } σ2 H2) (hd:∀ σ H,Pv xs.length σ H->D.nx σ H) :
  ∃ W:Nat->Nat->St->Hp->Prop,(∃ m,W 0 m σ H)/\∀ i m σ H,W i m σ H ->
   ((Ite K b a).stop i H/\D.nx σ H)\/((Ite K b a).go i H/\∃ N:St->Hp->Prop,(∀ σ' H',N σ' H'->∃ m',m' < m/\W (i+1) m' σ' H')/\∀ x H',(Ite K b a).yld i H x H'->g x σ H' λ σ2 H2=>tb { D with nx:=N,ct:=N,bk:=D.nx } σ2 H2):=by
 refine ⟨λ i m σ H=>m=xs.length - i/\i<=xs.length/\Pv i σ H,⟨xs.length,by simp,Nat.zero_le _,h0⟩,?_⟩;rintro i m σ H ⟨rfl,hi,p⟩;have q:=hl i σ H hi p
 by_cases hlt:i < xs.length
 ·refine .inr ⟨⟨xs,xs[i],q,by simp [hlt]⟩,Pv (i+1),λ σ' H' p'=>⟨xs.length - (i+1),by omega,rfl,hlt,p'⟩,λ x H' y=>?_⟩;obtain ⟨r,x,rfl,hr,rfl,hx⟩:=y;exact hs i x r σ H (hx xs q) p hr
 ·have e:i=xs.length:=by omega
  subst e;exact .inl ⟨⟨xs,q,rfl⟩,hd σ H p⟩
noncomputable def f_L (a:Addr) (H H':Hp):Prop:=∀ b o,b≠a->H b=some o->H' b=some o
theorem Same.x {a:Addr} {H H':Hp} (s:Same H H'):f_L a H H':=λ b o _ e=>s b o e
section
variable {J:It} {g:TG} {tt:TOx} {te:TE} {n:Nat} {fr:List (Str × Nat)} {σ:St} {a:Addr} {H:Hp} {Q:VK} {K:Frag}
theorem h_G (len:Nat) (P:Nat->List V->Hp->Prop) (ha:H a=none) (hz:len<=1000) (h0:P 0 [] (upd H a (.lst [])))
  (hl:∀ i zs H1,P i zs H1->zs.length<=i) (mono:∀ i zs H1 H2,P i zs H1->f_L a H1 H2->P i zs H2)
  (hgo:∀ i H1,i < len->Same H H1->J.go i H1) (hstop:∀ H1,Same H H1->J.stop len H1)
  (he:∀ i H1 zs,i < len->Same H H1->H1 a=some (.lst zs)->P i zs H1->∀ (ys:St) x H3,ys.length=n->J.yld i H1 x H3->∀ C:Option V->Hp->Prop,
   (∀ y H2,Same H1 H2->P (i+1) (zs++[y]) H2->C (some y) H2)->(∀ H2,Same H1 H2->P (i+1) zs H2->C none H2) ->
   g x (ys++c_q fr σ) H3 λ σ4 H4=>(∃ ys':St,ys'.length=n/\σ4=ys'++c_q fr σ)/\tt σ4 H4 C)
  (hd:∀ H1 ys,Same H H1->H1 a=some (.lst ys)->P len ys H1->Q (.ref a) H1):c_D J g tt n fr σ a H Q:=by
 refine ⟨λ i m H1=>m=len - i/\i<=len/\Same H H1/\∃ zs,H1 a=some (.lst zs)/\P i zs H1,⟨len,by simp,Nat.zero_le _,Same.new ha,[],a_G,h0⟩,?_⟩;rintro i m H1 ⟨rfl,hi,s1,zs,ez,p⟩
 by_cases hlt:i < len
 ·refine .inr ⟨hgo i H1 hlt s1,λ H'=>i+1<=len/\Same H H'/\∃ zs,H' a=some (.lst zs)/\P (i+1) zs H',λ H' q=>⟨len - (i+1),by omega,rfl,q⟩,λ ys x H3 hys hy=>?_⟩;refine he i H1 zs hlt s1 ez p ys x H3 hys hy _ (λ y H2 s2 p2=>?_) λ H2 s2 p2=>?_
  ·refine ⟨zs,s2 _ _ ez,c_p (by have:=hl i zs H1 p; omega),hlt,Same.over ha (s1.trans s2),_,a_G,mono _ _ _ _ p2 λ b o hb e=>?_⟩;rw [a_H hb];exact e
  ·exact ⟨hlt,s1.trans s2,zs,s2 _ _ ez,p2⟩
 ·have e:i=len:=by omega
  subst e;exact .inl ⟨hstop H1 s1,hd H1 zs s1 ez p⟩
theorem k_K (len:Nat) (R:Nat->V->Hp->Prop) (ha:H a=none) (hz:len<=1000) (mono:∀ i y H1 H2,R i y H1->f_L a H1 H2->R i y H2)
  (hgo:∀ i H1,i < len->Same H H1->J.go i H1) (hstop:∀ H1,Same H H1->J.stop len H1)
  (he:∀ i H1 zs,i < len->Same H H1->H1 a=some (.lst zs)->∀ (ys:St) x H3,ys.length=n->J.yld i H1 x H3->∀ Q':VK,(∀ y H2,Same H1 H2->R i y H2->Q' y H2) ->
   g x (ys++c_q fr σ) H3 λ σ4 H4=>(∃ ys':St,ys'.length=n/\σ4=ys'++c_q fr σ)/\te σ4 H4 Q')
  (hd:∀ H1 ys,Same H H1->H1 a=some (.lst ys)->ys.length=len->(∀ j y,ys[j]?=some y->R j y H1)->Q (.ref a) H1):c_D J g (tEl te) n fr σ a H Q:=by
 refine h_G len (λ i zs H1=>zs.length=i/\∀ j y,zs[j]?=some y->R j y H1) ha hz ⟨rfl,λ j y e=>by simp at e⟩ (λ i zs H1 p=>Nat.le_of_eq p.1) (λ i zs H1 H2 p s=>⟨p.1,λ j y e=>mono _ _ _ _ (p.2 j y e) s⟩) hgo hstop ?_ λ H1 ys s e p=>hd H1 ys s e p.1 p.2;intro i H1 zs hi s1 ez p ys x H3 hys hy C hC _;refine he i H1 zs hi s1 ez ys x H3 hys hy _ λ y H2 s2 r=>hC y H2 s2 ⟨by simp [p.1],λ j z e=>?_⟩
 by_cases hj:j < zs.length
 ·rw [yC hj] at e;exact mono _ _ _ _ (p.2 j z e) s2.x
 ·rw [yD (by omega)] at e;have e0:j - zs.length=0:=by
   by_cases h0:j - zs.length=0
   ·exact h0
   ·rw [List.getElem?_eq_none (by simp; omega)] at e; cases e
  rw [e0] at e;cases zT e;have:j=i:=by have:=p.1; omega
  rw [this];exact r
theorem c_h {b:Bool} {l:Addr} {xs:List V} (R:Nat->V->Hp->Prop) (ha:H a=none) (hS:SqB b K H l xs) (hz:xs.length<=1000) (mono:∀ i y H1 H2,R i y H1->f_L a H1 H2->R i y H2)
  (he:∀ i x H1 zs,xs[i]?=some x->Same H H1->H1 a=some (.lst zs)->∀ Q':VK,(∀ y H2,Same H1 H2->R i y H2->Q' y H2)->te (some x :: c_q fr σ) H1 Q')
  (hd:∀ H1 ys,Same H H1->H1 a=some (.lst ys)->ys.length=xs.length->(∀ j y,ys[j]?=some y->R j y H1)->Q (.ref a) H1):c_D (Its K b l) (a_M 0) (tEl te) 1 fr σ a H Q:=by
 refine k_K xs.length R ha hz mono (λ i H1 hi s=>Its.go (hS.up s) (x:=xs[i]) (by simp [hi])) (λ H1 s=>Its.stop (hS.up s) (zL _)) ?_ hd;intro i H1 zs hi s1 ez ys x H3 hys hy Q' hQ';obtain ⟨e1,e2⟩:=Its.yld (hS.up s1) hy;subst e1
 match ys,hys with
 | [o],_=>exact ⟨⟨[some x],rfl,rfl⟩,he i x H3 zs e2 s1 ez Q' hQ'⟩
theorem c_l {lo:Int} {len:Nat} (R:Nat->V->Hp->Prop) (ha:H a=none) (hz:len<=1000) (mono:∀ i y H1 H2,R i y H1->f_L a H1 H2->R i y H2)
  (he:∀ (i:Nat) H1 zs,i < len->Same H H1->H1 a=some (.lst zs)->∀ Q':VK,(∀ y H2,Same H1 H2->R i y H2->Q' y H2)->te (some (.int (lo+i)) :: c_q fr σ) H1 Q')
  (hd:∀ H1 ys,Same H H1->H1 a=some (.lst ys)->ys.length=len->(∀ j y,ys[j]?=some y->R j y H1)->Q (.ref a) H1):c_D (Itr lo len) (a_M 0) (tEl te) 1 fr σ a H Q:=by
 refine k_K len R ha hz mono (λ i H1 hi s=>hi) (λ H1 s=>zL _) ?_ hd;intro i H1 zs hi s1 ez ys x H3 hys hy Q' hQ';obtain ⟨e1,e2⟩:=hy;subst e1 e2
 match ys,hys with
 | [o],_=>exact ⟨⟨[_],rfl,rfl⟩,he i H3 zs hi s1 ez Q' hQ'⟩
theorem g_t {b1 b2:Bool} {l1 l2:Addr} {xs ys:List V} (R:Nat->V->Hp->Prop) (ha:H a=none) (hS1:SqB b1 K H l1 xs) (hS2:SqB b2 K H l2 ys) (hlen:xs.length=ys.length) (hz:xs.length<=1000) (mono:∀ i y H1 H2,R i y H1->f_L a H1 H2->R i y H2)
  (he:∀ i x y H1 zs,xs[i]?=some x->ys[i]?=some y->Same H H1->H1 a=some (.lst zs)->∀ Q':VK,(∀ y H2,Same H1 H2->R i y H2->Q' y H2)->te (some x :: some y :: c_q fr σ) H1 Q')
  (hd:∀ H1 zs,Same H H1->H1 a=some (.lst zs)->zs.length=xs.length->(∀ j y,zs[j]?=some y->R j y H1)->Q (.ref a) H1) :
  c_D (Itz K b1 l1 b2 l2) (gTup K 2 (c_e (a_M 0) (c_e (a_M 1) gNil))) (tEl te) 2 fr σ a H Q:=by
 refine k_K xs.length R ha hz mono (λ i H1 hi s=>⟨xs,ys,xs[i],ys[i],hS1.up s,hS2.up s,by simp [hi],by simp⟩) (λ H1 s=>⟨xs,ys,hS1.up s,hS2.up s,.inl (by simp)⟩) ?_ hd;intro i H1 zs hi s1 ez os x H3 hos hy Q' hQ';obtain ⟨p,x,y,rfl,hp,rfl,hx,hy⟩:=hy;refine ⟨p,[x,y],rfl,SqT.of a_G,rfl,x,[y],rfl,y,[],rfl,rfl,?_⟩
 match os,hos with
 | [o,o'],_ =>
  refine ⟨⟨[some x,some y],rfl,rfl⟩,he i x y _ zs (hx xs (hS1.up s1)) (hy ys (hS2.up s1)) (s1.trans (Same.new hp)) (Same.new hp _ _ ez) Q' λ y H2 s2 r=>hQ' y H2 ((Same.new hp).trans s2) r⟩
end
noncomputable def MatB (b1 b2:Bool) (K:Frag) (H:Hp) (a:Addr) (rows:List (List Int)):Prop:=∃ ps:List Addr,SqB b1 K H a (ps.map V.ref)/\ps.length=rows.length/\∀ (i:Nat) (p:Addr) (r:List Int),ps[i]?=some p->rows[i]?=some r->SqB b2 K H p (r.map V.int)
theorem MatB.up {b1 b2:Bool} {K:Frag} {H H':Hp} {a:Addr} {rows:List (List Int)} (h:MatB b1 b2 K H a rows) (s:Same H H'):MatB b1 b2 K H' a rows:=let ⟨ps,h1,h2,h3⟩:=h; ⟨ps,h1.up s,h2,λ i p r e1 e2=>(h3 i p r e1 e2).up s⟩
noncomputable def RowR (a:Addr) (f:Nat->List Int) (j:Nat) (y:V) (H:Hp):Prop:=∃ p,y=.ref p/\p≠a/\H p=some (.lst ((f j).map V.int))
theorem RowR.mono {a:Addr} {f:Nat->List Int} (i:Nat) (y:V) (H1 H2:Hp) (h:RowR a f i y H1) (s:f_L a H1 H2):RowR a f i y H2:=let ⟨p,e,n,q⟩:=h; ⟨p,e,n,s _ _ n q⟩
noncomputable def iT:Nat->PyData->Bool
 | _,.int _=>true
 | n+1,.list xs=>xs.all (iT n)
 | n+1,.tuple xs=>xs.all (iT n)
 | _,_=>false
theorem k_L:∀ (n:Nat) (d:PyData),iT n d=true->d.canLay0=true/\d.depth<=n
 | 0,.int _,_=>by simp [PyData.canLay0,PyData.depth]
 | n+1,.int _,_=>by simp [PyData.canLay0,PyData.depth]
 | n+1,.list xs,h=>by
  have all:∀ ys:List PyData,ys.all (iT n)=true->PyData.canLayAll0 ys=true/\PyData.depthAll ys<=n:=by
   intro ys
   induction ys with
   | nil=>intro _; simp [PyData.canLayAll0,PyData.depthAll]
   | cons y r ih =>
    intro hy;rw [List.all_cons,Bool.and_eq_true] at hy;have h1:=k_L n y hy.1;have h2:=ih hy.2;simp only [PyData.canLayAll0,PyData.depthAll,Bool.and_eq_true];exact ⟨⟨h1.1,h2.1⟩,by omega⟩
  have:=all xs (by simpa [iT] using h);simp only [PyData.canLay0,PyData.depth];exact ⟨this.1,by omega⟩
 | n+1,.tuple xs,h=>by
  have all:∀ ys:List PyData,ys.all (iT n)=true->PyData.canLayAll0 ys=true/\PyData.depthAll ys<=n:=by
   intro ys
   induction ys with
   | nil=>intro _; simp [PyData.canLayAll0,PyData.depthAll]
   | cons y r ih =>
    intro hy;rw [List.all_cons,Bool.and_eq_true] at hy;have h1:=k_L n y hy.1;have h2:=ih hy.2;simp only [PyData.canLayAll0,PyData.depthAll,Bool.and_eq_true];exact ⟨⟨h1.1,h2.1⟩,by omega⟩
  have:=all xs (by simpa [iT] using h);simp only [PyData.canLay0,PyData.depth];exact ⟨this.1,by omega⟩
theorem o_i:∀ (n:Nat) (d d':PyData),iT n d=true->iT n d'=true->SeqAt.noMix d d'=true:=by
 intro n
 induction n with
 | zero=>intro d d' h h'; cases d <;> simp [iT] at h <;> cases d' <;> simp [iT] at h' <;> simp [SeqAt.noMix]
 | succ n ih =>
  have all:∀ ys zs:List PyData,ys.all (iT n)=true->zs.all (iT n)=true->SeqAt.noMixAll ys zs=true:=by
   intro ys
   induction ys with
   | nil=>intro zs _ _; cases zs <;> simp [SeqAt.noMixAll]
   | cons y r ihr =>
    intro zs hy hz;cases zs with
    | nil=>simp [SeqAt.noMixAll]
    | cons z t =>
     rw [List.all_cons,Bool.and_eq_true] at hy hz;simp only [SeqAt.noMixAll,Bool.and_eq_true];exact ⟨ih y z hy.1 hz.1,ihr t hy.2 hz.2⟩
  intro d d' h h';cases d <;> simp only [iT,Bool.false_eq_true] at h <;> cases d' <;> simp only [iT,Bool.false_eq_true] at h' <;> simp only [SeqAt.noMix]
  ·exact all _ _ h h'
  ·exact all _ _ h h'
theorem l_s:∀ (n:Nat) (d d':PyData),iT n d=true->iT n d'=true->(same d d'=true ↔ d=d'):=by
 intro n
 induction n with
 | zero=>intro d d' h h'; cases d <;> simp [iT] at h <;> cases d' <;> simp [iT] at h' <;> simp [same]
 | succ n ih =>
  have all:∀ ys zs:List PyData,ys.all (iT n)=true->zs.all (iT n)=true->(sameAll ys zs=true ↔ ys=zs):=by
   intro ys
   induction ys with
   | nil=>intro zs _ _; cases zs <;> simp [sameAll]
   | cons y r ihr =>
    intro zs hy hz;cases zs with
    | nil=>simp [sameAll]
    | cons z t =>
     rw [List.all_cons,Bool.and_eq_true] at hy hz;simp only [sameAll,Bool.and_eq_true,List.cons.injEq];rw [ih y z hy.1 hz.1,ihr t hy.2 hz.2]
  intro d d' h h';cases d <;> simp only [iT,Bool.false_eq_true] at h <;> cases d' <;> simp only [iT,Bool.false_eq_true] at h' <;> simp only [same,beq_iff_eq,PyData.int.injEq,PyData.list.injEq,PyData.tuple.injEq,reduceCtorEq,Bool.false_eq_true]
  ·exact all _ _ h h'
  ·exact all _ _ h h'
theorem f_B {n:Nat} {d:PyData} (hn:n<=64) (h:iT n d=true):SeqAt.shaped d=true:=by
 have:=k_L n d h;unfold SeqAt.shaped;rw [Bool.and_eq_true];exact ⟨this.1,zW (by omega)⟩
section
variable {K:Frag} {H:Hp} {x y:V} {d d':PyData} {Q:VK}
theorem o_j (n:Nat) (hn:n<=64) (h1:Dt K H x d) (h2:Dt K H y d') (t1:iT n d=true) (t2:iT n d'=true) {b:Bool} (hb:b=true ↔ d=d') (q:Q (.bl b) H):rEqD K x y H Q:=by
 refine ⟨d,d',h1,h2,f_B hn t1,f_B hn t2,o_i n d d' t1 t2,?_⟩;have:=l_s n d d' t1 t2;have e:same d d'=b:=by
  cases hs:same d d' <;> cases b <;> simp_all
 rw [e];exact q
theorem r_L (n:Nat) (hn:n<=64) (h1:Dt K H x d) (h2:Dt K H y d') (t1:iT n d=true) (t2:iT n d'=true) {b:Bool} (hb:b=true ↔ d=d') (q:Q (.bl (!b)) H):rNeD K x y H Q:=by
 refine ⟨d,d',h1,h2,f_B hn t1,f_B hn t2,o_i n d d' t1 t2,?_⟩;have:=l_s n d d' t1 t2;have e:same d d'=b:=by
  cases hs:same d d' <;> cases b <;> simp_all
 rw [e];exact q
end
noncomputable def seqD (b:Bool) (ds:List PyData):PyData:=match b with | false=>.list ds | true=>.tuple ds
noncomputable def f_M (b:Bool) (ns:List Int):PyData:=seqD b (ns.map PyData.int)
noncomputable def matD (b1 b2:Bool) (rows:List (List Int)):PyData:=seqD b1 (rows.map (f_M b2))
theorem j_O {b:Bool} {xs ys:List PyData}:seqD b xs=seqD b ys ↔ xs=ys:=by cases b <;> simp [seqD]
theorem j_k {α β:Type} {f:α->β} (hf:∀ x y,f x=f y->x=y):∀ {xs ys:List α},xs.map f=ys.map f ↔ xs=ys
 | [],[]=>by simp
 | [],_ :: _=>by simp
 | _ :: _,[]=>by simp
 | x :: r,y :: t=>by
  rw [List.map_cons,List.map_cons,List.cons.injEq,List.cons.injEq,j_k hf];exact ⟨λ h=>⟨hf _ _ h.1,h.2⟩,λ h=>⟨by rw [h.1],h.2⟩⟩
theorem i_A {b:Bool} {ns ms:List Int}:f_M b ns=f_M b ms ↔ ns=ms:=by
 unfold f_M;rw [j_O,j_k λ x y h=>by injection h]
theorem o_k {b1 b2:Bool} {A B:List (List Int)}:matD b1 b2 A=matD b1 b2 B ↔ A=B:=by
 unfold matD;rw [j_O,j_k λ x y h=>i_A.mp h]
theorem g_T (b:Bool) (n:Nat) (ns:List Int):iT (n+1) (f_M b ns)=true:=by
 have:(ns.map PyData.int).all (iT n)=true:=by
  rw [List.all_eq_true];intro d hd;obtain ⟨i,_,rfl⟩:=List.mem_map.mp hd;cases n <;> rfl
 cases b <;> simpa [f_M,seqD,iT] using this
theorem o_l (b1 b2:Bool) (n:Nat) (rows:List (List Int)):iT (n+2) (matD b1 b2 rows)=true:=by
 have:(rows.map (f_M b2)).all (iT (n+1))=true:=by
  rw [List.all_eq_true];intro d hd;obtain ⟨i,_,rfl⟩:=List.mem_map.mp hd;exact g_T b2 n i
 cases b1 <;> simpa [matD,seqD,iT] using this
theorem Dt.seqB {b:Bool} {K:Frag} {H:Hp} {a:Addr} {xs:List V} {ds:List PyData} (h:SqB b K H a xs) (hd:Dts K H xs ds):Dt K H (.ref a) (seqD b ds):=by
 cases b
 ·exact .lst h hd
 ·exact .tup h hd
theorem Dt.intsB {b:Bool} {K:Frag} {H:Hp} {a:Addr} {ns:List Int} (h:SqB b K H a (ns.map V.int)):Dt K H (.ref a) (f_M b ns):=Dt.seqB h (Dts.ints ns)
theorem Dt.matB {b1 b2:Bool} {K:Frag} {H:Hp} {a:Addr} {rows:List (List Int)} (h:MatB b1 b2 K H a rows):Dt K H (.ref a) (matD b1 b2 rows):=by
 obtain ⟨ps,h1,h2,h3⟩:=h;refine Dt.seqB h1 ?_;clear h1
 induction ps generalizing rows with
 | nil =>
  cases rows with
  | nil=>exact .nil
  | cons r t=>simp at h2
 | cons p ps ih =>
  cases rows with
  | nil=>simp at h2
  | cons r t =>
   refine .cons (Dt.intsB (h3 0 p r rfl rfl)) (ih (by simpa using h2) λ i q z e1 e2=>h3 (i+1) q z (by simpa using e1) (by simpa using e2))
section
variable {wi:TI} {g:TG} {tt:TOx} {te:TE} {tc:TT} {n:Nat} {fr:List (Str × Nat)} {σ:St} {H:Hp} {Q:VK}
theorem a_S (h:∀ B:TE,B=te->wi σ H λ J H1=>∀ a,H1 a=none->c_D J g (tEl B) n fr σ a H1 Q):b_X wi g (tEl te) n fr σ H Q:=h _ rfl
theorem h_H (h:∀ (C:TT) (B:TE),C=tc->B=te->wi σ H λ J H1=>∀ a,H1 a=none->c_D J g (e_E C B) n fr σ a H1 Q):b_X wi g (e_E tc te) n fr σ H Q:=h _ _ rfl rfl
end
noncomputable def seqO (b:Bool) (xs:List V):HO:=match b with | false=>.lst xs | true=>.tup xs
noncomputable def rSlB (K:Frag):V->Option Int->Option Int->Hp->VK->Prop:=λ x lo hi H Q=>∃ b a xs,x=.ref a/\SqB b K H a xs /\
 (b=true->¬ (HT.sIx xs.length 0 lo=0/\HT.sIx xs.length xs.length hi=xs.length))/\∀ p,H p=none->Q (.ref p) (upd H p (seqO b (cutV xs lo hi)))
theorem sl_B {X:Cx}:SlR X (rSlB X.K):=by
 intro pins s σ H x v vl vu lo hi sl Q I rx hs pl pu h;obtain ⟨b,a,xs,e,hq,hw,q⟩:=h;cases b
 ·exact p_V pins s σ H x v vl vu lo hi sl Q I rx hs pl pu ⟨a,xs,e,hq,q⟩
 ·exact r_E pins s σ H x v vl vu lo hi sl Q I rx hs pl pu ⟨a,xs,e,hq,hw rfl,q⟩
noncomputable def MatL (H:Hp) (a:Addr) (rows:List (List Int)):Prop:=∃ ps:List Addr,H a=some (.lst (ps.map V.ref))/\ps.length=rows.length/\∀ (i:Nat) (p:Addr) (r:List Int),ps[i]?=some p->rows[i]?=some r->p≠a/\H p=some (.lst (r.map V.int))
theorem MatL.b {K:Frag} {H:Hp} {a:Addr} {rows:List (List Int)} (h:MatL H a rows):MatB false false K H a rows:=let ⟨ps,h1,h2,h3⟩:=h; ⟨ps,SqB.lst h1,h2,λ i p r e1 e2=>SqB.lst (h3 i p r e1 e2).2⟩
theorem MatL.up {H H':Hp} {a:Addr} {rows:List (List Int)} (h:MatL H a rows) (s:Same H H'):MatL H' a rows:=let ⟨ps,h1,h2,h3⟩:=h; ⟨ps,s _ _ h1,h2,λ i p r e1 e2=>⟨(h3 i p r e1 e2).1,s _ _ (h3 i p r e1 e2).2⟩⟩
theorem MatL.of {H:Hp} {a:Addr} {f:Nat->List Int} {ys:List V} (h:H a=some (.lst ys)) (hr:∀ (j:Nat) y,ys[j]?=some y->RowR a f j y H):MatL H a ((List.range ys.length).map f):=by
 have hp:∃ ps:List Addr,ys=ps.map V.ref:=by
  clear h;have:∀ (zs:List V) (k:Nat),(∀ (j:Nat) y,zs[j]?=some y->RowR a f (j+k) y H)->∃ ps:List Addr,zs=ps.map V.ref:=by
   intro zs
   induction zs with
   | nil=>intro k _; exact ⟨[],rfl⟩
   | cons z r ih =>
    intro k hz;obtain ⟨p,e,_⟩:=hz 0 z rfl;obtain ⟨ps,e2⟩:=ih (k+1) λ j y q=>by
     have:=hz (j+1) y (by simpa using q)
     rwa [Nat.add_assoc,Nat.add_comm 1 k] at this
    exact ⟨p :: ps,by rw [e,e2]; rfl⟩
  exact this ys 0 hr
 obtain ⟨ps,rfl⟩:=hp;refine ⟨ps,h,by simp,λ i p r e1 e2=>?_⟩;obtain ⟨p',e,n,q⟩:=hr i (.ref p) (by simp [e1]);cases e;have hi:i < ps.length:=(List.getElem?_eq_some_iff.mp e1).1;have:r=f i:=by
  rw [zH,yI,yH hi] at e2;exact (zT e2).symm
 rw [this];exact ⟨n,q⟩
theorem MatL.app {H:Hp} {l p:Addr} {M:List (List Int)} {r:List Int} (h:MatL H l M) (hp:H p=some (.lst (r.map V.int))) (ne:p≠l):∃ xs,H l=some (.lst xs)/\xs.length=M.length/\MatL (upd H l (.lst (xs++[.ref p]))) l (M++[r]):=by
 obtain ⟨ps,h1,h2,h3⟩:=h;refine ⟨_,h1,by simp [h2],ps++[p],by rw [a_G]; simp,by simp [h2],λ i q z e1 e2=>?_⟩
 by_cases hi:i < ps.length
 ·rw [yC hi] at e1;rw [yC (by omega)] at e2;obtain ⟨n,w⟩:=h3 i q z e1 e2;exact ⟨n,by rw [a_H n]; exact w⟩
 ·have e0:i=ps.length:=by
   have:=(List.getElem?_eq_some_iff.mp e1).1;simp at this;omega
  subst e0;rw [yD (zL _)] at e1;rw [h2,yD (zL _)] at e2;simp at e1 e2;subst e1 e2;exact ⟨ne,by rw [a_H ne]; exact hp⟩
theorem MatB.row {b1 b2:Bool} {K:Frag} {H:Hp} {a:Addr} {rows:List (List Int)} (h:MatB b1 b2 K H a rows) {i:Nat} {r:List Int} (e:rows[i]?=some r):∃ ps:List Addr,∃ p,SqB b1 K H a (ps.map V.ref)/\(ps.map V.ref)[i]?=some (.ref p)/\(ps.map V.ref).length=rows.length/\SqB b2 K H p (r.map V.int):=by
 obtain ⟨ps,h1,h2,h3⟩:=h;have hi:i < ps.length:=by have:=(List.getElem?_eq_some_iff.mp e).1; omega
 exact ⟨ps,ps[i],h1,by simp [hi],by simp [h2],h3 i _ r (by simp [hi]) e⟩
theorem MatB.walk {b1 b2:Bool} {K:Frag} {H:Hp} {a:Addr} {rows:List (List Int)} (h:MatB b1 b2 K H a rows):∃ xs:List V,SqB b1 K H a xs/\xs.length=rows.length/\∀ (i:Nat) x,xs[i]?=some x->∃ p r,x=.ref p/\rows[i]?=some r/\SqB b2 K H p (r.map V.int):=by
 obtain ⟨ps,h1,h2,h3⟩:=h;refine ⟨_,h1,by simp [h2],λ i x e=>?_⟩;rw [zH] at e;cases q:ps[i]? with
 | none=>rw [q] at e; cases e
 | some p =>
  rw [q] at e;have hi:i < rows.length:=by have:=(List.getElem?_eq_some_iff.mp q).1; omega
  exact ⟨p,rows[i],(zT e).symm,by simp [hi],h3 i p _ q (by simp [hi])⟩
theorem b_Y {α:Type} {xs:List α} {k:Nat} {x:α} {i:Int} (h:xs[k]?=some x) (hi:i=k):atI xs i=some x:=by
 subst hi;exact p_T h
theorem c_c {ns:List Int} {i:Nat} {x:V} (h:(ns.map V.int)[i]?=some x):∃ n,ns[i]?=some n/\x=.int n:=by
 rw [zH] at h;cases e:ns[i]? with
 | none=>rw [e] at h; cases h
 | some n=>rw [e] at h; exact ⟨n,rfl,(zT h).symm⟩
theorem c_N {ns:List Int} {i:Nat} {n:Int} (h:ns[i]?=some n):(ns.map V.int)[i]?=some (.int n):=by rw [zH,h]; rfl
theorem q_A {ns:List Int} {k:Nat} {n:Int} (h:ns[k]?=some n):ns.getD k 0=n:=by rw [List.getD_eq_getElem?_getD,h]; rfl
theorem getD_at {ns:List Int} {k:Nat} (h:k < ns.length):ns[k]?=some (ns.getD k 0):=by simp [h]
theorem getD_mem {ns:List Int} {k:Nat} (h:k < ns.length):ns.getD k 0∈ns:=by
 rw [show ns.getD k 0=ns[k] by simp [h]];exact yA h
noncomputable def colI (k:Nat) (rows:List (List Int)):List Int:=rows.map λ r=>r.getD k 0
noncomputable def dotI (ms ns:List Int):Int:=(List.zipWith (·*·) ms ns).sum
noncomputable def h_I (w:Nat) (rows:List (List Int)):List (List Int):=(List.range w).map λ k=>colI k rows
noncomputable def mulM (w:Nat) (A B:List (List Int)):List (List Int):=A.map λ r=>(List.range w).map λ k=>dotI r (colI k B)
theorem l_t {w:Nat} {A B:List (List Int)} {i:Nat} {r:List Int} (h:A[i]?=some r):(mulM w A B)[i]?=some ((List.range w).map λ k=>dotI r (colI k B)):=by
 unfold mulM;rw [zH,h];rfl
section
variable {K:Frag} {g:TG} {tb:TS} {σ:St} {H:Hp} {nx:St->Hp->Prop} {rt:VK}
noncomputable abbrev l_u (J:It) (g:TG) (tb:TS) (nx:St->Hp->Prop) (rt:VK) (σ:St) (H:Hp):Prop:=∃ W:Nat->Nat->St->Hp->Prop,(∃ m,W 0 m σ H)/\∀ i m σ H,W i m σ H ->
 (J.stop i H/\nx σ H)\/(J.go i H/\∃ N:St->Hp->Prop,(∀ σ' H',N σ' H'->∃ m',m' < m/\W (i+1) m' σ' H')/\∀ x H',J.yld i H x H'->g x σ H' λ σ2 H2=>tb { nx:=N,rt:=rt,bk:=nx,ct:=N } σ2 H2)
theorem d_J {lo:Int} {n:Nat} (Pv:Nat->St->Hp->Prop) (h0:Pv 0 σ H)
  (hs:∀ i σ H,i < n->Pv i σ H->g (.int (lo+i)) σ H λ σ2 H2=>tb { nx:=Pv (i+1),rt:=rt,bk:=nx,ct:=Pv (i+1) } σ2 H2) (hd:∀ σ H,Pv n σ H->nx σ H):l_u (Itr lo n) g tb nx rt σ H :=
 m_t (D:={ nx:=nx,rt:=rt,bk:=nx,ct:=nx }) Pv h0 hs hd
theorem g_u {b:Bool} {a:Addr} {xs:List V} (Pv:Nat->St->Hp->Prop) (h0:Pv 0 σ H) (hl:∀ i σ H,i<=xs.length->Pv i σ H->SqB b K H a xs)
  (hs:∀ i x σ H,xs[i]?=some x->Pv i σ H->g x σ H λ σ2 H2=>tb { nx:=Pv (i+1),rt:=rt,bk:=nx,ct:=Pv (i+1) } σ2 H2) (hd:∀ σ H,Pv xs.length σ H->nx σ H):l_u (Its K b a) g tb nx rt σ H :=
 p_Z (D:={ nx:=nx,rt:=rt,bk:=nx,ct:=nx }) Pv h0 hl hs hd
theorem l_v {b:Bool} {a:Addr} {xs:List V} (Pv:Nat->St->Hp->Prop) (h0:Pv 0 σ H) (hl:∀ i σ H,i<=xs.length->Pv i σ H->SqB b K H a xs)
  (hs:∀ i x p σ H,xs[i]?=some x->Pv i σ H->H p=none->g (.ref p) σ (upd H p (.tup [.int i,x])) λ σ2 H2=>tb { nx:=Pv (i+1),rt:=rt,bk:=nx,ct:=Pv (i+1) } σ2 H2) (hd:∀ σ H,Pv xs.length σ H->nx σ H):l_u (Ite K b a) g tb nx rt σ H :=
 o_h (D:={ nx:=nx,rt:=rt,bk:=nx,ct:=nx }) Pv h0 hl hs hd
end
theorem d_D {b1 b2:Bool} {K:Frag} {H:Hp} {a:Addr} {rows:List (List Int)} {i k:Nat} {r:List Int} {x:Int} {I J:Int} {Q:VK} (h:MatB b1 b2 K H a rows) (e:rows[i]?=some r) (e2:r[k]?=some x) (hi:I=i) (hk:J=k) (q:Q (.int x) H) :
  rIxB K (.ref a) (.int I) H λ v H1=>rIxB K v (.int J) H1 Q:=by
 obtain ⟨ps,p,k1,k2,k3,k4⟩:=h.row e;exact ⟨b1,a,_,_,_,rfl,rfl,k1,b_Y k2 hi,b2,p,_,_,_,rfl,rfl,k4,b_Y (c_N e2) hk,q⟩
theorem f_C {b1 b2:Bool} {K:Frag} {H:Hp} {a:Addr} {rows:List (List Int)} {i:Nat} {r:List Int} {I:Int} {Q:VK} (h:MatB b1 b2 K H a rows) (e:rows[i]?=some r) (hi:I=i) (q:∀ p,SqB b2 K H p (r.map V.int)->Q (.ref p) H) :
  rIxB K (.ref a) (.int I) H Q:=by
 obtain ⟨ps,p,k1,k2,k3,k4⟩:=h.row e;exact ⟨b1,a,_,_,_,rfl,rfl,k1,b_Y k2 hi,q p k4⟩
theorem b_V {b1 b2:Bool} {K:Frag} {H:Hp} {a:Addr} {rows:List (List Int)} {Q:VK} (h:MatB b1 b2 K H a rows) (q:Q (.int rows.length) H):f_Z K [.ref a] H Q:=by
 obtain ⟨ps,h1,h2,h3⟩:=h;refine ⟨b1,a,_,rfl,h1,?_⟩;rw [yI,h2];exact q
theorem c_s {b:Bool} {K:Frag} {H:Hp} {a:Addr} {ns:List Int} {Q:VK} (h:SqB b K H a (ns.map V.int)) (q:Q (.int ns.length) H):f_Z K [.ref a] H Q:=by
 refine ⟨b,a,_,rfl,h,?_⟩;rw [yI];exact q
noncomputable def b_A (a:Addr) (H:Hp) (zs:List V) (M:List (List Int)):Prop:=∃ ps:List Addr,zs=ps.map V.ref/\ps.length=M.length/\∀ (j:Nat) (p:Addr) (r:List Int),ps[j]?=some p->M[j]?=some r->p≠a/\H p=some (.lst (r.map V.int))
theorem b_A.nil {a:Addr} {H:Hp}:b_A a H [] []:=⟨[],rfl,rfl,λ j p r e=>by simp at e⟩
theorem b_A.len {a:Addr} {H:Hp} {zs:List V} {M:List (List Int)} (h:b_A a H zs M):zs.length=M.length:=let ⟨ps,e,l,_⟩:=h; by rw [e,yI,l]
theorem b_A.mono {a:Addr} {H H':Hp} {zs:List V} {M:List (List Int)} (h:b_A a H zs M) (s:f_L a H H'):b_A a H' zs M:=let ⟨ps,e,l,q⟩:=h; ⟨ps,e,l,λ j p r e1 e2=>⟨(q j p r e1 e2).1,s _ _ (q j p r e1 e2).1 (q j p r e1 e2).2⟩⟩
theorem b_A.snoc {a p:Addr} {H:Hp} {zs:List V} {M:List (List Int)} {r:List Int} (h:b_A a H zs M) (ne:p≠a) (hp:H p=some (.lst (r.map V.int))):b_A a H (zs++[.ref p]) (M++[r]):=by
 obtain ⟨ps,rfl,h2,h3⟩:=h;refine ⟨ps++[p],by simp,by simp [h2],λ i q z e1 e2=>?_⟩
 by_cases hi:i < ps.length
 ·rw [yC hi] at e1;rw [yC (by omega)] at e2;exact h3 i q z e1 e2
 ·have e0:i=ps.length:=by
   have:=(List.getElem?_eq_some_iff.mp e1).1;simp at this;omega
  subst e0;rw [yD (zL _)] at e1;rw [h2,yD (zL _)] at e2;simp at e1 e2;subst e1 e2;exact ⟨ne,hp⟩
theorem b_A.mat {a:Addr} {H:Hp} {zs:List V} {M:List (List Int)} (h:H a=some (.lst zs)) (r:b_A a H zs M):MatL H a M:=by
 obtain ⟨ps,rfl,h2,h3⟩:=r;exact ⟨ps,h,h2,h3⟩
theorem MatL.refs {a:Addr} {H:Hp} {M:List (List Int)} (h:MatL H a M):∃ zs,H a=some (.lst zs)/\b_A a H zs M:=let ⟨ps,h1,h2,h3⟩:=h; ⟨_,h1,ps,rfl,h2,h3⟩
theorem h_J (ns:List Int) (lo hi:Option Int):cutV (ns.map V.int) lo hi=((ns.drop (HT.sIx ns.length 0 lo)).take (HT.sIx ns.length ns.length hi - HT.sIx ns.length 0 lo)).map V.int:=by
 unfold cutV;rw [yI,List.map_take,List.map_drop]
theorem o_m {ns:List Int} {k:Nat} (h:k<=ns.length):cutV (ns.map V.int) none (some (k:Int))=(ns.take k).map V.int:=by
 rw [h_J,HT.sIx_none,HT.sIx_nat,Nat.min_eq_left h];simp
theorem j_P {ns:List Int} {k:Nat} (h:k<=ns.length):cutV (ns.map V.int) (some (k:Int)) none=(ns.drop k).map V.int:=by
 rw [h_J,HT.sIx_none,HT.sIx_nat,Nat.min_eq_left h,List.take_of_length_le (by simp)]
section
variable {K:Frag} {H:Hp} {a a1:Addr} {M:List (List Int)} {σ:St} {Q:VK} {b1 b2:Bool}
theorem m_J (hM:MatB b1 b2 K H a M) (hl:M.length<=1000) (ha1:H a1=none) (hQ:∀ H1,Same H H1->MatL H1 a1 M->Q (.ref a1) H1):c_D (Its K b1 a) (a_M 0) (tEl (tCB (e_S K) (b_D (tVar 0) tNil))) 1 [] σ a1 H Q:=by
 obtain ⟨xs,x1,x2,x3⟩:=hM.walk;refine c_h (RowR a1 λ j=>M.getD j []) ha1 x1 (by omega) (RowR.mono (a:=a1)) ?_ ?_
 ·intro i x H1 zs ex s1 ez Q' hQ';obtain ⟨p,r,rfl,er,hp⟩:=x3 i x ex;refine ⟨_,rfl,b2,p,_,rfl,hp.up s1,λ l hl1=>hQ' _ _ (Same.new hl1) ⟨l,rfl,Ne.symm (a_J ez hl1),?_⟩⟩;rw [a_G]; dsimp only; rw [List.getD_eq_getElem?_getD,er];rfl
 ·intro H1 ys s1 e1 hly hr1;have:=MatL.of e1 hr1;have e:(List.range ys.length).map (λ j=>M.getD j [])=M:=by
   rw [hly,x2];refine yG (by simp) λ i h1 h2=>?_;simp at h1;simp [h1]
  rw [e] at this;exact hQ H1 s1 this
noncomputable def MatT (H:Hp) (a:Addr) (rows:List (List Int)):Prop:=∃ ps:List Addr,H a=some (.lst (ps.map V.ref))/\ps.length=rows.length/\∀ (i:Nat) (p:Addr) (r:List Int),ps[i]?=some p->rows[i]?=some r->H p=some (.tup (r.map V.int))
theorem o_n (hM:MatB b1 false K H a M) (hl:M.length<=1000) (ha1:H a1=none) (hQ:∀ H1,Same H H1->MatT H1 a1 M->Q (.ref a1) H1):c_D (Its K b1 a) (a_M 0) (tEl (tCB (j_N K) (b_D (tVar 0) tNil))) 1 [] σ a1 H Q:=by
 obtain ⟨xs,x1,x2,x3⟩:=hM.walk;refine c_h (λ j y H1=>∃ p r,y=.ref p/\M[j]?=some r/\p≠a1/\H1 p=some (.tup (r.map V.int))) ha1 x1 (by omega) (λ i y H1 H2 ⟨p,r,e1,e2,e3,e4⟩ s=>⟨p,r,e1,e2,e3,s _ _ e3 e4⟩) ?_ ?_
 ·intro i x H1 zs ex s1 ez Q' hQ';obtain ⟨p,r,rfl,er,hp⟩:=x3 i x ex;exact ⟨_,rfl,p,_,rfl,.inl ⟨hp.up s1,λ l hl1=>hQ' _ _ (Same.new hl1) ⟨l,r,rfl,er,Ne.symm (a_J ez hl1),a_G⟩⟩⟩
 ·intro H1 ys s1 e1 hly hr1;have hps:∃ ps:List Addr,ys=ps.map V.ref:=by
   clear e1 hly;have:∀ (zs:List V),(∀ (j:Nat) y,zs[j]?=some y->∃ p:Addr,y=.ref p)->∃ ps:List Addr,zs=ps.map V.ref:=by
    intro zs
    induction zs with
    | nil=>intro _; exact ⟨[],rfl⟩
    | cons z r ih =>
     intro hz;obtain ⟨p,e⟩:=hz 0 z rfl;obtain ⟨ps,e2⟩:=ih λ j y q=>hz (j+1) y (by simpa using q);exact ⟨p :: ps,by rw [e,e2]; rfl⟩
   exact this ys λ j y e=>let ⟨p,r,e1,_⟩:=hr1 j y e; ⟨p,e1⟩
  obtain ⟨ps,rfl⟩:=hps;refine hQ H1 s1 ⟨ps,e1,by simp at hly; omega,λ i p r e2 e3=>?_⟩;obtain ⟨p',r',e4,e5,_,e6⟩:=hr1 i (.ref p) (by simp [e2]);cases e4;rw [e3] at e5;cases e5;exact e6
theorem MatT.tuple {l:Addr} (h:MatT H a M) (hl:H l=none):∃ zs,H a=some (.lst zs)/\MatB true true K (upd H l (.tup zs)) l M:=by
 obtain ⟨ps,h1,h2,h3⟩:=h;exact ⟨_,h1,ps,SqB.tup a_G,h2,λ i p r e1 e2=>SqB.tup (Same.new hl _ _ (h3 i p r e1 e2))⟩
end
theorem h_K {X:Cx} {x:Str} {v:V} {pos:Pos} (hg:Gl X x) (h:∃ u,X.mg x=some u/\RelV v u) (hd:(x == ("__debug__" : Str))=false:=by decide):PE X (.Name x pos) (tC v):=by
 obtain ⟨u,e,r⟩:=h;exact p_J hg e r hd
noncomputable def MkIs (ta:TA) (ns:List Int):Prop:=∀ σ H Q,Q (ns.map V.int) H->ta σ H Q
noncomputable def MkR (te:TE) (ns:List Int):Prop:=∀ σ H Q,(∀ p H',Same H H'->H p=none->H' p=some (.lst (ns.map V.int))->Q (.ref p) H')->te σ H Q
theorem MkR.of {ta:TA} {ns:List Int} (h:MkIs ta ns) (hz:ns.length<=1000):MkR (tLst ta) ns:=λ σ H Q q=>h σ H _ ⟨by rw [yI]; exact Nat.le_of_lt (c_p hz),λ l hl=>q l _ (Same.new hl) hl a_G⟩
noncomputable def MkRs (ta:TA) (M:List (List Int)):Prop:=∀ σ H Q,(∀ ps H',Same H H'->RefRowsN H H' ps M->Q (ps.map V.ref) H')->ta σ H Q
where RefRowsN (H H':Hp) (ps:List Addr) (M:List (List Int)):Prop:=ps.length=M.length/\∀ (j:Nat) (p:Addr) (r:List Int),ps[j]?=some p->M[j]?=some r->H' p=some (.lst (r.map V.int))
theorem MkRs.nil:MkRs tNil []:=λ _ H Q q=>q [] H (Same.refl _) ⟨rfl,λ j p r e=>by simp at e⟩
theorem MkRs.cons {te:TE} {ta:TA} {ns:List Int} {M:List (List Int)} (h:MkR te ns) (h2:MkRs ta M):MkRs (b_D te ta) (ns :: M):=λ σ H Q q=>h σ H _ λ p H1 s1 hp e1=>h2 σ H1 _ λ ps H2 s2 r=>q (p :: ps) H2 (s1.trans s2) ⟨by simp [r.1],λ j p' r' e e'=>by
 cases j with
 | zero=>simp at e e'; subst e e'; exact s2 _ _ e1
 | succ j=>exact r.2 j p' r' (by simpa using e) (by simpa using e')⟩
noncomputable def MkM (te:TE) (M:List (List Int)):Prop:=∀ σ H Q,(∀ p H',Same H H'->H p=none->MatL H' p M->Q (.ref p) H')->te σ H Q
theorem MkM.of {ta:TA} {M:List (List Int)} (h:MkRs ta M) (hz:M.length<=1000):MkM (tLst ta) M:=λ σ H Q q=>h σ H _ λ ps H1 s1 r=>⟨by rw [yI,r.1]; exact Nat.le_of_lt (c_p hz),λ l hl=>by
 have hn:H l=none:=by cases e:H l with | none=>rfl | some o=>rw [s1 _ _ e] at hl; cases hl
 exact q l _ (s1.trans (Same.new hl)) hn ⟨ps,a_G,r.1,λ i p z e1 e2=>⟨a_J (r.2 i p z e1 e2) hl,Same.new hl _ _ (r.2 i p z e1 e2)⟩⟩⟩
noncomputable def Mats (H:Hp) (p:Addr) (Ms:List (List (List Int))):Prop:=∃ ps:List Addr,H p=some (.lst (ps.map V.ref))/\ps.length=Ms.length/\∀ (i:Nat) (q:Addr) (M:List (List Int)),ps[i]?=some q->Ms[i]?=some M->MatL H q M
theorem Mats.up {H H':Hp} {p:Addr} {Ms:List (List (List Int))} (h:Mats H p Ms) (s:Same H H'):Mats H' p Ms:=let ⟨ps,h1,h2,h3⟩:=h; ⟨ps,s _ _ h1,h2,λ i q M e1 e2=>(h3 i q M e1 e2).up s⟩
noncomputable def MkMs (ta:TA) (Ms:List (List (List Int))):Prop:=∀ σ H Q,(∀ (ps:List Addr) H',Same H H'->ps.length=Ms.length->(∀ (i:Nat) (q:Addr) (M:List (List Int)),ps[i]?=some q->Ms[i]?=some M->MatL H' q M)->Q (ps.map V.ref) H')->ta σ H Q
theorem MkMs.nil:MkMs tNil []:=λ _ H Q q=>q [] H (Same.refl _) rfl λ j p r e=>by simp at e
theorem MkMs.cons {te:TE} {ta:TA} {M:List (List Int)} {Ms:List (List (List Int))} (h:MkM te M) (h2:MkMs ta Ms):MkMs (b_D te ta) (M :: Ms):=λ σ H Q q=>h σ H _ λ p H1 s1 _ e1=>h2 σ H1 _ λ ps H2 s2 l r=>q (p :: ps) H2 (s1.trans s2) (by simp [l]) λ j p' r' e e'=>by
 cases j with
 | zero=>simp at e e'; subst e e'; exact e1.up s2
 | succ j=>exact r j p' r' (by simpa using e) (by simpa using e')
theorem MkMs.lst {ta:TA} {Ms:List (List (List Int))} (h:MkMs ta Ms) (hz:Ms.length<=1000) {σ:St} {H:Hp} {Q:VK} (q:∀ p H',Same H H'->Mats H' p Ms->Q (.ref p) H'):tLst ta σ H Q:=h σ H _ λ ps H1 s1 l r=>⟨by rw [yI,l]; exact Nat.le_of_lt (c_p hz),λ a ha =>
 q a _ (s1.trans (Same.new ha)) ⟨ps,a_G,l,λ i q M e1 e2=>(r i q M e1 e2).up (Same.new ha)⟩⟩
theorem Mats.cat {H:Hp} {p q:Addr} {A B:List (List (List Int))} {Q:VK} (h1:Mats H p A) (h2:Mats H q B) (hz:A.length+B.length<=1000) (k:∀ r H',Same H H'->Mats H' r (A++B)->Q (.ref r) H'):rCat (.ref p) (.ref q) H Q:=by
 obtain ⟨ps,a1,a2,a3⟩:=h1;obtain ⟨qs,b1,b2,b3⟩:=h2;refine ⟨p,q,_,_,rfl,rfl,a1,b1,by rw [yI,yI,a2,b2]; exact Nat.le_of_lt (c_p hz),λ r hr=>k r _ (Same.new hr) ⟨ps++qs,by rw [a_G,List.map_append],by simp [a2,b2],λ i z M e1 e2=>?_⟩⟩
 by_cases hi:i < ps.length
 ·rw [yC hi] at e1;rw [yC (by omega)] at e2;exact (a3 i z M e1 e2).up (Same.new hr)
 ·rw [yD (by omega)] at e1;rw [yD (by omega),← a2] at e2;exact (b3 _ z M e1 e2).up (Same.new hr)
theorem Mats.at {K:Frag} {H:Hp} {p:Addr} {Ms:List (List (List Int))} {i:Nat} {M:List (List Int)} {I:Int} {Q:VK} (h:Mats H p Ms) (e:Ms[i]?=some M) (hi:I=i) (k:∀ q,MatL H q M->Q (.ref q) H):rIxB K (.ref p) (.int I) H Q:=by
 obtain ⟨ps,h1,h2,h3⟩:=h;have hlt:i < ps.length:=by have:=(List.getElem?_eq_some_iff.mp e).1; omega
 exact ⟨false,p,_,_,_,rfl,rfl,SqB.lst h1,b_Y (show (ps.map V.ref)[i]?=some (.ref ps[i]) by simp [hlt]) hi,k _ (h3 i _ M (by simp [hlt]) e)⟩
noncomputable def MatD (H0 H:Hp) (a:Addr) (rows:List (List Int)):Prop:=∃ ps:List Addr,H a=some (.lst (ps.map V.ref))/\ps.length=rows.length/\ps.Nodup/\∀ (i:Nat) (p:Addr) (r:List Int),ps[i]?=some p->rows[i]?=some r->p≠a/\H0 p=none/\H p=some (.lst (r.map V.int))
theorem MatD.l {H0 H:Hp} {a:Addr} {rows:List (List Int)} (h:MatD H0 H a rows):MatL H a rows:=let ⟨ps,h1,h2,_,h3⟩:=h; ⟨ps,h1,h2,λ i p r e1 e2=>⟨(h3 i p r e1 e2).1,(h3 i p r e1 e2).2.2⟩⟩
theorem MatD.row {H0 H:Hp} {a:Addr} {rows:List (List Int)} {i:Nat} {r:List Int} (h:MatD H0 H a rows) (e:rows[i]?=some r):∃ zs p,H a=some (.lst zs)/\zs[i]?=some (.ref p)/\zs.length=rows.length/\p≠a/\H0 p=none/\H p=some (.lst (r.map V.int))/\∀ r',MatD H0 (upd H p (.lst (r'.map V.int))) a (rows.set i r'):=by
 obtain ⟨ps,h1,h2,hn,h3⟩:=h;have hi:i < ps.length:=by have:=(List.getElem?_eq_some_iff.mp e).1; omega
 have hp:=h3 i ps[i] r (by simp [hi]) e;refine ⟨_,ps[i],h1,by simp [hi],by simp [h2],hp.1,hp.2.1,hp.2.2,λ r'=>⟨ps,by rw [a_H (Ne.symm hp.1)]; exact h1,by simp [h2],hn,λ j q z e1 e2=>?_⟩⟩
 by_cases hj:j=i
 ·subst hj;have eq:q=ps[j]:=by simp [hi] at e1; exact e1.symm
  subst eq;rw [zP (by omega)] at e2;cases e2;exact ⟨hp.1,hp.2.1,a_G⟩
 ·rw [zQ (Ne.symm hj)] at e2;obtain ⟨n1,n3,n2⟩:=h3 j q z e1 e2;have:q≠ps[i]:=λ w=>by
   have hjl:=(List.getElem?_eq_some_iff.mp e1);obtain ⟨hjl,ej⟩:=hjl;exact hj ((List.getElem_inj hn).mp (ej.trans w))
  exact ⟨n1,n3,by rw [a_H this]; exact n2⟩
section
variable {K:Frag} {H:Hp} {a a1:Addr} {M:List (List Int)} {σ:St} {Q:VK} {b1 b2:Bool}
theorem k_M (hM:MatB b1 b2 K H a M) (hl:M.length<=1000) (ha1:H a1=none) (hQ:∀ H1,Same H H1->MatD H H1 a1 M->Q (.ref a1) H1):c_D (Its K b1 a) (a_M 0) (tEl (tCB (e_S K) (b_D (tVar 0) tNil))) 1 [] σ a1 H Q:=by
 obtain ⟨xs,x1,x2,x3⟩:=hM.walk;refine h_G xs.length (λ t zs H1=>∃ ps:List Addr,zs=ps.map V.ref/\ps.length=t/\ps.Nodup/\∀ (j:Nat) (p:Addr) (r:List Int),ps[j]?=some p->M[j]?=some r->p≠a1/\H p=none/\H1 p=some (.lst (r.map V.int))) ha1 (by omega) ⟨[],rfl,rfl,List.nodup_nil,λ j p r e=>by simp at e⟩
  (λ i zs H1 ⟨ps,e,l,_⟩=>by rw [e,yI,l]; exact zL _) (λ i zs H1 H2 ⟨ps,e,l,n,q⟩ s=>⟨ps,e,l,n,λ j p r e1 e2=>⟨(q j p r e1 e2).1,(q j p r e1 e2).2.1,s _ _ (q j p r e1 e2).1 (q j p r e1 e2).2.2⟩⟩)
  (λ i H1 hi s=>Its.go (x1.up s) (x:=xs[i]) (by simp [hi])) (λ H1 s=>Its.stop (x1.up s) (zL _)) ?_ ?_
 ·rintro i H1 zs hi s1 ez ⟨ps,rfl,hpl,hnd,hq⟩ ys x H3 hys hy C hC _;obtain ⟨e1,e2⟩:=Its.yld (x1.up s1) hy;subst e1;obtain ⟨p,r,rfl,er,hp⟩:=x3 i x e2
  match ys,hys with
  | [o],_ =>
   refine ⟨⟨[some (.ref p)],rfl,rfl⟩,_,rfl,b2,p,_,rfl,hp.up s1,λ l hl1=>hC _ _ (Same.new hl1) ⟨ps++[l],by simp,by simp [hpl],?_,λ j p' r' e3 e4=>?_⟩⟩
   ·rw [List.nodup_append];refine ⟨hnd,by simp,λ z hz w hw=>?_⟩;rw [List.mem_singleton.mp hw];obtain ⟨j,hj,ej⟩:=yF hz;have hjM:j < M.length:=by omega
    exact a_J (hq j z M[j] (by simp [hj,ej]) (by simp [hjM])).2.2 hl1
   ·by_cases hj:j < ps.length
    ·rw [yC hj] at e3;obtain ⟨n1,n3,n2⟩:=hq j p' r' e3 e4;exact ⟨n1,n3,Same.new hl1 _ _ n2⟩
    ·have ej:j=ps.length:=by have:=(List.getElem?_eq_some_iff.mp e3).1; simp at this; omega
     subst ej;rw [yD (zL _)] at e3;simp at e3;subst e3;rw [hpl,er] at e4;cases e4;have hn:H l=none:=by cases w:H l with | none=>rfl | some o=>rw [s1 _ _ w] at hl1; cases hl1
     exact ⟨Ne.symm (a_J ez hl1),hn,a_G⟩
 ·rintro H1 ys s1 e1 ⟨ps,rfl,hpl,hnd,hq⟩;exact hQ H1 s1 ⟨ps,e1,by omega,hnd,hq⟩
end
noncomputable def litI:Expr->Option Int
 | .Constant (.int i) _ _=>some i
 | .UnaryOp .USub (.Constant (.int i) _ _) _=>some (-i)
 | _=>none
noncomputable def l_w:List Expr->Option (List Int)
 | []=>some []
 | e :: es=>match litI e,l_w es with | some n,some ns=>some (n :: ns) | _,_=>none
noncomputable def litR:Expr->Option (List Int)
 | .List es _=>l_w es
 | _=>none
noncomputable def l_x:List Expr->Option (List (List Int))
 | []=>some []
 | e :: es=>match litR e,l_x es with | some n,some ns=>some (n :: ns) | _,_=>none
noncomputable def litM:Expr->Option (List (List Int))
 | .List es _=>l_x es
 | _=>none
noncomputable def l_y:List Expr->Option (List (List (List Int)))
 | []=>some []
 | e :: es=>match litM e,l_y es with | some n,some ns=>some (n :: ns) | _,_=>none
noncomputable def l_z:Expr->Option (List (List (List Int)))
 | .List es _=>l_y es
 | _=>none
section
variable {X:Cx}
theorem PE.weak {e:Expr} {t u:TE} (h:PE X e t) (w:∀ σ H Q,u σ H Q->t σ H Q):PE X e u:=λ pins s σ H Q I q=>h pins s σ H Q I (w σ H Q q)
theorem PA.weak {es:List Expr} {t u:TA} (h:PA X es t) (w:∀ σ H Q,u σ H Q->t σ H Q):PA X es u:=λ pos pins s σ H Q I q=>h pos pins s σ H Q I (w σ H Q q)
theorem l_A {e:Expr} {n:Int} (h:litI e=some n):PE X e (tC (.int n))/\∀ es,starEach (e :: es) X.env=(false,eval e X.env) :: starEach es X.env:=by
 unfold litI at h;split at h
 ·cases h; exact ⟨a_E,λ _=>rfl⟩
 ·cases h;exact ⟨(e_D d_L a_E).weak λ σ H Q q=>⟨_,rfl,q⟩,λ _=>rfl⟩
 ·cases h
theorem j_Q:∀ {es:List Expr} {ns:List Int},l_w es=some ns->PA X es λ _ H Q=>Q (ns.map V.int) H
 | [],ns,h=>by cases h; exact a_B
 | e :: es,ns,h=>by
  unfold l_w at h;split at h
  ·rename_i n ms e1 e2;cases h;exact (a_A (l_A e1).1 (j_Q e2) ((l_A e1).2 es)).weak λ σ H Q q=>q
  ·cases h
noncomputable def r_m (ns:List Int):TE:=λ _ H Q=>∀ p H',Same H H'->H p=none->H' p=some (.lst (ns.map V.int))->Q (.ref p) H'
noncomputable def r_n (M:List (List Int)):TE:=λ _ H Q=>∀ p H',Same H H'->H p=none->MatL H' p M->Q (.ref p) H'
noncomputable def k_N (Ms:List (List (List Int))):TE:=λ _ H Q=>∀ p H',Same H H'->Mats H' p Ms->Q (.ref p) H'
theorem q_B {e:Expr} {ns:List Int} (h:litR e=some ns) (hz:ns.length<=1000):PE X e (r_m ns)/\∀ es,starEach (e :: es) X.env=(false,eval e X.env) :: starEach es X.env:=by
 unfold litR at h;split at h
 ·refine ⟨(e_g (j_Q h)).weak λ σ H Q q=>MkR.of (ta:=λ _ H Q=>Q (ns.map V.int) H) (λ _ _ _ q=>q) hz σ H Q q,λ _=>rfl⟩
 ·cases h
theorem j_R:∀ {es:List Expr} {M:List (List Int)},l_x es=some M->(∀ r∈M,r.length<=1000)->∃ ta,PA X es ta/\MkRs ta M
 | [],ns,h,_=>by cases h; exact ⟨_,a_B,MkRs.nil⟩
 | e :: es,ns,h,hz=>by
  unfold l_x at h;split at h
  ·rename_i n ms e1 e2;cases h;have h1:=q_B (X:=X) e1 (hz n zU);obtain ⟨ta,h2,h3⟩:=j_R e2 λ r hr=>hz r (zN _ hr);exact ⟨_,a_A h1.1 h2 (h1.2 es),MkRs.cons (te:=r_m n) (λ σ H Q q=>q) h3⟩
  ·cases h
theorem q_C {e:Expr} {M:List (List Int)} (h:litM e=some M) (hz:M.length<=1000/\∀ r∈M,r.length<=1000):PE X e (r_n M)/\∀ es,starEach (e :: es) X.env=(false,eval e X.env) :: starEach es X.env:=by
 unfold litM at h;split at h
 ·obtain ⟨ta,h1,h2⟩:=j_R (X:=X) h hz.2;exact ⟨(e_g h1).weak λ σ H Q q=>MkM.of h2 hz.1 σ H Q q,λ _=>rfl⟩
 ·cases h
theorem j_S:∀ {es:List Expr} {Ms:List (List (List Int))},l_y es=some Ms->(∀ M∈Ms,M.length<=1000/\∀ r∈M,r.length<=1000)->∃ ta,PA X es ta/\MkMs ta Ms
 | [],ns,h,_=>by cases h; exact ⟨_,a_B,MkMs.nil⟩
 | e :: es,ns,h,hz=>by
  unfold l_y at h;split at h
  ·rename_i n ms e1 e2;cases h;have h1:=q_C (X:=X) e1 (hz n zU);obtain ⟨ta,h2,h3⟩:=j_S e2 λ r hr=>hz r (zN _ hr);exact ⟨_,a_A h1.1 h2 (h1.2 es),MkMs.cons (te:=r_n n) (λ σ H Q q=>q) h3⟩
  ·cases h
theorem l_B {e:Expr} {Ms:List (List (List Int))} (h:(decide (l_z e=some Ms) && decide (Ms.length<=1000/\∀ M∈Ms,M.length<=1000/\∀ r∈M,r.length<=1000))=true):PE X e (k_N Ms):=by
 simp only [Bool.and_eq_true,decide_eq_true_eq] at h;obtain ⟨h,hz,hz2⟩:=h;unfold l_z at h;split at h
 ·obtain ⟨ta,h1,h2⟩:=j_S (X:=X) h hz2;exact (e_g h1).weak λ σ H Q q=>MkMs.lst h2 hz q
 ·cases h
end
theorem s_Q {es:List Expr} {pos:Pos} {t:Option Expr} {l:Nat} {env:Env}:swapsWith (.List es pos) t l env=pure false:=by cases t <;> rfl
theorem s_R {a b:Expr} {op:Operator} {pos:Pos} {t:Option Expr} {l:Nat} {env:Env}:swapsWith (.BinOp a op b pos) t l env=pure false:=by cases t <;> rfl
noncomputable def l_C (Ms:List (List (List Int))):Bool:=decide (Ms.length<=1000/\∀ M∈Ms,M.length<=1000/\∀ r∈M,r.length<=1000)
noncomputable def isList:Expr->Bool
 | .List _ _=>true
 | _=>false
noncomputable def o_o (x:Str) (Ms:List (List (List Int))):Stmt->Bool
 | .Assign [.Name y _] e _=>decide (y=x) && isList e && (decide (l_z e=some Ms) && l_C Ms)
 | _=>false
noncomputable def o_p (y x:Str) (Ms:List (List (List Int))):Stmt->Bool
 | .Assign [.Name y' _] (.BinOp (.Name x' _) .Add e _) _=>decide (y'=y) && decide (x'=x) && (decide (l_z e=some Ms) && l_C Ms)
 | _=>false
theorem i_B {X:Cx} {st:Stmt} {i:Nat} {x:Str} {Ms:List (List (List Int))} (h:o_o x Ms st=true) (hN:X.N.Nodup) (hi:X.N[i]?=some x) (hx:X.env.scope.names.lookup x=some .local):PS X st (tAsg (k_N Ms) (a_M i)):=by
 unfold o_o at h;split at h
 ·rename_i y p e q;simp only [Bool.and_eq_true,decide_eq_true_eq] at h;obtain ⟨⟨rfl,hl⟩,hm,hz⟩:=h;have hs:∀ pos' l,swapsWith e (some (.Name y pos')) l X.env=pure false:=by
   intro pos' l;unfold isList at hl;split at hl
   ·exact s_Q
   ·cases hl
  exact a_P hN hi (.inl hx) (l_B (by rw [zW hm]; exact hz)) (hs _ _) (.inr hx)
 ·cases h
theorem c_F {X:Cx} {st:Stmt} {i j:Nat} {y x:Str} {Ms:List (List (List Int))} (h:o_p y x Ms st=true) (hN:X.N.Nodup) (hi:X.N[i]?=some y) (hx:X.env.scope.names.lookup y=some .local) (hj:X.N[j]?=some x) (hv:Vis X.env.scope x) (hd:(x == ("__debug__" : Str))=false) (hc:(x == ("__classdict__" : Str))=false):PS X st (tAsg (tOp rCat (tVar j) (k_N Ms)) (a_M i)):=by
 unfold o_p at h;split at h
 ·rename_i y' p x' p' e p2 p3;simp only [Bool.and_eq_true,decide_eq_true_eq] at h;obtain ⟨⟨rfl,rfl⟩,hm,hz⟩:=h;exact a_P hN hi (.inl hx) (a_L k_F (k_s hj hv hd hc) (l_B (by rw [zW hm]; exact hz))) s_R (.inr hx)
 ·cases h
section
variable {X:Cx}
theorem i_C:∀ {bs:List Bool} {its:List Value},Vals (bs.map V.bl) its->∀ (i:Nat) (v:Value),its[i]?=some v->∃ b,bs[i]?=some b/\v=.bool b
 | [],_,.nil,i,v,e=>by simp at e
 | b :: r,_,.cons h q,i,v,e=>by
  cases i with
  | zero=>simp at e; subst e; exact ⟨b,rfl,h⟩
  | succ i=>simpa using i_C (bs:=r) q i v (by simpa using e)
theorem f_R:∀ bs:List Bool,((List.range bs.length).any λ i=>(bs[i]?).getD false)=bs.any id
 | []=>rfl
 | b :: bs=>by
  have ih:=f_R bs;rw [List.length_cons,List.range_succ_eq_map,List.any_cons,List.any_cons,List.any_map];show (b || _)=(b || _);congr 1
theorem o_q (hc:X.calm=true):e_m X (.builtin "any") (λ xs H Q=>∃ (p:Addr) (bs:List Bool),xs=[.ref p]/\SqL X.K H p (bs.map V.bl)/\Q (.bl (bs.any id)) H):=by
 intro pins s σ H xs us Q I r h;obtain ⟨p,bs,rfl,hq,q⟩:=h;obtain ⟨u,rfl,rx⟩:=d_Y r;cases rx;obtain ⟨its,rv,pl,hz⟩:=I.list hq;have hl:s.heap.IsList p its.toArray:=pl.isList;have hlt:p < s.heap.objs.size:=by obtain ⟨_,e,_⟩:=hl; exact zE e
 have hlen:its.toArray.size=bs.length:=by
  have:=rv.length;simpa using this.symm
 refine call_any_walk (wpAny_pyIter_list hl ?_);refine ⟨s.heap.objs.size,[s.heap.objs.size,p],[s.heap.objs.size],its.toArray.size,_,_,λ i=>(bs[i]?).getD false,rfl,Walks.list (A:=X.A.in1) (I.ok.hd hc) _ p (Nat.ne_of_lt hlt) its.toArray,
  ⟨⟨_,zF _ rfl,rfl,rfl⟩,hl.push _⟩,λ i v s' Q' E' hP hQ=>?_,λ h' tk hk=>?_⟩
 ·obtain ⟨b,e,rfl⟩:=i_C rv i v (by simpa using hP);simp only [e,Option.getD_some] at hQ;exact wpAny_truthy_bool hQ
 ·rw [hlen,f_R bs];refine ⟨.bl (bs.any id),H,I.kept (t':=tk) λ b x e=>hk b x (λ hm=>by rw [List.mem_singleton.mp hm] at e; exact Nat.lt_irrefl _ (zE e)) (zD _ e),rfl,q⟩
end
open Builtin Builtin.Str
noncomputable def g_v (Fm:Addr->Prop) (m:Str) (sp:Addr->Sp) (ta:TE):TE:=λ σ H Q=>ta σ H λ x H1=>∃ a C dx fs,x=.ref a/\H1 a=some (.ins C dx fs)/\Fm C/\fs.lookup m=none/\sp C [x] H1 Q E0
structure e_a (P:Program) (w:World) (K:Frag) (mg:Str->Option Value) (base:Heap) (k:Nat) (m:Str) (sp:Addr->Sp) (C:Addr):Prop where
 cl:Cls K C
 ex:∃ f fd ps,Meth K C m f/\FnOk P w K mg base CX0 k f fd ps (sp C)/\a_W K fd ps []
section
variable {X:Cx} {o:Expr} {m:Str} {apos pos:Pos} {ta:TE} {sp:Addr->Sp} {k:Nat} {Fm:Addr->Prop}
theorem b_Q {pl:Sem Bool} (he:PE X o ta) (D:∀ C,Fm C->e_a X.prog X.w X.K X.mg X.base k m sp C) (hr:Room k X.A) (hx:e_L CX0 X E0:=by exact a_O)
  (ht:eval (.Call (.Attribute o m apos) [] [] pos) X.env=(do
   let ov ← eval o X.env
   standAt apos.atName
   let (f,first) ← holding [ov] (getMethod ov m pl)
   callWith pos f first (backTo pos (starEach [] X.env)) (backToKw pos (keywordEach [] X.env))):=by rfl) :
  PE X (.Call (.Attribute o m apos) [] [] pos) (g_v Fm m sp ta):=by
 intro pins s σ H Q I h;refine PySem.W.methodCall_KW (pl:=pl) (thn (he pins s σ H _ I h) λ u s1 ⟨x,H1,I1,rx,a,C,dx,fs,ex,ea,hF,l,q⟩=>?_) ht;subst ex;obtain rfl:u=Value.ref a:=rx;obtain ⟨c,f,fd,ps,hm,F,hb⟩:=D C hF;refine h_z I1 ea c hm l ?_;exact PySem.W.callWith_K0 (first:=[.ref a]) I1.kIn hm.kp (k_B (us:=[.ref a]) (vs:=[.ref a]) F hr hb .nil hx I1 (.cons rfl .nil) q)
theorem o_r {e:Expr}:PE X e (λ _ _ _=>False):=λ _ _ _ _ _ _ h=>h.elim
end
section
variable {X:Cx}
theorem j_T:∀ {ns:List Int} {its:List Value},Vals (ns.map V.int) its->∀ (i:Nat) (v:Value),its[i]?=some v->∃ n t,ns[i]?=some n/\v=.int n t
 | [],_,.nil,i,v,e=>by simp at e
 | b :: r,_,.cons h q,i,v,e=>by
  cases i with
  | zero=>simp at e; subst e; obtain ⟨t,ht⟩:=h; exact ⟨b,t,rfl,ht⟩
  | succ i=>simpa using j_T (ns:=r) q i v (by simpa using e)
theorem m_K (hc:X.calm=true):e_m X (.builtin "any") (λ xs H Q=>∃ (p:Addr) (ns:List Int),xs=[.ref p]/\SqT X.K H p (ns.map V.int)/\Q (.bl ((ns.map λ n=>n != 0).any id)) H):=by
 intro pins s σ H xs us Q I r h;obtain ⟨p,ns,rfl,hq,q⟩:=h;obtain ⟨u,rfl,rx⟩:=d_Y r;cases rx;obtain ⟨its,rv,pl,hz⟩:=I.tuple hq;have hl:s.heap.IsTuple p its.toArray:=pl;have hlt:p < s.heap.objs.size:=by obtain ⟨_,e,_⟩:=hl; exact zE e
 have hlen:its.toArray.size=(ns.map λ n=>n != 0).length:=by
  have:=rv.length;simpa using this.symm
 refine call_any_walk (wpAny_pyIter_tuple hl ?_);refine ⟨s.heap.objs.size,[s.heap.objs.size,p],[s.heap.objs.size],its.toArray.size,_,_,λ i=>((ns.map λ n=>n != 0)[i]?).getD false,rfl,Walks.tuple (A:=X.A.in1) (I.ok.hd hc) _ p (Nat.ne_of_lt hlt) its.toArray,
  ⟨⟨_,zF _ rfl,rfl,rfl⟩,hl.push _⟩,λ i v s' Q' E' hP hQ=>?_,λ h' tk hk=>?_⟩
 ·obtain ⟨n,tk,e,rfl⟩:=j_T rv i v (by simpa using hP);have e2:((ns.map λ n=>n != 0)[i]?).getD false=(n != 0):=by rw [zH,e]; rfl
  have hQ':Q' (((ns.map λ n=>n != 0)[i]?).getD false) s':=hQ;rw [e2] at hQ';exact truthy_int hQ'
 ·rw [hlen,f_R];refine ⟨.bl _,H,I.kept (t':=tk) λ b x e=>hk b x (λ hm=>by rw [List.mem_singleton.mp hm] at e; exact Nat.lt_irrefl _ (zE e)) (zD _ e),rfl,q⟩
end
noncomputable def l_D (K:Frag) (f:Addr):Option (Addr × Addr):=match K.lookup f with
 | some ⟨_,_,.func fd,_⟩=>(match fd.code with
  | .ref c=>(match K.lookup c with
   | some ⟨_,_,.fields vs,_⟩=>(match (vs[11]?:Option Value) with
    | some (.ref P)=>some (c,P)
    | _=>none)
   | _=>none)
  | _=>none)
 | _=>none
noncomputable def tabC (K:Frag) (f:Addr):Addr:=match l_D K f with
 | some q=>q.1
 | none=>0
noncomputable def tabP (K:Frag) (f:Addr):Addr:=match l_D K f with
 | some q=>q.2
 | none=>0
noncomputable def tabOk (K:Frag) (f:Addr):Bool:=(l_D K f).isSome && PySem.W.codeHdIn K (tabC K f) (tabP K f) && (K.lookup (tabP K f)).isNone
theorem o_s {K:Frag} {f:Addr} {oc:Value} {od:Option Addr} {fd:FuncData} {osl:Array (Option Value)} (h:tabOk K f=true) (l:K.lookup f=some ⟨oc,od,.func fd,osl⟩):fd.code=.ref (tabC K f):=by
 unfold tabOk at h;simp only [Bool.and_eq_true] at h;have h1:=h.1.1;unfold tabC;unfold l_D at h1 ⊢;rw [l] at h1 ⊢;dsimp only at h1 ⊢;split at h1
 ·rename_i c hc;rw [hc]
  try dsimp only
  split at h1
  ·rename_i vs _ hv
   try rw [hv]
   try dsimp only
   split at h1
   ·rename_i P hP
    try rw [hP]
    rfl
   ·simp at h1
  ·simp at h1
 ·simp at h1
theorem o_t {K:Frag} {f:Addr} {h:Heap} (e:tabOk K f=true) (X:K.In h):PySem.W.CodeHd h (tabC K f) (tabP K f):=by
 unfold tabOk at e;simp only [Bool.and_eq_true] at e;exact PySem.W.codeHd_of_K X e.1.2
theorem o_u {K:Frag} {f:Addr} (e:tabOk K f=true):K.lookup (tabP K f)=none:=by
 unfold tabOk at e;simp only [Bool.and_eq_true] at e;exact Option.isNone_iff_eq_none.mp e.2
noncomputable def d_V (mg:Str->Option Value) (h:Heap):Prop:=∃ bm ob,mg "__builtins__" = some (.ref bm)/\bm≠builtinsNs/\h.get? bm=some ob/\ob.cls=.type "module" /\ ob.dict=some builtinsNs/\ob.data=.plain
noncomputable def d_K (c:Addr) (qual:Str):HO:=.ext λ h=>h.CodeRec (.ref c) qual
noncomputable def lamO (f c:Addr) (qual:Str) (params:Arguments) (body:Expr) (scope:Scope) (cl:List (Str × Addr)) (pm ctv:Value):HO :=
 .ext λ h=>h.get? f=some (PySem.W.kla_obj "<lambda>" qual params body scope cl pm c ctv)
noncomputable def e_q (H:Hp) (P:Addr) (pos:Pos) (qual:Str):Prop:=H P=some (.tbl #[])\/∃ c,H P=some (.tbl #[rawInt pos.line,rawInt pos.col,.ref c])/\H c=some (d_K c qual)
noncomputable def f_N (P:Addr) (H H':Hp):Prop:=∀ b o,b≠P->H b=some o->H' b=some o
section
variable {X:Cx} {scope:Scope} {x:Str} {fr:List (Str × Nat)}
noncomputable def tLam (P:Addr) (pos:Pos) (qual:Str) (params:Arguments) (body:Expr) (scope:Scope) (cl:List (Str × Addr)):TE:=λ _ H Q=>e_q H P pos qual /\
 ∀ f c pm ctv H',f_N P H H'->H f=none->H' f=some (lamO f c qual params body scope cl pm ctv)->H' c=some (d_K c qual)->H' P=some (.tbl #[rawInt pos.line,rawInt pos.col,.ref c])->Q (.ref f) H'
theorem o_v {P:Program} {w:World} {H:Hp} {h:Heap} {c:Addr} {q:Str} (r:h.CodeRec (.ref c) q):c_v P w H h c (d_K c q):=by
 refine ⟨r,?_,λ h1 h2 r1 k=>?_⟩
 ·obtain ⟨c',o,_,_,e,ho,_⟩:=r;cases e;exact ⟨o,ho⟩
 ·obtain ⟨c',o,vs,t,e,ho,r'⟩:=r1;cases e;exact ⟨c,o,vs,t,rfl,k o ho,r'⟩
theorem i_D {P:Program} {w:World} {H:Hp} {h:Heap} {c:Addr} {q:Str} (r:c_v P w H h c (d_K c q)):h.CodeRec (.ref c) q:=r.1
theorem l_E {P:Program} {w:World} {H:Hp} {h:Heap} {f c:Addr} {qual:Str} {params:Arguments} {body:Expr} {scope:Scope} {cl:List (Str × Addr)} {pm ctv:Value} (r:h.get? f=some (PySem.W.kla_obj "<lambda>" qual params body scope cl pm c ctv)) :
  c_v P w H h f (lamO f c qual params body scope cl pm ctv):=⟨r,⟨_,r⟩,λ _ _ r1 k=>k _ r1⟩
theorem o_w {params:Arguments} {body:Expr} {pos:Pos} {f0:Addr} {qual:Str} (k:e_h X scope x fr) (tb:tabOk X.K f0=true) (hcode:X.env.code=.ref (tabC X.K f0)) (hB:d_V X.mg X.base)
  (hdef:defaultsOf params X.env=([],[]):=by rfl) (hq:X.env.qual ++ "<lambda>" = qual:=by rfl) :
  PE X (.Lambda params body scope pos) (tLam (tabP X.K f0) pos qual params body scope (clOf X.env scope.names [])):=by
 subst hq;rintro pins s σ H Q I ⟨ht,h⟩;have hC:PySem.W.CodeHd X.base (tabC X.K f0) (tabP X.K f0):=o_t tb I.ok.mod.kin;generalize tabC X.K f0=c at *
 generalize tabP X.K f0=P at *;refine PySem.W.kla_eval hdef ?_;have hcl:=f_Q (k.cells I);have hg:s.heap.Ns mainGlobals X.mg:=by
  obtain ⟨o,es,ep,e,r⟩:=I.mod.glob;exact ⟨o,es,ep,I.bk _ _ e,r⟩
 have hC':=hC.keeps I.bk;have free_of:∀ {b:Addr} {o:Obj},X.base.get? b=some o->H b=none:=λ e=>(I.bs _ _ e).2;have tab:∀ {ps:Array Value},H P=some (.tbl ps)->s.heap.get? P=some (PySem.W.tabObj ps):=λ e=>I.hok P _ e;have neP:∀ {ps:Array Value} {b:Addr} {o:Obj},H P=some (.tbl ps)->X.base.get? b=some o->b≠P:=λ e eb z=>by
  have:=free_of eb;rw [z,e] at this; cases this
 have hbm:∀ {ps:Array Value},H P=some (.tbl ps)->s.heap.BuiltinsAt X.mg P:=λ e=>by
  obtain ⟨bm,ob,b1,b2,b3,b4,b5,b6⟩:=hB;refine ⟨bm,ob,b1,b2,λ z=>?_,neP e b3,I.bk _ _ b3,b4,b5,b6⟩;obtain ⟨o,es,ep,e',hd,_⟩:=I.mod.glob;rw [z,e'] at b3; cases b3; rw [hd] at b6; cases b6
 rcases ht with e | ⟨c',e,ec⟩
 ·obtain ⟨om,es,ep,em,_⟩:=I.mod.glob;refine PySem.W.kla_makeFunction (mg:=X.mg) hcl I.ok.glob hg hcode hC' (tab e) trivial rfl (neP e em) (hbm e) λ c' ctv h' tk hx hge hlt hrec htb=>?_;have htb':h'.get? P=some (PySem.W.tabObj #[rawInt pos.line,rawInt pos.col,.ref c']):=by simpa using htb
  have hPs:P < s.heap.objs.size:=zE (tab e);have hle:s.heap.objs.size<=h'.objs.size:=zS hge (Nat.le_of_lt hlt);have ecP:c'≠P:=Nat.ne_of_gt (zI hPs hge);have efP:h'.objs.size≠P:=Nat.ne_of_gt (zI hPs hle);have efc:h'.objs.size≠c':=Nat.ne_of_gt hlt;have hfc:H c'=none:=I.hok.fresh hge;have hff:H h'.objs.size=none:=I.hok.fresh hle;generalize hfo:PySem.W.kla_obj "<lambda>" (X.env.qual ++ "<lambda>") params body scope (clOf X.env scope.names []) ((X.mg "__name__").getD .none) c' ctv=fo;have keep:∀ b o,b≠P->s.heap.get? b=some o->(h'.push fo).get? b=some o:=λ b o hb q=>zD _ (hx b o hb q);have e1:(h'.push fo).get? P=some (PySem.W.tabObj #[rawInt pos.line,rawInt pos.col,.ref c']):=zD _ htb';refine ⟨.ref h'.objs.size,upd (upd (upd H P (.tbl #[rawInt pos.line,rawInt pos.col,.ref c'])) c' (d_K c' (X.env.qual ++ "<lambda>"))) h'.objs.size
   (lamO h'.objs.size c' (X.env.qual ++ "<lambda>") params body scope (clOf X.env scope.names []) ((X.mg "__name__").getD .none) ctv),?_,rfl,h _ c' _ _ _ ?_ hff a_G ?_ ?_⟩
  ·refine I.un (h':=h'.push fo) (t':=tk) ⟨λ b o q n _ _=>keep b o (λ z=>by rw [z,e] at n; cases n) q,λ b o q n _ _=>⟨o.slots,keep b o (λ z=>by rw [z,e] at n; cases n) q⟩,λ b o q n _=>?_,λ b o q _=>?_,λ b xs q=>?_,λ b o u q=>?_,λ b ps q=>?_⟩ λ b o q=>?_
   ·have l:=zE q;rw [a_H (Nat.ne_of_lt (zI l hle)),a_H (Nat.ne_of_lt (zI l hge)),a_H (λ z=>by rw [z,e] at n; cases n)];exact n
   ·by_cases hb:b=P
    ·rw [hb]; exact ⟨_,e1⟩
    ·exact ⟨o,keep b o hb q⟩
   ·rw [a_H (a_J q hff),a_H (a_J q hfc),a_H (λ z=>by rw [z,e] at q; cases q)]; exact q
   ·rw [a_H (a_J q hff),a_H (a_J q hfc),a_H (λ z=>by rw [z,e] at q; cases q)]; exact q
   ·rw [a_H (a_J q hff),a_H (a_J q hfc)]
    by_cases hb:b=P
    ·rw [hb,a_G];rw [hb,e] at q;cases q;exact ⟨#[rawInt pos.line,rawInt pos.col,.ref c'],by simp⟩
    ·rw [a_H hb,q]; exact ⟨#[],by simp⟩
   ·by_cases b1:b=h'.objs.size
    ·subst b1;rw [a_G] at q;cases q;exact l_E (pm:=(X.mg "__name__").getD .none) (ctv:=ctv) (by rw [hfo]; exact zF _ (by rw [← hfo]; rfl))
    ·rw [a_H b1] at q
     by_cases b2:b=c'
     ·subst b2;rw [a_G] at q;cases q;exact o_v (hrec.push _)
     ·rw [a_H b2] at q
      by_cases b3:b=P
      ·subst b3;rw [a_G] at q;cases q;exact e1
      ·rw [a_H b3] at q;refine (I.hok b o q).stay (λ c2 v hc2 q2=>keep c2 v (λ z=>?_) q2) (λ c2 q2=>?_) (λ c2 xs q2=>?_)
       ·rcases hc2 with z2 | z2
        ·exact b3 (z2.symm.trans z)
        ·rw [z,e] at z2; cases z2
       all_goals (rw [a_H (a_J q2 hff),a_H (a_J q2 hfc),a_H (λ z=>by rw [z,e] at q2; cases q2)]; exact q2)
  ·intro b o hb q;rw [a_H (a_J q hff),a_H (a_J q hfc),a_H hb]; exact q
  ·rw [a_H (Ne.symm efc),a_G]
  ·rw [a_H (Ne.symm efP),a_H (Ne.symm ecP),a_G]
 ·have hrec:=i_D (I.hok c' _ ec);refine PySem.W.kla_makeFunctionHit (mg:=X.mg) (cv:=.ref c') hcl I.ok.glob hg hcode hC' (tab e) (by unfold rawInt; exact trivial) (by simp [codeAmong,rawInt]) (hbm e) λ ctv h' tk hk hsz=>?_;have hff:H h'.objs.size=none:=I.hok.fresh hsz;refine ⟨.ref h'.objs.size,upd H h'.objs.size (lamO h'.objs.size c' (X.env.qual ++ "<lambda>") params body scope (clOf X.env scope.names []) ((X.mg "__name__").getD .none) ctv),?_,rfl,h _ c' _ _ _ (λ b o _ q=>?_) hff a_G ?_ ?_⟩
  ·exact I.laid (λ b o q=>zD _ (hk b o q)) hsz (l_E (zF _ rfl))
  ·rw [a_H (a_J q hff)]; exact q
  ·rw [a_H (a_J ec hff)]; exact ec
  ·rw [a_H (a_J e hff)]; exact e
end
noncomputable def j_U (X:Cx) (A:Around) (qual:Str) (scope:Scope) (N:List Str) (f:Addr) (cd:Value) (s:Shared) (H:Hp):Cx :=
 { X with
  A:=A.deeper (PySem.W.envX qual scope s.heap.objs.size f cd (clOf X.env scope.names []))
  N:=N
  s₀:=s
  H₀:=H
  env:=PySem.W.envX qual scope s.heap.objs.size f cd (clOf X.env scope.names [])
  outer:=X.stack
  stack:=PySem.W.envX qual scope s.heap.objs.size f cd (clOf X.env scope.names []) :: X.stack
  ex:=[]
  fn:=λ _=>false
  pn:=[]
  xe:=λ _ _=>False }
section
variable {X:Cx} {scope:Scope} {x:Str} {fr:List (Str × Nat)}
theorem m_L {pins:List (Addr × Obj)} {σ:St} {H:Hp} {s:Shared} {h₁:Heap} {tk:Nat} {A:Around} {qual:Str} {f:Addr} {cd:Value} {v:V} {u:Value} (c:e_h X scope x fr) (I:Inv X pins σ H s)
  (hA:A.handled=X.A.handled) (hF:A.frames=some X.stack) (r:RelV v u)
  (hn:h₁.Ns s.heap.objs.size (λ y=>[(x,u)].lookup y)) (k:∀ b o,s.heap.get? b=some o->h₁.get? b=some o) :
  Inv (j_U X A qual scope (x :: fr.map (·.1)) f cd s H) [] (some v :: c_q fr σ) H { s with heap:=h₁,toks:=tk }:=by
 have I4:Inv X pins σ H { s with heap:=h₁,toks:=tk }:=I.kept k;have noA:∀ b:Addr,b ∉ (j_U X A qual scope (x :: fr.map (·.1)) f cd s H).ex:=λ b z=>yJ (show b∈([]:List Addr) from z) (by simp);have hmem:∀ y,(scope.names.lookup y=some NameKind.cell\/scope.names.lookup y=some NameKind.free)->(y,NameKind.free)∈scope.names:=λ y hy=>by
  rcases hy with hy | hy
  ·exact yJ rfl (c.cell _ (PySem.mem_of_lookup hy))
  ·exact PySem.mem_of_lookup hy
 refine ⟨⟨I.ok.mod,c.kind,rfl,rfl,zL _,λ y z b h1 h2=>?_,λ y hy=>?_,λ y b h0=>(by cases h0),λ hc=>?_,Around.frames_deeper hF,.inr ⟨rfl,rfl⟩,λ b z=>yJ z (noA b),λ b o e=>?_,?_,λ b _ _=>noA b,λ b z=>yJ z (noA b),?_,λ b hb=>?_⟩,
  rfl,I.bare,Un.kept k,⟨_,hn,λ i y v' h1 h2 h3=>?_⟩,λ y b h=>?_,?_,λ y b h=>?_,λ p hp=>yJ (show p∈([]:List (Addr × Obj)) from hp) (by simp),I4.hok,?_⟩
 ·exact I.ok.inj y z b (c.was I h1) (c.was I h2)
 ·exact e_O (.inl (hmem y hy))
 ·have:=I.ok.hd hc;rw [← hA] at this;exact this
 ·exact I.bs b o e
 ·exact zS I.ok.bsz I.sz
 ·exact I.stack
 ·exact I.stkFree b hb
 ·cases i with
  | zero =>
   have h1':some x=some y:=h1;cases h1';have h2':some (some v)=some (some v'):=h2;cases h2';exact ⟨u,r,.inl ⟨c.name,by show [(x,u)].lookup x=some u; simp⟩⟩
  | succ j =>
   have h1':(fr.map (·.1))[j]?=some y:=h1;have h2':(c_q fr σ)[j]?=some (some v'):=h2;rw [zH] at h1';unfold c_q at h2';rw [zH] at h2';cases e:fr[j]? with
   | none=>rw [e] at h1'; cases h1'
   | some p =>
    rw [e] at h1' h2';have e1:p.1=y:=zT h1';have e2:σ.getD p.2 none=some v':=zT h2';obtain ⟨n1,n2⟩:=c.fr p (List.mem_of_getElem? e);have e3:σ[p.2]?=some (some v'):=by
     rw [List.getD_eq_getElem?_getD] at e2;cases q:σ[p.2]? with
     | none=>rw [q] at e2; cases e2
     | some o=>rw [q] at e2; have e2':o=some v':=e2; rw [e2']
    subst e1;have hm:(p.1,NameKind.free)∈scope.names:=PySem.mem_of_lookup n2;have kd:=c.free _ hm rfl;obtain ⟨m',_,hl⟩:=I4.loc;obtain ⟨u',ru,lk⟩:=hl p.2 p.1 v' n1 e3 (.inr kd);refine ⟨u',ru,.inr ⟨.inr n2,?_⟩⟩;rcases lk with ⟨k1,_⟩ | ⟨_,b,q,z⟩
    ·rcases kd with kd | kd <;> (rw [kd] at k1; cases k1)
    ·obtain ⟨b',q'⟩:=e_O (env:=X.env) (l:=scope.names) (cs:=[]) (.inl hm);have e4:=c.was I q';rw [q] at e4;cases e4;exact ⟨b,q',z⟩
 ·exact I4.cell y b (c.was I h)
 ·exact I.hok.fresh (zL _)
 ·exact I4.freeC y b (c.was I h)
 ·show (some v :: c_q fr σ).length=(x :: fr.map (·.1)).length;simp [c_q]
structure o_x (params:Arguments) (scope:Scope) (x:Str):Prop where
 co:scope.isCoroutine=false
 gen:scope.isGenerator=false
 bind:∀ (name qual:Str) (body:Expr) (cl:List (Str × Addr)) (pm cdv ct u:Value),bindArgs (PySem.W.kla_fn name qual params body scope cl pm cdv ct) ⟨[u],[]⟩=pure [(x,u)]
theorem l_F {pins:List (Addr × Obj)} {σ:St} {H:Hp} {s:Shared} {A:Around} {qual:Str} {params:Arguments} {body:Expr} {f c':Addr} {v:V} {u:Value} {te:TE} {Q:VK} {pm ctv:Value} {E:Value->Shared->Prop} (c:e_h X scope x fr) (L:o_x params scope x)
  (I:Inv X pins σ H s) (hA:A.handled=X.A.handled) (hF:A.frames=some X.stack) (hd:A.depth < recursionLimit) (r:RelV v u)
  (ef:H f=some (lamO f c' qual params body scope (clOf X.env scope.names []) pm ctv)) (ec:H c'=some (d_K c' qual))
  (he:∀ (s:Shared) (H:Hp),PE (j_U X A qual scope (x :: fr.map (·.1)) f (.ref c') s H) body te) (h:te (some v :: c_q fr σ) H Q) :
  wpAny (model X.prog X.w) A (call (.ref f) [u]) (EP X pins σ Q) E s:=by
 obtain ⟨lf,_⟩:=(show c_v X.prog X.w H s.heap f (lamO f c' qual params body scope (clOf X.env scope.names []) pm ctv) from I.hok f _ ef);have hrec:=i_D (I.hok c' _ ec);refine wpAny_call ?_;refine PySem.W.kla_callFunE (fd:=PySem.W.kla_fn "<lambda>" qual params body scope (clOf X.env scope.names []) pm (.ref c') ctv) hd lf rfl L.co L.gen rfl hrec ?_;rw [L.bind];refine zB (wpAny_newFunctionEnv c.cell (λ y hy=>?_) (λ h₁ hns hsb=>⟨?_,?_⟩) c.kind)
 ·rw [List.mem_singleton.mp hy]; exact c.name
 ·exact (I.nolimit).fresh _ hsb
 ·have hk₁:∀ b o,s.heap.get? b=some o->h₁.get? b=some o:=λ b o e=>hsb.extBut b o (Nat.ne_of_lt (zE e)) (zD _ e);have J:=m_L (A:=A) (qual:=qual) (f:=f) (cd:=.ref c') (tk:=s.toks+[(x,u)].length) c I hA hF r hns hk₁;refine PySem.W.kla_codeExpr (zC (he s H [] _ _ _ Q J h) (λ v1 s' hq=>?_) λ e s' z=>z.elim);obtain ⟨v2,H2,J2,r2,q2⟩:=hq;exact I.after ⟨v2,H2,J2.os,J2.bare,J2.base,J2.hok,r2,q2⟩
end
theorem k_O {g:Int->Int} {vs:List Value} {ns:List Int} (hi:IntsAre vs ns) {out:List Value} (ko:KskOut false (ns.map g) vs out):∃ ns':List Int,IntsAre out ns'/\ns'.Perm ns/\ns'.Pairwise (λ a b=>g a<=g b):=by
 have hlen:=hi.length;obtain ⟨ps,hp,ho,hs⟩:=ko;have hrel:∀ p,p∈(ns.map g).zip vs->p.1=g (numOf p.2)/\p.2∈vs:=by
  rw [← hi.nums,List.map_map,List.zip_map_left];intro p hp;obtain ⟨⟨u,v⟩,hq,rfl⟩:=List.mem_map.mp hp;have h1:u=v/\u∈vs:=mem_zip_self hq;refine ⟨?_,?_⟩
  ·show g (numOf u)=g (numOf v);rw [h1.1]
  ·show v∈vs;rw [← h1.1];exact h1.2
 have hI:IntsAre (ps.map Prod.snd) ((ps.map Prod.snd).map numOf):=intsAre_map _ λ v hv=>by
  obtain ⟨p,hp',rfl⟩:=List.mem_map.mp hv;exact hi.all _ (hrel p (hp.mem_iff.mp hp')).2
 have hP:((ps.map Prod.snd).map numOf).Perm ns:=by
  have h1:=(hp.map Prod.snd).map numOf;rw [List.map_snd_zip (by rw [yI]; omega),hi.nums] at h1;exact h1
 have hO:((ps.map Prod.snd).map numOf).Pairwise (λ x y=>g x<=g y):=by
  rw [List.pairwise_map,List.pairwise_map];refine hs.imp_of_mem λ {p q} hp' hq' hr=>?_;have hr':p.1<=q.1:=hr;rw [(hrel p (hp.mem_iff.mp hp')).1,(hrel q (hp.mem_iff.mp hq')).1] at hr';exact hr'
 rw [← ho] at hI hP hO;exact ⟨_,hI,hP,hO⟩
section
variable {X:Cx} {pins:List (Addr × Obj)} {σ:St} {H:Hp} {s:Shared} {a:Addr} {A:Around} {E:Value->Shared->Prop} {vs:List Value} {ns:List Int} {g:Int->Int} {f:Value} {n0:Nat} {R:Value->Shared->Prop}
theorem m_M (I:Inv X pins σ H s) (fa:FpOk X pins H a) (ho:s.heap.get? a=some (seqObj "list" vs.toArray n0)) (hi:IntsAre vs ns) (h64:ns.length < 64)
  (key:∀ n∈ns,∀ (t:Tok) (pins':List (Addr × Obj)) (H2:Hp) (s2:Shared),Inv X pins' σ H2 s2->Same H H2->wpAny (model X.prog X.w) A (call f [.int n t]) (EP X pins' σ λ v H3=>v=.int (g n)/\H3=H2) (λ _ _=>False) s2)
  (h:∀ (ns':List Int) H' s',Inv X pins σ H' s'->Same H H'->H' a=some (.lst (ns'.map V.int))->ns'.Perm ns->ns'.Pairwise (λ a b=>g a<=g b)->R .none s') :
  wpAny (model X.prog X.w) A (ksk_tree a f false) (λ fin s'=>∃ v,fin=.done (.ret v)/\R v s') E s:=by
 have hlen:=hi.length;have hvz:vs.length<=sizeLine:=by rw [sizeLine_eq]; omega
 obtain ⟨f0,f1,f2,f3,f4,f5⟩:=fa;unfold ksk_tree;refine zA (listItems_at ho rfl ?_);refine zA (listUpdate_at ho rfl ?_ (by rw [zJ]; exact hvz) (Nat.zero_le _));have s1:=Heap.SameBut.update s.heap a (Obj.mapSeq λ _=>(#[]:Array Value));obtain ⟨e1,ho1⟩:∃ e1,(s.heap.update a (Obj.mapSeq λ _=>(#[]:Array Value))).get? a=some (seqObj "list" #[] e1):=⟨_,get?_update_seq ho λ _=>#[]⟩;have I1:Inv X pins σ H { s with heap:=s.heap.update a (Obj.mapSeq λ _=>(#[]:Array Value)),toks:=s.toks }:=I.turned (λ b o hb q=>(s1.2 b hb).trans q) f0 f1 f3 f4 f5;refine zA (seqEpoch_at ho1 rfl ?_);refine zA (wpAny_newTuple ?_ hvz);have I2:Inv X pins σ H { s with heap:=(s.heap.update a (Obj.mapSeq λ _=>(#[]:Array Value))).push (seqObj "tuple" vs.toArray 0),toks:=s.toks }:=I1.kept λ b o q=>zD _ q;have ho2:((s.heap.update a (Obj.mapSeq λ _=>(#[]:Array Value))).push (seqObj "tuple" vs.toArray 0)).get? a=some (seqObj "list" #[] e1):=zD _ ho1;refine zA (wpAny_newList ?_ (Nat.zero_le _));have I3:=I2.lnew (ys:=[]) (its:=[]) (t':=s.toks) .nil (Nat.zero_le _);have hkn:=I2.fresh;generalize hh2:(s.heap.update a (Obj.mapSeq λ _=>(#[]:Array Value))).push (seqObj "tuple" vs.toArray 0)=h2 at *
 have ho3:(h2.push (seqObj "list" #[] 0)).get? a=some (seqObj "list" #[] e1):=zD _ ho2;have hak:a≠h2.objs.size:=Nat.ne_of_lt (zE ho2);have I4:Inv X (pins++[(a,seqObj "list" #[] e1)]) σ (upd H h2.objs.size (.lst [])) { s with heap:=h2.push (seqObj "list" #[] 0),toks:=s.toks }:=I3.pins_of λ p hp=>by
  rcases List.mem_append.mp hp with hp | hp
  ·exact I3.pin p (zZ _ hp)
  ·rw [List.mem_singleton.mp hp];exact ⟨ho3,by rw [a_H hak]; exact f0,f1,f2,λ v z=>by cases z⟩
 refine wpAny_holding ?_;unfold ksk_rest;refine zA (wpAny_rule ?_);rw [List.forIn_toArray];refine zA (ksk_fold (λ i s'=>∃ H',Inv X (pins++[(a,seqObj "list" #[] e1)]) σ H' s'/\Same H H'/\H' h2.objs.size=some (.lst (((ns.take i).map g).map V.int))) vs 0 _
  ⟨_,I4,Same.new hkn,by rw [a_G]; rfl⟩ ?step ?done)
 case step =>
  rintro j x s' hx ⟨H',J,sm,hk⟩;simp only [Nat.zero_add] at hk ⊢;have hj:j < vs.length:=(List.getElem?_eq_some_iff.mp hx).1;obtain ⟨n,hn⟩:∃ n,ns[j]?=some n:=⟨_,List.getElem?_eq_getElem (by omega)⟩;obtain ⟨t,ht⟩:=hi.get j n hn;rw [ht] at hx;cases hx;refine zA (wpAny_attempt (zC (key n (List.mem_of_getElem? hn) t _ H' s' J sm) (λ v s'' he=>?_) λ _ _ hF=>hF.elim));obtain ⟨v',H3,J3,rv,rfl,rfl⟩:=he;obtain ⟨t2,rfl⟩:=(show ∃ t2,v=Value.int (g n) t2 from rv)
  try dsimp only
  obtain ⟨z3,its,n3,rv3,l3,e3⟩:=J3.lstM hk;have hz3:its.length<=j:=by rw [← l3,yI,yI,List.length_take]; omega
  refine zA (listUpdate_at e3 rfl ?_ (by rw [zJ,sizeLine_eq]; omega) (by rw [Array.size_push,zJ,sizeLine_eq]; omega));refine zB ⟨rfl,_,J3.lset (f:=(·.push (.int (g n) t2))) (its':=its++[.int (g n) t2]) (ys:=((ns.take j).map g).map V.int++[.int (g n)]) hk e3 (by simp) (rv3.append (.cons (show RelV (.int (g n)) (Value.int (g n) t2) from ⟨t2,rfl⟩) .nil)) (by rw [List.length_append,l3,sizeLine_eq]; simp; omega),?_,?_⟩
  ·intro b u q
   by_cases hb:b=h2.objs.size
   ·rw [hb,hkn] at q; cases q
   ·rw [a_H hb]; exact sm b u q
  ·rw [a_G,List.take_add_one,hn]; simp
 case done =>
  rintro s' ⟨H',J,sm,hk⟩;have ht:ns.take (0+vs.length)=ns:=List.take_of_length_le (by omega);rw [ht] at hk;obtain ⟨z3,its,n3,rv3,l3,e3⟩:=J.lstM hk;have hK:IntsAre its (ns.map g):=h_B rv3;have hitl:its.length=vs.length:=by rw [← l3,yI,yI]; omega
  try dsimp only
  refine zA (listItems_at e3 rfl ?_);have pa:s'.heap.get? a=some (seqObj "list" #[] e1)/\H' a=none:=by
   have:=J.pin (a,seqObj "list" #[] e1) (zZ _ (zZ _ (.head _)));exact ⟨this.1,this.2.1⟩
  have tail:∀ st:SortSt,(arrOf st).Perm (its.toArray.zip vs.toArray)->SortedTo (arrOf st) (arrOf st).size->failedOf st=none ->
    wpAny (model X.prog X.w) A (ksk_tail a false e1 (.ref h2.objs.size) st) (λ fin s'=>∃ v,fin=.done (.ret v)/\R v s') E s':=λ st hp hs hf=>by
   have ko:KskOut false (ns.map g) vs ((arrOf st).map (·.2)).toList:=ksk_out (b:=false) hK hp hs;obtain ⟨ns',i',p',o'⟩:=k_O hi ko;have hsz2:((arrOf st).map (·.2)).size=vs.length:=by rw [Array.size_map,hp.size_eq,Array.size_zip,zJ,zJ,hitl,Nat.min_self]
   unfold ksk_tail
   try dsimp only
   refine zA (listUpdate_at e3 rfl ?_ (by rw [zJ,hitl]; exact hvz) (Nat.zero_le _));have J2:=J.lset (f:=λ _=>#[]) (its':=[]) (ys:=[]) (t':=s'.toks) hk e3 rfl .nil (Nat.zero_le _);have sb:=Heap.SameBut.update s'.heap h2.objs.size (Obj.mapSeq λ _=>(#[]:Array Value));have pa2:(s'.heap.update h2.objs.size (Obj.mapSeq λ _=>(#[]:Array Value))).get? a=some (seqObj "list" #[] e1):=(sb.2 a hak).trans pa.1;generalize s'.heap.update h2.objs.size (Obj.mapSeq λ _=>(#[]:Array Value))=h5 at *
   have J3:Inv X pins σ (upd H' h2.objs.size (.lst [])) { s' with heap:=h5,toks:=s'.toks }:=J2.pins_of λ p hp=>J2.pin p (zZ _ (List.mem_append_left _ hp));have hna:upd H' h2.objs.size (.lst []) a=none:=by rw [a_H hak]; exact pa.2
   have sm2:Same H (upd H' h2.objs.size (.lst [])):=λ b u q=>by
    by_cases hb:b=h2.objs.size
    ·rw [hb,hkn] at q; cases q
    ·rw [a_H hb]; exact sm b u q
   generalize upd H' h2.objs.size (.lst [])=H5 at *;refine zA (wpAny_letGo ?_);refine zA (seqEpoch_at pa2 rfl ?_);refine zA (listUpdate_at pa2 rfl ?_ (Nat.zero_le _) (by simp only [Bool.false_eq_true,if_false]; rw [hsz2]; exact Nat.le_succ_of_le hvz));rw [hf];simp only [bne_self_eq_false,Bool.false_eq_true,if_false];have sb2:=Heap.SameBut.update h5 a (Obj.mapSeq λ _=>(arrOf st).map (·.2));obtain ⟨c2,hc2⟩:∃ c2,(h5.update a (Obj.mapSeq λ _=>(arrOf st).map (·.2))).get? a=some (seqObj "list" ((arrOf st).map (·.2)) c2):=⟨_,get?_update_seq pa2 λ _=>(arrOf st).map (·.2)⟩;refine zB ⟨_,rfl,h ns' (upd H5 a (.lst (ns'.map V.int))) _ ?_ ?_ a_G p' o'⟩
   ·have nit:∀ b u,H5 b=some u->b≠a:=λ b u e z=>by rw [z,hna] at e; cases e
    refine Inv.step (s:={ s' with heap:=h5,toks:=s'.toks }) (h':=h5.update a (Obj.mapSeq λ _=>(arrOf st).map (·.2))) (H':=upd H5 a (.lst (ns'.map V.int))) (I:=J3) (g':=s'.gens) (d':=s'.drawn) (t':=s'.toks) (ch:=[a]) (λ b hb=>?_) (λ b o _ _ hc e _=>(sb2.2 b (λ z=>hc (by simp [z]))).trans e) (λ b o _ _ hc e _=>⟨o.slots,(sb2.2 b (λ z=>hc (by simp [z]))).trans e⟩)
     (λ b o hc e q=>by rw [a_H (λ z=>hc (by simp [z]))]; exact q) (λ b o hc e=>⟨o,(sb2.2 b (λ z=>hc (by simp [z]))).trans e⟩) (λ b xs e=>by rw [a_H (nit _ _ e)]; exact e) (λ b o u e=>by rw [a_H (nit _ _ e)]; exact e)
     (λ b ps e=>⟨#[],by rw [a_H (nit _ _ e),e]; simp⟩) (λ m hm=>?_) (λ b u e=>?_) J3.bare
    ·have e:b=a:=by simpa using hb
     subst e;exact ⟨f3,f1,f4,f5⟩
    ·obtain ⟨o,es,ep,ho,r⟩:=hm;exact ⟨o,es,ep,(sb2.2 _ (Ne.symm f1)).trans ho,r⟩
    ·by_cases hb:b=a
     ·subst hb;rw [a_G] at e;cases e;refine ⟨?_,((arrOf st).map (·.2)).toList,c2,f_A i',by rw [hc2]⟩;rw [yI,p'.length_eq,sizeLine_eq]; omega
     ·rw [a_H hb] at e;refine (J3.hok b u e).stay (λ c v hc q=>(sb2.2 c ?_).trans q) (λ c q=>by rw [a_H (nit _ _ q)]; exact q) λ c xs q=>by rw [a_H (nit _ _ q)]; exact q
      rcases hc with z | z
      ·rw [z]; exact hb
      ·exact nit c _ z
   ·intro b u q;rw [a_H (λ z=>by rw [z,f0] at q; cases q)];exact sm2 b u q
  have hzs:(its.toArray.zip vs.toArray).size=vs.length:=by rw [Array.size_zip,zJ,zJ,hitl,Nat.min_self]
  unfold ksk_end;simp only [Bool.false_eq_true,if_false]
  by_cases h2':vs.toArray.size < 2
  ·rw [if_pos h2',if_pos h2'];refine zA (zB ?_);rw [StateT.run_pure];refine zA (zB ?_)
   try dsimp only
   refine tail _ (Array.Perm.refl _) ?_ rfl;intro i j hij hj;have hj2:j < (its.toArray.zip vs.toArray).size:=hj;rw [hzs] at hj2;rw [zJ] at h2';have:i=j:=by omega
   subst this;exact Int.le_refl _
  ·rw [if_neg h2',if_neg h2'];rw [zJ] at h2';rw [ksk_kind (keys:=its.toArray) (by simpa using hK) (by rw [zJ]; omega)];refine zA (zB ?_);refine zA (zC (wpS_sortRuns (a₀:=its.toArray.zip vs.toArray) (st:=SortSt.mk' oneType' (its.toArray.zip vs.toArray) #[] 7 none)
    (Q:=λ _ st'=>(arrOf st').Perm (its.toArray.zip vs.toArray)/\failedOf st'=none/\SortedTo (arrOf st') (its.toArray.zip vs.toArray).size)
    (ksk_intKeys (by simpa using hK)) ⟨Array.Perm.refl _,rfl,rfl,rfl⟩ (by rw [hzs]; omega) (by rw [hzs]; omega) λ st' a1 a2 a3=>⟨a1,a2,a3⟩) ?_ λ _ _ e=>e)
   rintro ⟨⟨⟩,st'⟩ s'' ⟨rfl,hp,hf,hs⟩
   try dsimp only
   exact tail st' hp (by rw [hp.size_eq]; exact hs) hf
theorem m_N {l:Addr} {fv:Addr} {Q:VK} (I:Inv X pins σ H s) (hl:SqL X.K H l (ns.map V.int)) (h64:ns.length < 64)
  (key:∀ n∈ns,∀ (t:Tok) (pins':List (Addr × Obj)) (H2:Hp) (s2:Shared),Inv X pins' σ H2 s2->Same H H2->wpAny (model X.prog X.w) X.A.in1.in1 (call (.ref fv) [.int n t]) (EP X pins' σ λ v H3=>v=.int (g n)/\H3=H2) (λ _ _=>False) s2)
  (h:∀ q (ns':List Int) H',Same H H'->H q=none->H' q=some (.lst (ns'.map V.int))->ns'.Perm ns->ns'.Pairwise (λ a b=>g a<=g b)->Q (.ref q) H') :
  wpAny (model X.prog X.w) X.A (call (.builtin "sorted") [.ref l] [(Str.ofString "key",.ref fv)]) (EP X pins σ Q) X.xe s:=by
 obtain ⟨its,rv,⟨o,n0,e,c,_,dd⟩,_⟩:=I.list hl;have hi:=h_B rv;have hlen:=hi.length;have hL:s.heap.IsList l its.toArray:=⟨o,e,c,n0,dd⟩;refine call_function_entry_kw kind_sorted plain_sorted entry_sorted (ksk_s1 _ _) ?_;unfold Builtin.«sorted»;refine zA (m:=checkCount "sorted" 1 1 _) (zB ?_);refine zA (collect_list hL ?_ (by rw [sizeLine_eq]; omega));refine zA (wpAny_newList ?_ (by rw [sizeLine_eq]; omega));have hsz:((s.heap.push (seqObj "list" #[] 0)).update s.heap.objs.size (Obj.mapSeq (·++its.toArray))).objs.size=s.heap.objs.size+1:=by
  rw [Heap.size_update,size_push']
 have hoL:(((s.heap.push (seqObj "list" #[] 0)).update s.heap.objs.size (Obj.mapSeq (·++its.toArray))).push (seqObj "list" its.toArray 0)).get? (s.heap.objs.size+1)=some (seqObj "list" its.toArray 0):=by
  rw [← hsz]; exact zF _ rfl
 have keep:∀ b o,s.heap.get? b=some o->(((s.heap.push (seqObj "list" #[] 0)).update s.heap.objs.size (Obj.mapSeq (·++its.toArray))).push (seqObj "list" its.toArray 0)).get? b=some o:=λ b o q=>by
  have hlt:b < s.heap.objs.size:=zE q;rw [Heap.get?_push_ne _ _ _ (by rw [hsz]; exact Nat.ne_of_lt (Nat.lt_succ_of_lt hlt)),Heap.get?_update_ne _ _ _ _ (Nat.ne_of_lt hlt),Heap.get?_push_ne _ _ _ (Nat.ne_of_lt hlt)];exact q
 show wpAny _ _ _ _ _ { s with heap:=((s.heap.push (seqObj "list" #[] 0)).update s.heap.objs.size (Obj.mapSeq (·++its.toArray))).push (seqObj "list" its.toArray 0) };rw [hsz];have I2:Inv X pins σ H { s with heap:=((s.heap.push (seqObj "list" #[] 0)).update s.heap.objs.size (Obj.mapSeq (·++its.toArray))).push (seqObj "list" its.toArray 0),toks:=s.toks }:=I.kept keep;have hfa:H (s.heap.objs.size+1)=none:=I.hok.fresh (Nat.le_succ _);refine zA (wpAny_holding (wpAny_call_entry_kw slot_list_sort ⟨_,hoL,rfl⟩ entry_list_sort ?body (ksk_l1 _ _)));show wpAny (model X.prog X.w) X.A.in1.in1 (Builtin.«list.sort» ⟨[.ref (s.heap.objs.size+1)],[(Str.ofString "key",.ref fv)]⟩) _ _ _;rw [ksk_t1];refine m_M I2 (I.fpOk (Nat.le_succ _) hfa) hoL hi h64 key λ ns' H' s' J sm e p o=>?_;exact zB ⟨_,rfl,.ref (s.heap.objs.size+1),H',J,rfl,h _ ns' H' sm hfa e p o⟩
end
noncomputable def o_y (K:Frag) (P:Addr) (pos:Pos) (qual:Str) (te:TE) (fr:List (Str × Nat)) (σ:St) (Q:VK) (x:V) (H1:Hp):Prop:=e_q H1 P pos qual/\∃ (p:Addr) (ns:List Int) (g:Int->Int),x=.ref p/\SqL K H1 p (ns.map V.int)/\ns.length < 64 /\
 (∀ n∈ns,∀ H2,f_N P H1 H2->∀ Q':VK,Q' (.int (g n)) H2->te (some (.int n) :: c_q fr σ) H2 Q') /\
 ∀ q (ns':List Int) H2,f_N P H1 H2->e_q H2 P pos qual->H1 q=none->H2 q=some (.lst (ns'.map V.int))->ns'.Perm ns->ns'.Pairwise (λ a b=>g a<=g b)->Q (.ref q) H2
noncomputable def r_M (K:Frag) (P:Addr) (pos:Pos) (qual:Str) (ta te:TE) (fr:List (Str × Nat)):TE:=λ σ H Q=>ta σ H (o_y K P pos qual te fr σ Q)
noncomputable def oneV (R:V->Hp->Prop) (vs:List V) (H:Hp):Prop:=match vs with
 | [v]=>R v H
 | _=>False
theorem f_N.seq {K:Frag} {P p:Addr} {H H':Hp} {ps:Array Value} {xs:List V} (s:f_N P H H') (e:H P=some (.tbl ps)) (h:SqL K H p xs):SqL K H' p xs:=by
 rcases h with (h | ⟨o,h⟩) | h
 ·exact .inl (.inl (s _ _ (λ z=>by rw [z,e] at h; cases h) h))
 ·exact .inl (.inr ⟨o,s _ _ (λ z=>by rw [z,e] at h; cases h) h⟩)
 ·exact .inr h
theorem e_q.tbl {H:Hp} {P:Addr} {pos:Pos} {q:Str} (h:e_q H P pos q):∃ ps,H P=some (.tbl ps):=by
 rcases h with h | ⟨c,h,_⟩
 ·exact ⟨_,h⟩
 ·exact ⟨_,h⟩
section
variable {X:Cx} {scope:Scope} {x:Str} {fr:List (Str × Nat)}
theorem o_z {params:Arguments} {a body:Expr} {lpos kpos pos p:Pos} {f0:Addr} {qual:Str} {ta te:TE} (k:e_h X scope x fr) (L:o_x params scope x) (tb:tabOk X.K f0=true) (hcode:X.env.code=.ref (tabC X.K f0)) (hB:d_V X.mg X.base)
  (hd:X.A.depth < recursionLimit) (hg:Gl X "sorted") (hm:X.mg "sorted" = none) (ha:PE X a ta)
  (he:∀ (f c:Addr) (s:Shared) (H:Hp),PE (j_U X X.A.in1.in1 qual scope (x :: fr.map (·.1)) f (.ref c) s H) body te)
  (hs:starEach [a] X.env=(false,eval a X.env) :: starEach [] X.env:=by rfl) (hpl:(backTo pos (starEach [a] X.env)).any (·.1)=false:=by rfl)
  (hdef:defaultsOf params X.env=([],[]):=by rfl) (hq:X.env.qual ++ "<lambda>" = qual:=by rfl) :
  PE X (.Call (.Name "sorted" p) [a] [⟨some "key",.Lambda params body scope lpos,kpos⟩] pos) (r_M X.K (tabP X.K f0) lpos qual ta te fr):=by
 intro pins s σ H Q I h;refine wpAny_Call_Name_kw (e_e I hg hm (u:=.builtin "sorted") (by decide +kernel) ?_ (by decide) (by decide));have hP:=a_A ha (a_B (X:=X)) hs;refine callWith_kw (thn (hP pos pins s σ H (oneV (o_y X.K (tabP X.K f0) lpos qual te fr σ Q)) I h) λ us s1 h1=>?_) (by rw [hs]; rfl) hpl rfl rfl;obtain ⟨vs,H1,I1,r1,q1⟩:=h1
 match vs,r1,q1 with
 | [v],r1,q1 =>
  obtain ⟨u,rfl,ru⟩:=d_Y r1;obtain ⟨ht,l,ns,g,rfl,hl,h64,hkey,hend⟩:=(show o_y X.K (tabP X.K f0) lpos qual te fr σ Q v H1 from q1);cases (show u=Value.ref l from ru);have hK:=p_S (nm:=some "key") (kpos:=kpos) (o_w (params:=params) (body:=body) (pos:=lpos) k tb hcode hB hdef hq) (r_C (X:=X));obtain ⟨ps,et⟩:=ht.tbl;refine thn (hK pos pins s1 σ H1 (oneV λ v H2=>∃ f c pm ctv,v=.ref f/\f_N (tabP X.K f0) H1 H2/\H2 f=some (lamO f c qual params body scope (clOf X.env scope.names []) pm ctv)/\H2 c=some (d_K c qual)/\e_q H2 (tabP X.K f0) lpos qual) I1
   ⟨ht,λ f c pm ctv H2 sp _ e1 e2 e3=>⟨f,c,pm,ctv,rfl,sp,e1,e2,.inr ⟨c,e3,e2⟩⟩⟩) λ ws s2 h2=>?_
  obtain ⟨zs,H2,I2,r2,q2⟩:=h2
  match zs,r2,q2 with
  | [z],r2,q2 =>
   obtain ⟨u2,rfl,ru2⟩:=d_Y r2;obtain ⟨f,c,pm,ctv,rfl,sp,e1,e2,ht2⟩:=(show ∃ f c pm ctv,z=.ref f/\f_N (tabP X.K f0) H1 H2/\H2 f=some (lamO f c qual params body scope (clOf X.env scope.names []) pm ctv)/\H2 c=some (d_K c qual)/\e_q H2 (tabP X.K f0) lpos qual from q2);cases (show u2=Value.ref f from ru2);refine m_N (g:=g) I2 (sp.seq et hl) h64 (λ n hn t pins' H3 s3 J sm=>?_) λ q ns' H3 sm hq0 e p o=>?_
   ·refine l_F (A:=X.A.in1.in1) k L J rfl J.ok.frames hd (show RelV (.int n) (Value.int n t) from ⟨t,rfl⟩) (sm _ _ e1) (sm _ _ e2) (λ s H=>he f c s H) (hkey n hn H3 (λ b o hb q=>sm _ _ (sp b o hb q)) _ ⟨rfl,rfl⟩)
   ·refine hend q ns' H3 (λ b o hb q=>sm _ _ (sp b o hb q)) ?_ ?_ e p o
    ·rcases ht2 with z | ⟨c2,z,z2⟩
     ·exact .inl (sm _ _ z)
     ·exact .inr ⟨c2,sm _ _ z,sm _ _ z2⟩
    ·cases w:H1 q with
     | none=>rfl
     | some o =>
      by_cases hb:q=tabP X.K f0
      ·obtain ⟨ps2,et2⟩:=ht2.tbl;rw [hb,et2] at hq0; cases hq0
      ·rw [sp q o hb w] at hq0; cases hq0
noncomputable def o_A (qual:Str) (params:Arguments) (body:Expr) (scope:Scope) (i:Nat) (ta te:TE):TE:=λ σ H Q=>∃ f c pm ctv,σ[i]?=some (some (.ref f)) /\
 ta σ H λ v H1=>H1 f=some (lamO f c qual params body scope [] pm ctv)/\H1 c=some (d_K c qual)/\te [some v] H1 Q
theorem o_B {params:Arguments} {a body:Expr} {pos p:Pos} {i:Nat} {y qual:Str} {ta te:TE} (k:e_h X scope x []) (hcl:clOf X.env scope.names []=[]) (L:o_x params scope x) (hd:X.A.depth < recursionLimit)
  (hN:X.N[i]?=some y) (hv:Vis X.env.scope y) (ha:PE X a ta)
  (he:∀ (f c:Addr) (s:Shared) (H:Hp),PE (j_U X X.A qual scope [x] f (.ref c) s H) body te)
  (hdb:(y == ("__debug__" : Str))=false:=by decide) (hcd:(y == ("__classdict__" : Str))=false:=by decide)
  (hs:starEach [a] X.env=(false,eval a X.env) :: starEach [] X.env:=by rfl) :
  PE X (.Call (.Name y p) [a] [] pos) (o_A qual params body scope i ta te):=by
 rintro pins s σ H Q I ⟨f,c,pm,ctv,ev,h⟩;have hP:=a_A ha (a_B (X:=X)) hs;have hV:PE X (.Name y p) (tVar i):=k_s hN hv hdb hcd;refine wpAny_Call_Name_kw (thn (hV pins s σ H (λ v H1=>v=.ref f/\H1=H) I ⟨_,ev,rfl,rfl⟩) λ u s0 h0=>?_);obtain ⟨v0,H0,I0,r0,rfl,rfl⟩:=h0;cases (show u=Value.ref f from r0);refine callWith_def (o:=PySem.W.kla_obj "<lambda>" qual params body scope [] pm c ctv) rfl (thn (hP pos pins s0 σ H0 (oneV λ v H1=>H1 f=some (lamO f c qual params body scope [] pm ctv)/\H1 c=some (d_K c qual)/\te [some v] H1 Q) I0 h) λ us s1 h1=>?_) hs;obtain ⟨vs,H1,I1,r1,q1⟩:=h1
 match vs,r1,q1 with
 | [v],r1,q1 =>
  obtain ⟨u,rfl,ru⟩:=d_Y r1;obtain ⟨ef1,ec1,q⟩:=(show H1 f=some (lamO f c qual params body scope [] pm ctv)/\H1 c=some (d_K c qual)/\te [some v] H1 Q from q1);obtain ⟨lf,_⟩:=(show c_v X.prog X.w H1 s1.heap f (lamO f c qual params body scope [] pm ctv) from I1.hok f _ ef1);exact ⟨lf,l_F (A:=X.A) (fr:=[]) k L I1 rfl I1.ok.frames hd ru (by rw [hcl]; exact ef1) ec1 (λ s H=>he f c s H) q⟩
end
section
variable {P:Program} {w:World} {K:Frag} {mg:Str->Option Value} {base:Heap}
theorem Fun.okL {x qual:Str} {st:Stmt} {f:Addr} {fd:FuncData} {N ps:List Str} {k:Nat} {sp:Sp} (F:Fun K x qual st f fd) (tb:tabOk K f=true) (S:a_K N ps (a_D st)) (len:∀ vs H Q E,sp vs H Q E->vs.length=ps.length)
  (hbody:∀ (A:Around) (outer:List Env) (s:Shared) (H:Hp) (vs:List V) (Q:VK) (E:XK),Room k (A.deeper (envOfC qual (a_D st) s.heap.objs.size f (.ref (tabC K f))))->sp vs H Q E ->
   ∃ t,PSs (cxOf CX0 P w K mg base N qual (a_D st) f (.ref (tabC K f)) A outer s H E).nox (b_L st) t/\t { nx:=λ _ H'=>Q .non H',rt:=Q } (start N vs) H):FnOk P w K mg base CX0 (k+1) f fd ps sp:=by
 obtain ⟨oc,od,kV,doc,pm,an,cdv,ct,osl,rfl,lk,hcd⟩:=F.ex;have hc:cdv=.ref (tabC K f):=o_s tb lk;subst hc;refine n_R lk hcd S len λ A outer s H vs Q E hr hsp=>?_;obtain ⟨t,h,q⟩:=hbody A outer s H vs Q E hr hsp;exact ⟨t,h.nox,q⟩
end
theorem m_O {P:Program} {w:World} {K:Frag} {mg mb:Str->Option Value} {CX:CXT} {k:Nat} {fa a:Addr} {fd:FuncData} {x:Str} {sp:Sp} {s₁:Shared} {vs:List Value} {ns:List Int} {fl:List Addr}
  (KX:K.In s₁.heap) (hns:s₁.heap.Ns mainGlobals mg) (hb:s₁.heap.Ns builtinsNs mb) (hbb:∀ x:Str,x ≠ "__name__" -> mb x=bootBuiltins x) (hlim:s₁.heap.NoLimit) (hg:s₁.gens=#[]) (hBM:d_V mg s₁.heap)
  (hT:∀ f∈fl,tabOk K f=true/\s₁.heap.get? (tabP K f)=some (PySem.W.tabObj #[]))
  (ha:s₁.heap.get? a=some { cls:=.type "list",data:=.seq vs.toArray }) (hi:IntsAre vs ns) (hl:ns.length<=sizeLine) (hr:Room k callerA)
  (F:∀ base:Heap,K.In base->base.Ns mainGlobals mg->d_V mg base->FnOk P w K mg base CX k fa fd [x] sp) (hbind:∀ (s:Shared) (u:Value),BindsTo s fd ⟨[u],[]⟩ [(x,u)])
  (hsp:∀ H:Hp,SqL K H a (ns.map V.int)->(∀ f∈fl,H (tabP K f)=some (.tbl #[]))->sp [.ref a] H (λ v _=>v=.bl true) λ _ _ _=>False)
  (hCX:∀ H e s',CX [] H s₁ (λ _ _ _=>False) e s'->False) :
  codeAny (model P w) callerA (.call (.ref fa) ⟨[.ref a],[]⟩) (λ r s'=>r=.ok (.ret (.bool true))/\OldK s₁.heap s'.heap/\s'.os=s₁.os/\AllBare s'.gens) s₁:=by
 have rv:=f_A hi;have lenV:=hi.length;have tabAt:∀ b∈fl.map (tabP K),s₁.heap.get? b=some (PySem.W.tabObj #[])/\K.lookup b=none/\isCodeTable s₁.heap b:=λ b hb=>by
  obtain ⟨f,hf,rfl⟩:=List.mem_map.mp hb;obtain ⟨t1,t2⟩:=hT f hf;exact ⟨t2,o_u t1,((o_t t1 KX).tab t2).isCodeTable⟩
 have core:∀ H:Hp,(∀ b,H b=none\/(∃ o xs,H b=some (.frz o (.lst xs)))\/(b∈fl.map (tabP K)/\H b=some (.tbl #[])))->(∀ f∈fl,H (tabP K f)=some (.tbl #[]))->SqL K H a (ns.map V.int)->HOk P w H s₁.heap ->
   (∀ b,H b≠none->b=a\/b∈fl.map (tabP K))->(H a≠none->K.lookup a=none) ->
   codeAny (model P w) callerA (.call (.ref fa) ⟨[.ref a],[]⟩) (λ r s'=>r=.ok (.ret (.bool true))/\OldK s₁.heap s'.heap/\s'.os=s₁.os/\AllBare s'.gens) s₁:=by
  intro H hO hTb hS hok hA hK;have base_of:∀ {b:Addr} {o:Obj},s₁.heap.get? b=some o->H b=none->(hidT s₁.heap H).get? b=some o:=λ e n=>j_D e n;have noA:∀ {b:Addr} {o:Obj},s₁.heap.get? b=some o->(∀ xs n,o.data≠.seq xs n)->(∀ xs,o.data≠.fields xs)->H b=none:=λ {b o} e d1 d2=>by
   cases q:H b with
   | none=>rfl
   | some u =>
    rcases hA b (by rw [q]; simp) with e' | e'
    ·subst e';rw [ha] at e; cases e;exact yJ rfl (d1 _ _)
    ·rw [(tabAt b e').1] at e; cases e;exact yJ rfl (d2 _)
  have nsK:∀ {b:Addr} {m:Str->Option Value},s₁.heap.Ns b m->(hidT s₁.heap H).Ns b m:=λ {b m} ⟨o,es,ep,e,d,r⟩=>⟨o,es,ep,base_of e (noA e (λ _ _ z=>by rw [d] at z; cases z) λ _ z=>by rw [d] at z; cases z),d,r⟩;have hKb:K.In (hidT s₁.heap H):=λ b o e=>base_of (KX b o e) (by
   cases q:H b with
   | none=>rfl
   | some u =>
    rcases hA b (by rw [q]; simp) with e' | e'
    ·subst e';rw [hK (by rw [q]; simp)] at e; cases e
    ·rw [(tabAt b e').2.1] at e; cases e)
  have hM:Mod K mg (hidT s₁.heap H):=⟨hKb,nsK hns,⟨mb,nsK hb,hbb⟩,let ⟨mc,h1,h2⟩:=hlim; ⟨mc,nsK h1,h2⟩⟩;have hB':d_V mg (hidT s₁.heap H):=by
   obtain ⟨bm,ob,b1,b2,b3,b4,b5,b6⟩:=hBM;exact ⟨bm,ob,b1,b2,base_of b3 (noA b3 (λ _ _ z=>by rw [b6] at z; cases z) λ _ z=>by rw [b6] at z; cases z),b4,b5,b6⟩
  have e0:Env0 P w K mg (hidT s₁.heap H) callerA [] s₁ H:=⟨rfl,hM,λ b o e=>l_j e,Nat.le_of_eq (i_m _ _),trivial,λ b hb=>yJ (show b∈([]:List Addr) from hb) (by simp),hok,.of_eq hg⟩;refine codeAny_mono ((F _ hKb (nsK hns) hB').run callerA [] s₁ H ⟨[.ref a],[]⟩ [.ref a] [.ref a] _ _ hr e0 (hbind s₁ (.ref a)) (.cons rfl .nil) (hsp H hS hTb)) λ r s' h=>?_;cases r with
  | error e=>exact (hCX H e s' h).elim
  | ok fl' =>
   cases fl' with
   | next=>exact False.elim h
   | brk=>exact False.elim h
   | cont=>exact False.elim h
   | ret u =>
    obtain ⟨v,H',os,bare,un,hok',r',q⟩:=h;have q':v=.bl true:=q;subst q';obtain rfl:u=Value.bool true:=r';have all:∀ b o,s₁.heap.get? b=some o->s'.heap.get? b=some o\/(isCodeTable s₁.heap b/\o=PySem.W.tabObj #[]/\∃ ps,s'.heap.get? b=some (PySem.W.tabObj ps)):=λ b o e=>by
     cases q:H b with
     | none=>exact .inl (un.keep b o e q (by intro z; exact yJ (show b∈([]:List Addr) from z) (by simp)) (by simp))
     | some u =>
      rcases hO b with z | ⟨ob,xs,z⟩ | ⟨z1,z⟩
      ·rw [q] at z; cases z
      ·have z2:=un.frzs b ob _ z;obtain ⟨e1,_⟩:=hok b _ z;obtain ⟨e2,_⟩:=hok' b _ z2;rw [e] at e1; cases e1;exact .inl e2
      ·obtain ⟨more,z2⟩:=un.tbls b _ z;have e1:=(tabAt b z1).1;rw [e] at e1;exact .inr ⟨(tabAt b z1).2.2,zT e1,_,hok' b _ z2⟩
    refine ⟨rfl,⟨λ b o e=>?_,λ b o e=>?_⟩,os,bare⟩
    ·rcases all b o e with z | ⟨z1,rfl,ps,z3⟩
     ·exact .inl z
     ·exact .inr (.inl ⟨z1,rfl,#[],ps,rfl,by rw [Array.empty_append]; exact z3⟩)
    ·rcases all b o e with z | ⟨_,_,ps,z3⟩
     ·exact ⟨o,z⟩
     ·exact ⟨_,z3⟩
 have naT:a ∉ fl.map (tabP K):=λ z=>by
  have:=(tabAt a z).1;rw [ha] at this; cases this
 cases hk:K.lookup a with
 | some o =>
  have e:=KX a o hk;rw [ha] at e;cases e;refine core (λ b=>if b∈fl.map (tabP K) then some (.tbl #[]) else none) (λ b=>?_) (λ f hf=>if_pos (List.mem_map_of_mem hf)) (.inr ⟨_,vs.toArray,_,hk,rfl,rfl,rfl,by rw [zJ,lenV]; exact hl,by simpa using rv⟩) (λ b u z=>?_) (λ b z=>?_) λ z=>yJ (if_neg naT) z
  ·by_cases hb:b∈fl.map (tabP K)
   ·exact .inr (.inr ⟨hb,if_pos hb⟩)
   ·exact .inl (if_neg hb)
  ·by_cases hb:b∈fl.map (tabP K)
   ·cases (if_pos hb).symm.trans z;exact (tabAt b hb).1
   ·cases (if_neg hb).symm.trans z
  ·by_cases hb:b∈fl.map (tabP K)
   ·exact .inr hb
   ·exact yJ (if_neg hb) z
 | none =>
  refine core (λ b=>if b∈fl.map (tabP K) then some (.tbl #[]) else if b=a then some (.frz { cls:=.type "list",data:=.seq vs.toArray } (.lst (ns.map V.int))) else none) (λ b=>?_) (λ f hf=>if_pos (List.mem_map_of_mem hf))
   (.inl (.inr ⟨{ cls:=.type "list",data:=.seq vs.toArray },by dsimp only; rw [if_neg naT,if_pos rfl]⟩)) (λ b u z=>?_) (λ b z=>?_) λ _=>hk
  ·by_cases hb:b∈fl.map (tabP K)
   ·exact .inr (.inr ⟨hb,if_pos hb⟩)
   ·by_cases hb2:b=a
    ·exact .inr (.inl ⟨_,_,by rw [if_neg hb,if_pos hb2]⟩)
    ·exact .inl (by rw [if_neg hb,if_neg hb2])
  ·by_cases hb:b∈fl.map (tabP K)
   ·cases (if_pos hb).symm.trans z;exact (tabAt b hb).1
   ·by_cases hb2:b=a
    ·dsimp only at z;rw [if_neg hb,if_pos hb2] at z;cases z;subst hb2;exact ⟨ha,by rw [yI]; exact hl,vs,_,rv,ha⟩
    ·dsimp only at z;rw [if_neg hb,if_neg hb2] at z; cases z
  ·by_cases hb:b∈fl.map (tabP K)
   ·exact .inr hb
   ·by_cases hb2:b=a
    ·exact .inl hb2
    ·exact yJ (by rw [if_neg hb,if_neg hb2]) z
noncomputable def k_P (K:Frag) (fl:List Addr):Sp:=λ vs H Q _=>∃ (a:Addr) (ns:List Int),vs=[.ref a]/\SqL K H a (ns.map V.int)/\ns.length<=63/\(∀ m∈ns,Builtin.Int.intBits m<=1048576)/\(∀ f∈fl,H (tabP K f)=some (.tbl #[]))/\∀ H',Q (.bl true) H'
theorem walkT {l:PySem.W.OpenLaw} {k:Nat} {q:Program} {loose:List Str} {XP:(Str->Option Value)->Heap->Prop} {YP:World->Heap->Prop} {d:DefRec} {K:Params->Frag} {x:Str} {ts:List Addr}
  (hn:l.most=some 63) (hdf:d.params.defaults=[]) (hr:Room k callerA) (hY:∀ (w:World) (h:Heap),YP w h->(K w.params).In h/\∀ P∈ts,h.get? P=some (PySem.W.tabObj #[]))
  (F:∀ (w:World) (mg:Str->Option Value) (fa:Addr) (h:Heap),(K w.params).In h->h.Ns mainGlobals mg->mg d.name=some (.ref fa) ->
   ∃ (fd:FuncData) (fl:List Addr),(∀ f∈fl,tabOk (K w.params) f=true/\tabP (K w.params) f∈ts)/\(∀ (s:Shared) (u:Value),BindsTo s fd ⟨[u],[]⟩ [(x,u)]) /\
    ∀ base:Heap,(K w.params).In base->base.Ns mainGlobals mg->d_V mg base->FnOk l.prog w (K w.params) mg base CX0 k fa fd [x] (k_P (K w.params) fl)) :
  PySem.W.WalkO q loose XP YP l.row.toRowW d [] (λ f vs=>PySem.call f vs):=by
 refine Att.attach_callB hn hdf λ w s₀ s₁ mg mb fa a vs ns G Y hmg hobj hints hlen hb hg=>?_;obtain ⟨KX,hT⟩:=hY w _ Y;obtain ⟨fd,fl,hfl,hbn,hF⟩:=F w mg fa _ KX G.T.g hmg;exact m_O (fl:=fl) KX G.T.g G.T.b G.T.builtins G.T.nolimit hg G.T.bmain (λ f hf=>⟨(hfl f hf).1,hT _ (hfl f hf).2⟩) hobj hints (zS hlen (by decide)) hr hF hbn (λ H hS hH=>⟨a,ns,rfl,hS,hlen,hb,hH,λ _=>rfl⟩) λ H e s' z=>z
section
variable {X:Cx}
theorem px {a b:Expr} {ta tb:TE} {pos:Pos} (ha:PE X a ta) (hb:PE X b tb) (hs:l_p b:=by exact λ _ _=>rfl):PE X (.Subscript a b pos) (tOp (rIxB X.K) ta tb):=s_L ix_B ha hb hs
end
noncomputable def Itv (K:Frag) (l:Addr) (n:Nat):It :=
 ⟨λ i H=>∃ xs,SqL K H l xs/\xs.length=n/\i < n,λ i H x H'=>H'=H/\∀ xs,SqL K H l xs->xs[n - 1 - i]?=some x,λ i _=>n<=i⟩
theorem o_C {P:Program} {w:World} {K:Frag} {tg:Expr} (a it:Addr) (n:Nat):Turn P w K tg (Itv K a n) [it] it (λ i h=>i<=n/\h.IsRevIter it a ((n:Int) - 1 - (i:Int))) where
 mem:=by simp
 obj:=λ i h st b hb=>by
  have e:b=it:=by simpa using hb
  subst e;obtain ⟨_,o,e,c,d⟩:=st;exact ⟨o,e,λ v z=>by rw [d] at z; cases z⟩
 keep:=λ i h h' st k=>⟨st.1,st.2.at λ o e=>k it (by simp) o e⟩
 item:=by
  intro X hP hw hK hc i pins s σ H E I hf st hg;subst hP hw hK;obtain ⟨xs,hq,hl,hi⟩:=hg;have hx:xs[n - 1 - i]?=some xs[n - 1 - i]:=by rw [List.getElem?_eq_getElem]
  obtain ⟨its,rv,p,hz⟩:=I.list hq;obtain ⟨u,hu,ru⟩:=rv.get hx;obtain ⟨f0,f1,f2,f3,f4,f5⟩:=hf it (by simp);have e:(n:Int) - 1 - (i:Int)=((n - 1 - i:Nat):Int):=by omega
  have st2:=st.2;rw [e] at st2;refine wpAny_pyNext_rev_item st2 p.isList (x:=u) (by simpa using hu) λ h' st' sb=>?_;have I1:Inv X pins σ H { s with heap:=h' }:=I.turned (t':=s.toks) (λ b o hb e=>(sb.2 b hb).trans e) f0 f1 f3 f4 f5;obtain ⟨o,e1,c,d⟩:=id st';have e2:((n - 1 - i:Nat):Int) - 1=(n:Int) - 1 - ((i+1:Nat):Int):=by omega
  exact ⟨u,rfl,l_l (s:={ s with heap:=h' }) e1 c d (by decide) ⟨_,H,I1,ru,⟨rfl,λ ys hy=>by rw [I.list_inj hy hq]; exact hx⟩,⟨hi,e2 ▸ st'⟩,λ b hb=>(hf b hb).1⟩⟩
 done:=by
  intro X hP hw hK hc i pins s σ H E I hf st hg;subst hP hw hK;have hg':n<=i:=hg;obtain ⟨f0,f1,f2,f3,f4,f5⟩:=hf it (by simp);have e:(n:Int) - 1 - (i:Int)=-1:=by have:=st.1; omega
  have st2:=st.2;rw [e] at st2;exact wpAny_pyNext_rev_end (I.ok.hd hc) st2 λ h' eb=>⟨rfl,I.turned (t':=s.toks) (λ b o hb e=>eb b o hb e) f0 f1 f3 f4 f5⟩
 self:=λ _ _ _ _ _ st h=>wpAny_pyIter_revIter st.2 h
section
variable {X:Cx}
noncomputable def iRev (K:Frag) (ta:TA):TI:=λ σ H R=>ta σ H λ vs H1=>∃ l xs,vs=[.ref l]/\SqL K H1 l xs/\R (Itv K l xs.length) H1
theorem r_N {a tg:Expr} {ta:TA} {p pos:Pos} (hg:Gl X "reversed") (hm:X.mg "reversed" = none) (ha:PA X [a] ta) (hv:bootBuiltins "reversed" = some (.type "reversed"):=by decide +kernel)
  (hs:starEach [a] X.env=[(false,eval a X.env)]:=by rfl) :
  PI X tg (.Call (.Name "reversed" p) [a] [] pos) (iRev X.K ta):=by
 intro pins s σ H R I h;refine Call_ (e_e I hg hm hv (PyProof.Rows.callWith_type1 (thn (ha pos pins s σ H _ I h) λ us s1 ⟨vs,H1,I1,r1,q1⟩=>?_) (by rw [hs]; rfl) (by rfl)));obtain ⟨l,xs,e,hq,q⟩:=q1;subst e;obtain ⟨u,rfl,rx⟩:=d_Y r1;cases rx;obtain ⟨its,rv,p,hz⟩:=I1.list hq;have hl:=rv.length;refine call_reversed_list p.isList ?_;refine wpAny_pyIter_revIter (l:=l) (i:=(its.toArray.size:Int) - 1) ⟨_,zF _ rfl,rfl,rfl⟩ ?_;refine ⟨s1.heap.objs.size,[s1.heap.objs.size],_,_,H1,rfl,I1.kept (t':=s1.toks) λ b o e=>zD _ e,o_C l _ xs.length,⟨Nat.zero_le _,⟨_,zF _ rfl,rfl,?_⟩⟩,λ b hb=>?_,q⟩
 ·have e:(its.toArray.size:Int) - 1=(xs.length:Int) - 1 - ((0:Nat):Int):=by simp; omega
  rw [← e];rfl
 ·have e:b=s1.heap.objs.size:=by simpa using hb
  subst e;exact I1.fpOk (zL _) (I1.hok.fresh (zL _))
end
theorem r_O {K:Frag} {l:Addr} {n:Nat} {xs:List V} {g:TG} {tb:TS} {nx:St->Hp->Prop} {rt:VK} {σ:St} {H:Hp} (Pv:Nat->St->Hp->Prop) (h0:Pv 0 σ H) (hn:xs.length=n) (hl:∀ i σ H,i<=n->Pv i σ H->SqL K H l xs)
  (hs:∀ i x σ H,xs[n - 1 - i]?=some x->i < n->Pv i σ H->g x σ H λ σ2 H2=>tb { nx:=Pv (i+1),rt:=rt,bk:=nx,ct:=Pv (i+1) } σ2 H2) (hd:∀ σ H,Pv n σ H->nx σ H):l_u (Itv K l n) g tb nx rt σ H:=by
 refine ⟨λ i m σ H=>m=n - i/\i<=n/\Pv i σ H,⟨n,by simp,Nat.zero_le _,h0⟩,?_⟩;rintro i m σ H ⟨rfl,hi,p⟩
 by_cases hlt:i < n
 ·refine .inr ⟨⟨xs,hl i σ H hi p,hn,hlt⟩,Pv (i+1),λ σ' H' p'=>⟨n - (i+1),by omega,rfl,hlt,p'⟩,λ x H' y=>?_⟩;obtain ⟨e,hx⟩:=y;subst e;exact hs i x σ _ (hx xs (hl i σ _ hi p)) hlt p
 ·have e:i=n:=by omega
  subst e;exact .inl ⟨zL _,hd σ H p⟩
section
variable {X:Cx}
noncomputable def o_D:List V->Hp->VK->Prop:=λ xs H Q=>∃ n:Nat,xs=[.int n]/\n<=1000/\∀ l,H l=none->Q (.ref l) (upd H l (.lst ((List.range n).map λ (i:Nat)=>V.int (i:Int))))
theorem k_Q {a:Expr} {ta:TA} {p1 p2 pos1 pos2:Pos} (hc:X.calm=true) (hg1:Gl X "list") (hm1:X.mg "list" = none) (hg2:Gl X "range") (hm2:X.mg "range" = none) (ha:PA X [a] ta)
  (hv1:bootBuiltins "list" = some (.type "list"):=by decide +kernel) (hs:starEach [a] X.env=[(false,eval a X.env)]:=by rfl)
  (hs1:starEach [.Call (.Name "range" p2) [a] [] pos2] X.env=[(false,eval (.Call (.Name "range" p2) [a] [] pos2) X.env)]:=by rfl) :
  PE X (.Call (.Name "list" p1) [.Call (.Name "range" p2) [a] [] pos2] [] pos1) (tCB o_D ta):=by
 intro pins s σ H Q I h;refine wpAny_Call_Name_kw (e_e I hg1 hm1 hv1 ?_);refine PyProof.Rows.callWith_type1 ?_ (by rw [hs1]; rfl) (by rfl);rw [hs1];show wpAny _ _ (spliced ((false,eval (.Call (.Name "range" p2) [a] [] pos2) X.env) :: [])) _ _ s;refine Calls.spliced_cons ?_;refine wpAny_Call_Name_kw (e_e I hg2 hm2 boot_range ?_);refine PyProof.Rows.callWith_type1 (thn (ha pos2 pins s σ H _ I h) λ us s1 ⟨vs,H1,I1,r1,q1⟩=>?_) (by rw [hs]; rfl) (by rfl);obtain ⟨n,e,hn,q⟩:=q1;subst e;obtain ⟨u,rfl,rx⟩:=d_Y r1;obtain ⟨t,rfl⟩:=rx;refine call_range_1 ?_;refine Calls.spliced_nil ?_;have k1:∀ b o,s1.heap.get? b=some o->(s1.heap.push { cls:=.type "range",data:=.fields #[.int 0 s1.toks,.int n t,.int 1 (s1.toks+1)] }).get? b=some o:=λ b o e=>zD _ e;refine call_list_range (n:=n) (I1.ok.hd hc) (IsRange.new ..) (small_one (by decide) (by decide) (by omega) (by omega)) (by rw [rangeSize_one]; split <;> omega) (zS hn (by decide)) λ h' tk acc' c' hk hS hacc=>?_;have k2:∀ b o,s1.heap.get? b=some o->h'.get? b=some o:=λ b o e=>hk b o (k1 b o e);have hp:s1.heap.objs.size<=(s1.heap.push { cls:=.type "range",data:=.fields #[.int 0 s1.toks,.int n t,.int 1 (s1.toks+1)] }).objs.size:=by simp [Heap.push]
 have rv:Vals ((List.range n).map λ (i:Nat)=>V.int (i:Int)) acc'.toList:=by
  obtain ⟨n1,n2⟩:=hacc;have g:∀ (xs:List V) (us:List Value),xs.length=us.length->(∀ (i:Nat) (x:V) (u:Value),xs[i]?=some x->us[i]?=some u->RelV x u)->Vals xs us:=by
   intro xs
   induction xs with
   | nil=>intro us hl _; cases us with
    | nil=>exact .nil
    | cons _ _=>cases hl
   | cons x xs ih=>intro us hl hr; cases us with
    | nil=>cases hl
    | cons u us=>exact .cons (hr 0 x u rfl rfl) (ih us (Nat.succ.inj hl) λ i x u e1 e2=>hr (i+1) x u e1 e2)
  refine g _ _ (by rw [yI,List.length_range,Array.length_toList,n1]) λ i x u e1 e2=>?_;rw [Array.getElem?_toList] at e2;obtain ⟨t,rfl⟩:=n2 i u e2;rw [zH] at e1;have hi:i < n:=by rw [← n1]; exact (Array.getElem?_eq_some_iff.mp e2).1
  rw [yH hi] at e1;cases e1;exact ⟨t,by rw [Int.zero_add,Int.mul_one]⟩
 exact ⟨.ref _,_,I1.laid (t':=tk) k2 hp (show c_v X.prog X.w _ h' _ (.lst _) from ⟨by rw [yI,List.length_range]; exact zS hn (by decide),acc'.toList,c',rv,by rw [Array.toArray_toList]; exact hS⟩),rfl,q _ (I1.hok.fresh hp)⟩
end
end L2
namespace Cw
open PySem L2
abbrev pa':List Str:=["_law_rows_here","_law_tops_here","_law_other_rows","_law_other_tops"]
abbrev pb':List Str:=["_law_rows_here","_law_tops_here","_law_under"]
abbrev pc':List Str:=["_law_cell","_law_base","_law_most"]
abbrev pd':List Str:=["_law_script","_law_at","_law_even"]
abbrev pe':List Str:=["_law_rows_here","_law_tops_here"]
abbrev pf':List Str:=["_law_script","_law_at","_law_d"]
abbrev pg':List Str:=["form","leads","tops","under"]
abbrev ph':List Str:=["_law_tops_here","_law_under"]
abbrev pi':List Str:=["_law_rows_here","_law_cell"]
abbrev pj':List Str:=["_law_rows_here","_law_many"]
abbrev pk':List Str:=["_law_part","_law_number"]
abbrev pl':List Str:=["_law_one","_law_other"]
abbrev pm':List Str:=["self","i","j","count"]
abbrev pn':List Str:=["_law_script","_law_k"]
abbrev pp':List Str:=["_law_script","_law_d"]
abbrev pq':List Str:=["rows","tops","under"]
abbrev pr':List Str:=["one","other","count"]
abbrev pt':List Str:=["rows","spot","fits"]
abbrev pu':List Str:=["_law_cell","_law_d"]
abbrev pv':List Str:=["self","top","k"]
abbrev pw':List Str:=["_law_rows_here"]
abbrev px':List Str:=["table","i","j"]
abbrev py':List Str:=["tops","under"]
abbrev pz':List Str:=["rows","i","k"]
abbrev pA':List Str:=["one","other"]
abbrev pB':List Str:=["rows","spot"]
abbrev pC':List Str:=["one","times"]
abbrev pD':List Str:=["self","rows"]
abbrev pE':List Str:=["one","stays"]
abbrev pF':List Str:=["_law_script"]
abbrev pG':List Str:=["one","spot"]
abbrev pH':List Str:=["self","one"]
abbrev pI':List Str:=["table","i"]
abbrev pJ':List Str:=["_law_cell"]
abbrev pK':List Str:=["rows"]
abbrev pL':List Str:=["self"]
open PySem.W (nsIn keepIn codeIn findIn fnOf mg_of kitOne)
open PyProof.Rows (mulOk_of_bits)
theorem zqe {α β:Type} {l:List α} {f:α->β}:(l.map f).length=l.length:=yI ..
theorem zqa {α:Type} {l:List α} {i:Nat} {a:α} (h:l[i]?=some a):∃ h:i < l.length,l[i]=a:=List.getElem?_eq_some_iff.mp h
theorem zqb {α:Type} {l:List α} {i:Nat} {a:α} (h:l[i]?=some a):a∈l:=List.mem_of_getElem? h
theorem zqc {α:Type} {l:List α} {i:Nat} {a:α}:l.getD i a=l[i]?.getD a:=List.getD_eq_getElem?_getD
theorem zqd {α:Type} {l:List α} {i:Nat} (h:i < l.length):l[i]?=some l[i]:=List.getElem?_eq_getElem h
open PySem.W (Frag)
abbrev LM:=List (List Int)
noncomputable def top (i:Nat):Stmt:=PySem.Challenge.pw_crystalwords_k36_whole_either_first.main.body.getD i (.Pass ⟨0,0,0,0⟩)
noncomputable abbrev s_1j:Stmt:=top 6
noncomputable abbrev N_1j:List Str:=["one","other","greater","lesser","remainder"]
noncomputable abbrev s_1p:Stmt:=top 7
noncomputable abbrev N_1p:List Str:=pA'
noncomputable abbrev s_19:Stmt:=top 9
noncomputable abbrev N_19:List Str:=["tops","under","common","top"]
noncomputable abbrev s_7:Stmt:=top 11
noncomputable abbrev N_7:List Str:=["size"]
noncomputable abbrev s_1z:Stmt:=top 12
noncomputable abbrev N_1z:List Str:=pA'
noncomputable abbrev s_1h:Stmt:=top 13
noncomputable abbrev N_1h:List Str:=pK'
noncomputable abbrev s_1y:Stmt:=top 14
noncomputable abbrev N_1y:List Str:=["one","other","columns"]
noncomputable abbrev s_1l:Stmt:=top 15
noncomputable abbrev N_1l:List Str:=pz'
noncomputable abbrev s_1:Stmt:=top 16
noncomputable abbrev N_1:List Str:=["rows","total","sign","k","number"]
noncomputable abbrev s_1n:Stmt:=top 23
noncomputable abbrev N_1n:List Str:=pB'
noncomputable abbrev s_25:Stmt:=top 24
noncomputable abbrev N_25:List Str:=["rows","tops","under","axes"]
noncomputable abbrev s_20:Stmt:=top 25
noncomputable abbrev N_20:List Str:=["d"]
noncomputable abbrev s_1x:Stmt:=top 26
noncomputable abbrev N_1x:List Str:=["one","spot","tops"]
noncomputable abbrev s_1o:Stmt:=top 27
noncomputable abbrev N_1o:List Str:=["one","other","columns","rows"]
noncomputable abbrev s_1u:Stmt:=top 29
noncomputable abbrev N_1u:List Str:=["one","times","step","left","done"]
noncomputable abbrev s_23:Stmt:=top 31
noncomputable abbrev N_23:List Str:=pr'
noncomputable abbrev s_16:Stmt:=top 32
noncomputable abbrev N_16:List Str:=["table","i","j","held"]
noncomputable abbrev s_i:Stmt:=top 33
noncomputable abbrev N_i:List Str:=pI'
noncomputable abbrev s_d:Stmt:=c_b (top 34) 0
noncomputable abbrev N_d:List Str:=["self","rows","units"]
noncomputable abbrev s_m:Stmt:=c_b (top 34) 1
noncomputable abbrev N_m:List Str:=pm'
noncomputable abbrev s_2:Stmt:=c_b (top 34) 2
noncomputable abbrev N_2:List Str:=["self","top","k","lines","standing"]
noncomputable abbrev s_f:Stmt:=c_b (top 34) 3
noncomputable abbrev N_f:List Str:=["self","top","k","standing","i","j"]
noncomputable abbrev s_9:Stmt:=c_b (top 34) 4
noncomputable abbrev N_9:List Str:=["self","top","k","i"]
noncomputable abbrev s_1k:Stmt:=top 35
noncomputable abbrev N_1k:List Str:=["rows","width","steps","top","k","form","record"]
noncomputable abbrev s_10:Stmt:=top 37
noncomputable abbrev N_10:List Str:=["form","leads","i","row","standing"]
noncomputable abbrev s_1c:Stmt:=top 38
noncomputable abbrev N_1c:List Str:=["form","leads","tops","under","scale","lead","numbers","row","left"]
noncomputable abbrev s_18:Stmt:=top 39
noncomputable abbrev N_18:List Str:=["rows","spot","fits","steps","form","record","leads","tops","i"]
noncomputable abbrev s_24:Stmt:=top 40
noncomputable abbrev N_24:List Str:=pq'
noncomputable abbrev s_1m:Stmt:=top 43
noncomputable abbrev N_1m:List Str:=["rows","still","reached","count"]
noncomputable abbrev s_g:Stmt:=top 44
noncomputable abbrev N_g:List Str:=pK'
noncomputable abbrev s_17:Stmt:=top 45
noncomputable abbrev N_17:List Str:=pK'
noncomputable abbrev s_x:Stmt:=top 46
noncomputable abbrev N_x:List Str:=["one","count","far"]
noncomputable abbrev s_p:Stmt:=top 47
noncomputable abbrev N_p:List Str:=pK'
noncomputable abbrev s_l:Stmt:=top 48
noncomputable abbrev N_l:List Str:=["spot"]
noncomputable abbrev s_0:Stmt:=c_b (top 49) 0
noncomputable abbrev N_0:List Str:=pH'
noncomputable abbrev s_a:Stmt:=c_b (top 49) 2
noncomputable abbrev N_a:List Str:=pL'
noncomputable abbrev s_6:Stmt:=c_b (top 49) 3
noncomputable abbrev N_6:List Str:=["self","drift"]
noncomputable abbrev s_4:Stmt:=c_b (top 49) 4
noncomputable abbrev N_4:List Str:=pL'
noncomputable abbrev s_5:Stmt:=c_b (top 49) 5
noncomputable abbrev N_5:List Str:=pL'
noncomputable abbrev s_13:Stmt:=c_b (top 50) 0
noncomputable abbrev N_13:List Str:=pL'
noncomputable abbrev s_1e:Stmt:=c_b (top 51) 0
noncomputable abbrev N_1e:List Str:=pL'
noncomputable abbrev s_1d:Stmt:=c_b (top 52) 0
noncomputable abbrev N_1d:List Str:=pL'
noncomputable abbrev s_12:Stmt:=c_b (top 53) 0
noncomputable abbrev N_12:List Str:=pL'
noncomputable abbrev s_t:Stmt:=c_b (top 54) 0
noncomputable abbrev N_t:List Str:=pL'
noncomputable abbrev s_14:Stmt:=c_b (top 55) 0
noncomputable abbrev N_14:List Str:=pL'
noncomputable abbrev s_11:Stmt:=c_b (top 56) 0
noncomputable abbrev N_11:List Str:=pL'
noncomputable abbrev s_15:Stmt:=c_b (top 57) 0
noncomputable abbrev N_15:List Str:=pL'
noncomputable abbrev s_o:Stmt:=c_b (top 58) 0
noncomputable abbrev N_o:List Str:=pL'
noncomputable abbrev s_1i:Stmt:=top 59
noncomputable abbrev N_1i:List Str:=["one","drift"]
noncomputable abbrev s_r:Stmt:=top 60
noncomputable abbrev N_r:List Str:=pE'
noncomputable abbrev s_1b:Stmt:=top 61
noncomputable abbrev N_1b:List Str:=["one","stays","fold"]
noncomputable abbrev s_3:Stmt:=top 63
noncomputable abbrev N_3:List Str:=pn'
noncomputable abbrev s_q:Stmt:=top 65
noncomputable abbrev N_q:List Str:=pk'
noncomputable abbrev s_k:Stmt:=top 66
noncomputable abbrev N_k:List Str:=["_law_tops_here","_law_under","_law_by","_law_top"]
noncomputable abbrev s_b:Stmt:=top 67
noncomputable abbrev N_b:List Str:=["_law_cell","_law_base","_law_most","_law_here","_law_some"]
noncomputable abbrev s_8:Stmt:=top 68
noncomputable abbrev N_8:List Str:=["_law_cell","_law_plane","_law_space","_law_rows_here"]
noncomputable abbrev s_c:Stmt:=top 69
noncomputable abbrev N_c:List Str:=["_law_cell","_law_d","_law_left","_law_rows_here","_law_k","_law_at","_law_sign"]
noncomputable abbrev s_n:Stmt:=top 70
noncomputable abbrev N_n:List Str:=["_law_rows_here","_law_cell","_law_d","_law_i","_law_j","_law_many","_law_made","_law_k","_law_row"]
noncomputable abbrev s_1a:Stmt:=top 71
noncomputable abbrev N_1a:List Str:=pe'
noncomputable abbrev s_e:Stmt:=top 72
noncomputable abbrev N_e:List Str:=pp'
noncomputable abbrev s_w:Stmt:=top 73
noncomputable abbrev N_w:List Str:=["_law_script","_law_at","_law_even","_law_cell","_law_rows_here","_law_one"]
noncomputable abbrev s_u:Stmt:=top 74
noncomputable abbrev N_u:List Str:=["_law_script","_law_at","_law_d","_law_cell","_law_tops_here"]
noncomputable abbrev s_h:Stmt:=top 75
noncomputable abbrev N_h:List Str:=["_law_rows_here","_law_tops_here","_law_other_rows","_law_other_tops","_law_made","_law_row","_law_led_here"]
noncomputable abbrev s_y:Stmt:=top 76
noncomputable abbrev N_y:List Str:=pb'
noncomputable abbrev s_1f:Stmt:=top 77
noncomputable abbrev N_1f:List Str:=pl'
noncomputable abbrev s_v:Stmt:=top 78
noncomputable abbrev N_v:List Str:=["_law_rows_here","_law_i"]
noncomputable abbrev s_s:Stmt:=top 79
noncomputable abbrev N_s:List Str:=["_law_rows_here","_law_many","_law_power","_law_k"]
noncomputable abbrev s_j:Stmt:=top 80
noncomputable abbrev N_j:List Str:=pw'
noncomputable abbrev s_26:Stmt:=top 81
noncomputable abbrev N_26:List Str:=["_law_script","_law_even","_law_rows_here","_law_other_rows","_law_d","_law_under","_law_other_under","_law_tops_here","_law_other_tops","_law_made","_law_sums","_law_turned","_law_turned_sums","_law_here","_law_there"]
local macro_rules | `(tactic| walk_at "s")=>`(tactic| exact ⟨rfl,rfl,rfl,by decide +kernel,rfl,by decide +kernel,by decide +kernel⟩)
local macro_rules | `(tactic| walk_at "v")=>`(tactic| (intro _ _ _ _ h; first | (obtain ⟨_,hh,_⟩:=h; subst hh; rfl) | (obtain ⟨_,_,hh,_⟩:=h; subst hh; rfl) | (obtain ⟨_,_,_,hh,_⟩:=h; subst hh; rfl) | (obtain ⟨_,_,_,_,hh,_⟩:=h; subst hh; rfl) | (obtain ⟨_,_,_,_,_,hh,_⟩:=h; subst hh; rfl) | (obtain ⟨_,_,_,_,_,_,hh,_⟩:=h; subst hh; rfl) | (obtain ⟨_,_,_,_,_,_,_,hh,_⟩:=h; subst hh; rfl) | (obtain ⟨_,_,_,_,_,_,_,_,hh,_⟩:=h; subst hh; rfl) | (obtain ⟨_,_,_,_,_,_,_,_,_,hh,_⟩:=h; subst hh; rfl) | (obtain ⟨_,_,_,_,_,_,_,_,_,_,_,_,hh,_⟩:=h; subst hh; rfl) | (obtain ⟨_,_,_,_,_,_,_,_,_,_,_,_,_,hh,_⟩:=h; subst hh; rfl)))
theorem sc_1j:a_K N_1j pA' (a_D s_1j):=by walk_at "s"
theorem sc_1p:a_K N_1p pA' (a_D s_1p):=by walk_at "s"
theorem sc_19:a_K N_19 py' (a_D s_19):=by walk_at "s"
theorem sc_7:a_K N_7 ["size"] (a_D s_7):=by walk_at "s"
theorem sc_1z:a_K N_1z pA' (a_D s_1z):=by walk_at "s"
theorem sc_1h:a_K N_1h pK' (a_D s_1h):=by walk_at "s"
theorem sc_1y:a_K N_1y pA' (a_D s_1y):=by walk_at "s"
theorem sc_1l:a_K N_1l pz' (a_D s_1l):=by walk_at "s"
theorem sc_1:a_K N_1 pK' (a_D s_1):=by walk_at "s"
theorem sc_1n:a_K N_1n pB' (a_D s_1n):=by walk_at "s"
theorem sc_25:a_K N_25 pq' (a_D s_25):=by walk_at "s"
theorem sc_20:a_K N_20 ["d"] (a_D s_20):=by walk_at "s"
theorem sc_1x:a_K N_1x pG' (a_D s_1x):=by walk_at "s"
theorem sc_1o:a_K N_1o pA' (a_D s_1o):=by walk_at "s"
theorem sc_1u:a_K N_1u pC' (a_D s_1u):=by walk_at "s"
theorem sc_23:a_K N_23 pr' (a_D s_23):=by walk_at "s"
theorem sc_16:a_K N_16 px' (a_D s_16):=by walk_at "s"
theorem sc_i:a_K N_i pI' (a_D s_i):=by walk_at "s"
theorem sc_d:a_K N_d pD' (a_D s_d):=by walk_at "s"
theorem sc_m:a_K N_m pm' (a_D s_m):=by walk_at "s"
theorem sc_2:a_K N_2 pv' (a_D s_2):=by walk_at "s"
theorem sc_f:a_K N_f pv' (a_D s_f):=by walk_at "s"
theorem sc_9:a_K N_9 pv' (a_D s_9):=by walk_at "s"
theorem sc_1k:a_K N_1k pK' (a_D s_1k):=by walk_at "s"
theorem sc_10:a_K N_10 ["form"] (a_D s_10):=by walk_at "s"
theorem sc_1c:a_K N_1c pg' (a_D s_1c):=by walk_at "s"
theorem sc_18:a_K N_18 pt' (a_D s_18):=by walk_at "s"
theorem sc_24:a_K N_24 pq' (a_D s_24):=by walk_at "s"
theorem sc_1m:a_K N_1m pK' (a_D s_1m):=by walk_at "s"
theorem sc_g:a_K N_g pK' (a_D s_g):=by walk_at "s"
theorem sc_17:a_K N_17 pK' (a_D s_17):=by walk_at "s"
theorem sc_x:a_K N_x ["one"] (a_D s_x):=by walk_at "s"
theorem sc_p:a_K N_p pK' (a_D s_p):=by walk_at "s"
theorem sc_l:a_K N_l ["spot"] (a_D s_l):=by walk_at "s"
theorem sc_0:a_K N_0 pH' (a_D s_0):=by walk_at "s"
theorem sc_a:a_K N_a pL' (a_D s_a):=by walk_at "s"
theorem sc_6:a_K N_6 pL' (a_D s_6):=by walk_at "s"
theorem sc_4:a_K N_4 pL' (a_D s_4):=by walk_at "s"
theorem sc_5:a_K N_5 pL' (a_D s_5):=by walk_at "s"
theorem sc_13:a_K N_13 pL' (a_D s_13):=by walk_at "s"
theorem sc_1e:a_K N_1e pL' (a_D s_1e):=by walk_at "s"
theorem sc_1d:a_K N_1d pL' (a_D s_1d):=by walk_at "s"
theorem sc_12:a_K N_12 pL' (a_D s_12):=by walk_at "s"
theorem sc_t:a_K N_t pL' (a_D s_t):=by walk_at "s"
theorem sc_14:a_K N_14 pL' (a_D s_14):=by walk_at "s"
theorem sc_11:a_K N_11 pL' (a_D s_11):=by walk_at "s"
theorem sc_15:a_K N_15 pL' (a_D s_15):=by walk_at "s"
theorem sc_o:a_K N_o pL' (a_D s_o):=by walk_at "s"
theorem sc_1i:a_K N_1i ["one"] (a_D s_1i):=by walk_at "s"
theorem sc_r:a_K N_r pE' (a_D s_r):=by walk_at "s"
theorem sc_1b:a_K N_1b pE' (a_D s_1b):=by walk_at "s"
theorem sc_3:a_K N_3 pn' (a_D s_3):=by walk_at "s"
theorem sc_q:a_K N_q pk' (a_D s_q):=by walk_at "s"
theorem sc_k:a_K N_k ph' (a_D s_k):=by walk_at "s"
theorem sc_b:a_K N_b pc' (a_D s_b):=by walk_at "s"
theorem sc_8:a_K N_8 pJ' (a_D s_8):=by walk_at "s"
theorem sc_c:a_K N_c pu' (a_D s_c):=by walk_at "s"
theorem sc_n:a_K N_n pi' (a_D s_n):=by walk_at "s"
theorem sc_1a:a_K N_1a pe' (a_D s_1a):=by walk_at "s"
theorem sc_e:a_K N_e pp' (a_D s_e):=by walk_at "s"
theorem sc_w:a_K N_w pd' (a_D s_w):=by walk_at "s"
theorem sc_u:a_K N_u pf' (a_D s_u):=by walk_at "s"
theorem sc_h:a_K N_h pa' (a_D s_h):=by walk_at "s"
theorem sc_y:a_K N_y pb' (a_D s_y):=by walk_at "s"
theorem sc_1f:a_K N_1f pl' (a_D s_1f):=by walk_at "s"
theorem sc_v:a_K N_v pw' (a_D s_v):=by walk_at "s"
theorem sc_s:a_K N_s pj' (a_D s_s):=by walk_at "s"
theorem sc_j:a_K N_j pw' (a_D s_j):=by walk_at "s"
theorem sc_26:a_K N_26 pF' (a_D s_26):=by walk_at "s"
set_option genInjectivity false in
structure Adr where
 a_1j:Addr
 d_1j:FuncData
 a_1p:Addr
 d_1p:FuncData
 a_19:Addr
 d_19:FuncData
 a_7:Addr
 d_7:FuncData
 a_1z:Addr
 d_1z:FuncData
 a_1h:Addr
 d_1h:FuncData
 a_1y:Addr
 d_1y:FuncData
 a_1l:Addr
 d_1l:FuncData
 a_1:Addr
 d_1:FuncData
 a_1n:Addr
 d_1n:FuncData
 a_25:Addr
 d_25:FuncData
 a_20:Addr
 d_20:FuncData
 a_1x:Addr
 d_1x:FuncData
 a_1o:Addr
 d_1o:FuncData
 a_1u:Addr
 d_1u:FuncData
 a_23:Addr
 d_23:FuncData
 a_16:Addr
 d_16:FuncData
 a_i:Addr
 d_i:FuncData
 a_d:Addr
 d_d:FuncData
 a_m:Addr
 d_m:FuncData
 a_2:Addr
 d_2:FuncData
 a_f:Addr
 d_f:FuncData
 a_9:Addr
 d_9:FuncData
 a_1k:Addr
 d_1k:FuncData
 a_10:Addr
 d_10:FuncData
 a_1c:Addr
 d_1c:FuncData
 a_18:Addr
 d_18:FuncData
 a_24:Addr
 d_24:FuncData
 a_1m:Addr
 d_1m:FuncData
 a_g:Addr
 d_g:FuncData
 a_17:Addr
 d_17:FuncData
 a_x:Addr
 d_x:FuncData
 a_p:Addr
 d_p:FuncData
 a_l:Addr
 d_l:FuncData
 a_0:Addr
 d_0:FuncData
 a_a:Addr
 d_a:FuncData
 a_6:Addr
 d_6:FuncData
 a_4:Addr
 d_4:FuncData
 a_5:Addr
 d_5:FuncData
 a_13:Addr
 d_13:FuncData
 a_1e:Addr
 d_1e:FuncData
 a_1d:Addr
 d_1d:FuncData
 a_12:Addr
 d_12:FuncData
 a_t:Addr
 d_t:FuncData
 a_14:Addr
 d_14:FuncData
 a_11:Addr
 d_11:FuncData
 a_15:Addr
 d_15:FuncData
 a_o:Addr
 d_o:FuncData
 a_1i:Addr
 d_1i:FuncData
 a_r:Addr
 d_r:FuncData
 a_1b:Addr
 d_1b:FuncData
 a_3:Addr
 d_3:FuncData
 a_q:Addr
 d_q:FuncData
 a_k:Addr
 d_k:FuncData
 a_b:Addr
 d_b:FuncData
 a_8:Addr
 d_8:FuncData
 a_c:Addr
 d_c:FuncData
 a_n:Addr
 d_n:FuncData
 a_1a:Addr
 d_1a:FuncData
 a_e:Addr
 d_e:FuncData
 a_w:Addr
 d_w:FuncData
 a_u:Addr
 d_u:FuncData
 a_h:Addr
 d_h:FuncData
 a_y:Addr
 d_y:FuncData
 a_1f:Addr
 d_1f:FuncData
 a_v:Addr
 d_v:FuncData
 a_s:Addr
 d_s:FuncData
 a_j:Addr
 d_j:FuncData
 a_26:Addr
 d_26:FuncData
 a_2b:Addr
 a_2a:Addr
 a_28:Addr
 a_29:Addr
 a_27:Addr
 a_1r:Addr
 a_21:Addr
 a_22:Addr
 a_1w:Addr
 a_1q:Addr
 a_1t:Addr
 a_1s:Addr
 a_1v:Addr
 a_1g:Addr
 a_z:Addr
structure Txt (K:Frag) (mg:Str->Option Value) (t:Adr):Prop where
 F_1j:Fun K "divisor" "divisor" s_1j t.a_1j t.d_1j
 m_1j:mg "divisor" = some (.ref t.a_1j)
 b_1j:a_W K t.d_1j pA' []
 F_1p:Fun K "nearest" "nearest" s_1p t.a_1p t.d_1p
 m_1p:mg "nearest" = some (.ref t.a_1p)
 b_1p:a_W K t.d_1p pA' []
 F_19:Fun K "place" "place" s_19 t.a_19 t.d_19
 m_19:mg "place" = some (.ref t.a_19)
 b_19:a_W K t.d_19 py' []
 F_7:Fun K "still_rows" "still_rows" s_7 t.a_7 t.d_7
 m_7:mg "still_rows" = some (.ref t.a_7)
 b_7:a_W K t.d_7 ["size"] []
 F_1z:Fun K "dot" "dot" s_1z t.a_1z t.d_1z
 m_1z:mg "dot" = some (.ref t.a_1z)
 b_1z:a_W K t.d_1z pA' []
 F_1h:Fun K "turned" "turned" s_1h t.a_1h t.d_1h
 m_1h:mg "turned" = some (.ref t.a_1h)
 b_1h:a_W K t.d_1h pK' []
 F_1y:Fun K "times" "times" s_1y t.a_1y t.d_1y
 m_1y:mg "times" = some (.ref t.a_1y)
 b_1y:a_W K t.d_1y pA' []
 F_1l:Fun K "without" "without" s_1l t.a_1l t.d_1l
 m_1l:mg "without" = some (.ref t.a_1l)
 b_1l:a_W K t.d_1l pz' []
 F_1:Fun K "determinant" "determinant" s_1 t.a_1 t.d_1
 m_1:mg "determinant" = some (.ref t.a_1)
 b_1:a_W K t.d_1 pK' []
 F_1n:Fun K "joined" "joined" s_1n t.a_1n t.d_1n
 m_1n:mg "joined" = some (.ref t.a_1n)
 b_1n:a_W K t.d_1n pB' []
 F_25:Fun K "deed" "deed" s_25 t.a_25 t.d_25
 m_25:mg "deed" = some (.ref t.a_25)
 b_25:a_W K t.d_25 pq' []
 F_20:Fun K "still" "still" s_20 t.a_20 t.d_20
 m_20:mg "still" = some (.ref t.a_20)
 b_20:a_W K t.d_20 ["d"] []
 F_1x:Fun K "moved" "moved" s_1x t.a_1x t.d_1x
 m_1x:mg "moved" = some (.ref t.a_1x)
 b_1x:a_W K t.d_1x pG' []
 F_1o:Fun K "behind" "behind" s_1o t.a_1o t.d_1o
 m_1o:mg "behind" = some (.ref t.a_1o)
 b_1o:a_W K t.d_1o pA' []
 F_1u:Fun K "again" "again" s_1u t.a_1u t.d_1u
 m_1u:mg "again" = some (.ref t.a_1u)
 b_1u:a_W K t.d_1u pC' []
 F_23:Fun K "less" "less" s_23 t.a_23 t.d_23
 m_23:mg "less" = some (.ref t.a_23)
 b_23:a_W K t.d_23 pr' []
 F_16:Fun K "exchange" "exchange" s_16 t.a_16 t.d_16
 m_16:mg "exchange" = some (.ref t.a_16)
 b_16:a_W K t.d_16 px' []
 F_i:Fun K "turn_signs" "turn_signs" s_i t.a_i t.d_i
 m_i:mg "turn_signs" = some (.ref t.a_i)
 b_i:a_W K t.d_i pI' []
 F_d:Fun K "__init__" "Steps.__init__" s_d t.a_d t.d_d
 b_d:a_W K t.d_d pD' []
 F_m:Fun K "take" "Steps.take" s_m t.a_m t.d_m
 b_m:a_W K t.d_m pm' []
 F_2:Fun K "rising" "Steps.rising" s_2 t.a_2 t.d_2
 b_2:a_W K t.d_2 pv' []
 F_f:Fun K "gather" "Steps.gather" s_f t.a_f t.d_f
 b_f:a_W K t.d_f pv' []
 F_9:Fun K "set_lead" "Steps.set_lead" s_9 t.a_9 t.d_9
 b_9:a_W K t.d_9 pv' []
 F_1k:Fun K "stairs" "stairs" s_1k t.a_1k t.d_1k
 m_1k:mg "stairs" = some (.ref t.a_1k)
 b_1k:a_W K t.d_1k pK' []
 F_10:Fun K "leads_of" "leads_of" s_10 t.a_10 t.d_10
 m_10:mg "leads_of" = some (.ref t.a_10)
 b_10:a_W K t.d_10 ["form"] []
 F_1c:Fun K "climbed" "climbed" s_1c t.a_1c t.d_1c
 m_1c:mg "climbed" = some (.ref t.a_1c)
 b_1c:a_W K t.d_1c pg' []
 F_18:Fun K "meeting" "meeting" s_18 t.a_18 t.d_18
 m_18:mg "meeting" = some (.ref t.a_18)
 b_18:a_W K t.d_18 pt' []
 F_24:Fun K "met" "met" s_24 t.a_24 t.d_24
 m_24:mg "met" = some (.ref t.a_24)
 b_24:a_W K t.d_24 pq' []
 F_1m:Fun K "span" "span" s_1m t.a_1m t.d_1m
 m_1m:mg "span" = some (.ref t.a_1m)
 b_1m:a_W K t.d_1m pK' []
 F_g:Fun K "signs_turned" "signs_turned" s_g t.a_g t.d_g
 m_g:mg "signs_turned" = some (.ref t.a_g)
 b_g:a_W K t.d_g pK' []
 F_17:Fun K "fold_of" "fold_of" s_17 t.a_17 t.d_17
 m_17:mg "fold_of" = some (.ref t.a_17)
 b_17:a_W K t.d_17 pK' []
 F_x:Fun K "slide_of" "slide_of" s_x t.a_x t.d_x
 m_x:mg "slide_of" = some (.ref t.a_x)
 b_x:a_W K t.d_x ["one"] []
 F_p:Fun K "less_still" "less_still" s_p t.a_p t.d_p
 m_p:mg "less_still" = some (.ref t.a_p)
 b_p:a_W K t.d_p pK' []
 F_l:Fun K "is_nought" "is_nought" s_l t.a_l t.d_l
 m_l:mg "is_nought" = some (.ref t.a_l)
 b_l:a_W K t.d_l ["spot"] []
 F_0:Fun K "__init__" "Kind.__init__" s_0 t.a_0 t.d_0
 b_0:a_W K t.d_0 pH' []
 F_a:Fun K "fold" "Kind.fold" s_a t.a_a t.d_a
 b_a:a_W K t.d_a pL' []
 F_6:Fun K "order" "Kind.order" s_6 t.a_6 t.d_6
 b_6:a_W K t.d_6 pL' []
 F_4:Fun K "slide" "Kind.slide" s_4 t.a_4 t.d_4
 b_4:a_W K t.d_4 pL' []
 F_5:Fun K "at_rest" "Kind.at_rest" s_5 t.a_5 t.d_5
 b_5:a_W K t.d_5 pL' []
 F_13:Fun K "word" "Still.word" s_13 t.a_13 t.d_13
 b_13:a_W K t.d_13 pL' []
 F_1e:Fun K "word" "Move.word" s_1e t.a_1e t.d_1e
 b_1e:a_W K t.d_1e pL' []
 F_1d:Fun K "word" "Turn.word" s_1d t.a_1d t.d_1d
 b_1d:a_W K t.d_1d pL' []
 F_12:Fun K "word" "Screw.word" s_12 t.a_12 t.d_12
 b_12:a_W K t.d_12 pL' []
 F_t:Fun K "word" "Mirror.word" s_t t.a_t t.d_t
 b_t:a_W K t.d_t pL' []
 F_14:Fun K "word" "Slide.word" s_14 t.a_14 t.d_14
 b_14:a_W K t.d_14 pL' []
 F_11:Fun K "word" "Point.word" s_11 t.a_11 t.d_11
 b_11:a_W K t.d_11 pL' []
 F_15:Fun K "word" "Twist.word" s_15 t.a_15 t.d_15
 b_15:a_W K t.d_15 pL' []
 F_o:Fun K "word" "Endless.word" s_o t.a_o t.d_o
 b_o:a_W K t.d_o pL' []
 F_1i:Fun K "kind_of" "kind_of" s_1i t.a_1i t.d_1i
 m_1i:mg "kind_of" = some (.ref t.a_1i)
 b_1i:a_W K t.d_1i ["one"] []
 F_r:Fun K "unmirrored" "unmirrored" s_r t.a_r t.d_r
 m_r:mg "unmirrored" = some (.ref t.a_r)
 b_r:a_W K t.d_r pE' []
 F_1b:Fun K "mirrored" "mirrored" s_1b t.a_1b t.d_1b
 m_1b:mg "mirrored" = some (.ref t.a_1b)
 b_1b:a_W K t.d_1b pE' []
 F_3:Fun K "_law_cell_at" "_law_cell_at" s_3 t.a_3 t.d_3
 m_3:mg "_law_cell_at" = some (.ref t.a_3)
 b_3:a_W K t.d_3 pn' []
 F_q:Fun K "_law_shared" "_law_shared" s_q t.a_q t.d_q
 m_q:mg "_law_shared" = some (.ref t.a_q)
 b_q:a_W K t.d_q pk' []
 F_k:Fun K "_law_place" "_law_place" s_k t.a_k t.d_k
 m_k:mg "_law_place" = some (.ref t.a_k)
 b_k:a_W K t.d_k ph' []
 F_b:Fun K "_law_digits_of" "_law_digits_of" s_b t.a_b t.d_b
 m_b:mg "_law_digits_of" = some (.ref t.a_b)
 b_b:a_W K t.d_b pc' []
 F_8:Fun K "_law_first" "_law_first" s_8 t.a_8 t.d_8
 m_8:mg "_law_first" = some (.ref t.a_8)
 b_8:a_W K t.d_8 pJ' []
 F_c:Fun K "_law_exchange" "_law_exchange" s_c t.a_c t.d_c
 m_c:mg "_law_exchange" = some (.ref t.a_c)
 b_c:a_W K t.d_c pu' []
 F_n:Fun K "_law_added" "_law_added" s_n t.a_n t.d_n
 m_n:mg "_law_added" = some (.ref t.a_n)
 b_n:a_W K t.d_n pi' []
 F_1a:Fun K "_law_led" "_law_led" s_1a t.a_1a t.d_1a
 m_1a:mg "_law_led" = some (.ref t.a_1a)
 b_1a:a_W K t.d_1a pe' []
 F_e:Fun K "_law_additions" "_law_additions" s_e t.a_e t.d_e
 m_e:mg "_law_additions" = some (.ref t.a_e)
 b_e:a_W K t.d_e pp' []
 F_w:Fun K "_law_rows" "_law_rows" s_w t.a_w t.d_w
 m_w:mg "_law_rows" = some (.ref t.a_w)
 b_w:a_W K t.d_w pd' []
 F_u:Fun K "_law_tops" "_law_tops" s_u t.a_u t.d_u
 m_u:mg "_law_tops" = some (.ref t.a_u)
 b_u:a_W K t.d_u pf' []
 F_h:Fun K "_law_behind" "_law_behind" s_h t.a_h t.d_h
 m_h:mg "_law_behind" = some (.ref t.a_h)
 b_h:a_W K t.d_h pa' []
 F_y:Fun K "_law_deed" "_law_deed" s_y t.a_y t.d_y
 m_y:mg "_law_deed" = some (.ref t.a_y)
 b_y:a_W K t.d_y pb' []
 F_1f:Fun K "_law_like" "_law_like" s_1f t.a_1f t.d_1f
 m_1f:mg "_law_like" = some (.ref t.a_1f)
 b_1f:a_W K t.d_1f pl' []
 F_v:Fun K "_law_rests" "_law_rests" s_v t.a_v t.d_v
 m_v:mg "_law_rests" = some (.ref t.a_v)
 b_v:a_W K t.d_v pw' []
 F_s:Fun K "_law_comes" "_law_comes" s_s t.a_s t.d_s
 m_s:mg "_law_comes" = some (.ref t.a_s)
 b_s:a_W K t.d_s pj' []
 F_j:Fun K "_law_middle" "_law_middle" s_j t.a_j t.d_j
 m_j:mg "_law_middle" = some (.ref t.a_j)
 b_j:a_W K t.d_j pw' []
 F_26:Fun K "law" "law" s_26 t.a_26 t.d_26
 m_26:mg "law" = some (.ref t.a_26)
 b_26:a_W K t.d_26 pF' []
 z_any:mg "any" = none
 z_sum:mg "sum" = none
 z_zip:mg "zip" = none
 z_enumerate:mg "enumerate" = none
 z_range:mg "range" = none
 z_len:mg "len" = none
 z_abs:mg "abs" = none
 z_isinstance:mg "isinstance" = none
 z_int:mg "int" = none
 z_bool:mg "bool" = none
 z_list:mg "list" = none
 z_tuple:mg "tuple" = none
 z_str:mg "str" = none
 z_sorted:mg "sorted" = none
 z_reversed:mg "reversed" = none
 m_2b:mg "CrystalError" = some (.ref t.a_2b)
 m_2a:mg "NoPlace" = some (.ref t.a_2a)
 m_28:mg "NoDeed" = some (.ref t.a_28)
 m_29:mg "NoNumber" = some (.ref t.a_29)
 m_27:mg "Kind" = some (.ref t.a_27)
 m_1r:mg "Still" = some (.ref t.a_1r)
 m_21:mg "Move" = some (.ref t.a_21)
 m_22:mg "Turn" = some (.ref t.a_22)
 m_1w:mg "Screw" = some (.ref t.a_1w)
 m_1q:mg "Mirror" = some (.ref t.a_1q)
 m_1t:mg "Slide" = some (.ref t.a_1t)
 m_1s:mg "Point" = some (.ref t.a_1s)
 m_1v:mg "Twist" = some (.ref t.a_1v)
 m_1g:mg "Endless" = some (.ref t.a_1g)
 m_z:mg "Steps" = some (.ref t.a_z)
 g_MOST_TIMES:∃ u,mg "MOST_TIMES" = some u/\RelV (.int 200) u
 g_LONGEST_SPAN:∃ u,mg "LONGEST_SPAN" = some u/\RelV (.int 6) u
 h_34:kitOne K (.type "int") (.type "int")=some true
 k_ib:kitOne K (.type "int") (.type "bool")=some false
 k_tt:kitOne K (.type "tuple") (.type "tuple")=some true
 k_ss:kitOne K (.type "str") (.type "str")=some true
 x_2a:PySem.W.excIn K t.a_2a [.type "ValueError",.type "Exception",.type "BaseException",.type "object"] "ValueError.__new__" = true
 x_28:PySem.W.excIn K t.a_28 [.type "ValueError",.type "Exception",.type "BaseException",.type "object"] "ValueError.__new__" = true
 x_29:PySem.W.excIn K t.a_29 [.type "ValueError",.type "Exception",.type "BaseException",.type "object"] "ValueError.__new__" = true
 e_cg:PySem.W.specialIn K (.builtin "object.__class__") "__get__" = some (some (.builtin "getset_descriptor.__get__"))
 e_tk:PySem.W.takesIn K (.builtin "object.__class__")=some true
 cl_1r:L2.Cls K t.a_1r
 mk_1r:L2.Mk K t.a_1r t.a_0
 no_1r:findIn K (.ref t.a_1r) "one" = some none
 me_13:L2.Meth K t.a_1r "word" t.a_13
 h_3:L2.Meth K t.a_1r "at_rest" t.a_5
 ca_1r:findIn K (.ref t.a_1r) "__class__" = some (some (.builtin "object.__class__"))
 ob_1r:PySem.W.mroIn K t.a_1r (.type "object")=some true
 h_1c:kitOne K (.ref t.a_1r) (.ref t.a_27)=some true
 cl_21:L2.Cls K t.a_21
 mk_21:L2.Mk K t.a_21 t.a_0
 no_21:findIn K (.ref t.a_21) "one" = some none
 me_1e:L2.Meth K t.a_21 "word" t.a_1e
 h_a:L2.Meth K t.a_21 "at_rest" t.a_5
 ca_21:findIn K (.ref t.a_21) "__class__" = some (some (.builtin "object.__class__"))
 ob_21:PySem.W.mroIn K t.a_21 (.type "object")=some true
 h_1l:kitOne K (.ref t.a_21) (.ref t.a_27)=some true
 cl_22:L2.Cls K t.a_22
 mk_22:L2.Mk K t.a_22 t.a_0
 no_22:findIn K (.ref t.a_22) "one" = some none
 me_1d:L2.Meth K t.a_22 "word" t.a_1d
 h_b:L2.Meth K t.a_22 "at_rest" t.a_5
 ca_22:findIn K (.ref t.a_22) "__class__" = some (some (.builtin "object.__class__"))
 ob_22:PySem.W.mroIn K t.a_22 (.type "object")=some true
 h_1m:kitOne K (.ref t.a_22) (.ref t.a_27)=some true
 cl_1w:L2.Cls K t.a_1w
 mk_1w:L2.Mk K t.a_1w t.a_0
 no_1w:findIn K (.ref t.a_1w) "one" = some none
 me_12:L2.Meth K t.a_1w "word" t.a_12
 h_4:L2.Meth K t.a_1w "at_rest" t.a_5
 ca_1w:findIn K (.ref t.a_1w) "__class__" = some (some (.builtin "object.__class__"))
 ob_1w:PySem.W.mroIn K t.a_1w (.type "object")=some true
 h_1f:kitOne K (.ref t.a_1w) (.ref t.a_27)=some true
 cl_1q:L2.Cls K t.a_1q
 mk_1q:L2.Mk K t.a_1q t.a_0
 no_1q:findIn K (.ref t.a_1q) "one" = some none
 me_t:L2.Meth K t.a_1q "word" t.a_t
 h_1:L2.Meth K t.a_1q "at_rest" t.a_5
 ca_1q:findIn K (.ref t.a_1q) "__class__" = some (some (.builtin "object.__class__"))
 ob_1q:PySem.W.mroIn K t.a_1q (.type "object")=some true
 h_y:kitOne K (.ref t.a_1q) (.ref t.a_27)=some true
 cl_1t:L2.Cls K t.a_1t
 mk_1t:L2.Mk K t.a_1t t.a_0
 no_1t:findIn K (.ref t.a_1t) "one" = some none
 me_14:L2.Meth K t.a_1t "word" t.a_14
 h_5:L2.Meth K t.a_1t "at_rest" t.a_5
 ca_1t:findIn K (.ref t.a_1t) "__class__" = some (some (.builtin "object.__class__"))
 ob_1t:PySem.W.mroIn K t.a_1t (.type "object")=some true
 h_1g:kitOne K (.ref t.a_1t) (.ref t.a_27)=some true
 cl_1s:L2.Cls K t.a_1s
 mk_1s:L2.Mk K t.a_1s t.a_0
 no_1s:findIn K (.ref t.a_1s) "one" = some none
 me_11:L2.Meth K t.a_1s "word" t.a_11
 h_6:L2.Meth K t.a_1s "at_rest" t.a_5
 ca_1s:findIn K (.ref t.a_1s) "__class__" = some (some (.builtin "object.__class__"))
 ob_1s:PySem.W.mroIn K t.a_1s (.type "object")=some true
 h_1h:kitOne K (.ref t.a_1s) (.ref t.a_27)=some true
 cl_1v:L2.Cls K t.a_1v
 mk_1v:L2.Mk K t.a_1v t.a_0
 no_1v:findIn K (.ref t.a_1v) "one" = some none
 me_15:L2.Meth K t.a_1v "word" t.a_15
 h_7:L2.Meth K t.a_1v "at_rest" t.a_5
 ca_1v:findIn K (.ref t.a_1v) "__class__" = some (some (.builtin "object.__class__"))
 ob_1v:PySem.W.mroIn K t.a_1v (.type "object")=some true
 h_1i:kitOne K (.ref t.a_1v) (.ref t.a_27)=some true
 cl_1g:L2.Cls K t.a_1g
 mk_1g:L2.Mk K t.a_1g t.a_0
 no_1g:findIn K (.ref t.a_1g) "one" = some none
 me_o:L2.Meth K t.a_1g "word" t.a_o
 h_0:L2.Meth K t.a_1g "at_rest" t.a_5
 h_12:L2.Meth K t.a_1r "fold" t.a_a
 h_k:L2.Meth K t.a_1r "order" t.a_6
 h_l:L2.Meth K t.a_1r "slide" t.a_4
 h_1j:L2.Meth K t.a_21 "fold" t.a_a
 h_13:L2.Meth K t.a_21 "order" t.a_6
 h_14:L2.Meth K t.a_21 "slide" t.a_4
 h_1k:L2.Meth K t.a_22 "fold" t.a_a
 h_15:L2.Meth K t.a_22 "order" t.a_6
 h_16:L2.Meth K t.a_22 "slide" t.a_4
 h_17:L2.Meth K t.a_1w "fold" t.a_a
 h_m:L2.Meth K t.a_1w "order" t.a_6
 h_n:L2.Meth K t.a_1w "slide" t.a_4
 h_o:L2.Meth K t.a_1q "fold" t.a_a
 h_d:L2.Meth K t.a_1q "order" t.a_6
 h_e:L2.Meth K t.a_1q "slide" t.a_4
 h_18:L2.Meth K t.a_1t "fold" t.a_a
 h_p:L2.Meth K t.a_1t "order" t.a_6
 h_q:L2.Meth K t.a_1t "slide" t.a_4
 h_19:L2.Meth K t.a_1s "fold" t.a_a
 h_r:L2.Meth K t.a_1s "order" t.a_6
 h_s:L2.Meth K t.a_1s "slide" t.a_4
 h_1a:L2.Meth K t.a_1v "fold" t.a_a
 h_t:L2.Meth K t.a_1v "order" t.a_6
 h_u:L2.Meth K t.a_1v "slide" t.a_4
 h_f:L2.Meth K t.a_1g "fold" t.a_a
 h_8:L2.Meth K t.a_1g "order" t.a_6
 h_9:L2.Meth K t.a_1g "slide" t.a_4
 ca_1g:findIn K (.ref t.a_1g) "__class__" = some (some (.builtin "object.__class__"))
 ob_1g:PySem.W.mroIn K t.a_1g (.type "object")=some true
 h_v:kitOne K (.ref t.a_1g) (.ref t.a_27)=some true
 cl_z:L2.Cls K t.a_z
 mk_z:L2.Mk K t.a_z t.a_d
 h_2s:findIn K (.ref t.a_z) "lines" = some none
 h_1t:findIn K (.ref t.a_z) "columns" = some none
 me_m:L2.Meth K t.a_z "take" t.a_m
 me_2:L2.Meth K t.a_z "rising" t.a_2
 me_f:L2.Meth K t.a_z "gather" t.a_f
 me_9:L2.Meth K t.a_z "set_lead" t.a_9
 tb_2:L2.tabOk K t.a_2=true
 tb_24:L2.tabOk K t.a_24=true
 nn:([t.a_1r,t.a_21,t.a_22,t.a_1w,t.a_1q,t.a_1t,t.a_1s,t.a_1v,t.a_1g]:List Addr).Nodup
 h_35:(L2.tabP K t.a_2 == L2.tabP K t.a_24)=false
 bl:∀ (s:Shared) (u:Value),BindsTo s t.d_26 ⟨[u],[]⟩ [("_law_script",u)]
local macro_rules | `(tactic| walk_at "r")=>`(tactic| simp only [tSeq,tAsg,a_M,tVar,tC,tOp,r_K,s_N,s_O,tUn,h_x,tB,tIfS,tIf,tAnd,tOr,tNot,r_f,tOrV,r_g,tRet,r_h,i_o,e_o,b_D,tNil,tCB,tTup,tLst,tPar,e_P,tBM,tSl,i_v,e_Z,List.getElem?_cons_zero,List.getElem?_cons_succ,Option.some.injEq,exists_eq_left',exists_eq_left,List.set_cons_zero,List.set_cons_succ,List.cons.injEq,V.int.injEq,V.bl.injEq,V.ref.injEq,and_true,true_and,List.append_nil,ne_eq,exists_and_left,and_assoc,↓reduceIte,Bool.not_true,Bool.not_false,Bool.false_eq_true])
noncomputable def gcdI (a b:Int):Int:=(Int.gcd a b:Int)
noncomputable def absI (u:Int):Int:=if u < 0 then -u else u
noncomputable def gl (u:Int) (ns:List Int):Int:=ns.foldl gcdI (absI u)
theorem j_V (u:Int):0<=absI u:=by unfold absI; split <;> omega
theorem o_E {d u:Int}:d∣absI u ↔ d∣u:=by
 unfold absI;split
 ·exact Int.dvd_neg
 ·exact Iff.rfl
theorem i_E {d:Int}:∀ (ns:List Int) (c:Int),d∣ns.foldl gcdI c ↔ d∣c/\∀ t∈ns,d∣t
 | [],c=>by simp
 | t :: r,c=>by
  rw [List.foldl_cons,i_E r];unfold gcdI;rw [Int.dvd_coe_gcd_iff];constructor
  ·rintro ⟨⟨h1,h2⟩,h3⟩;refine ⟨h1,λ x hx=>?_⟩;rcases List.mem_cons.mp hx with e | e
   ·rw [e]; exact h2
   ·exact h3 x e
  ·rintro ⟨h1,h2⟩;exact ⟨⟨h1,h2 t zU⟩,λ x hx=>h2 x (zN _ hx)⟩
theorem e_z {d u:Int} {ns:List Int}:d∣gl u ns ↔ d∣u/\∀ t∈ns,d∣t:=by
 unfold gl;rw [i_E,o_E]
theorem g_a:∀ (ns:List Int) (c:Int),0<=c->0<=ns.foldl gcdI c
 | [],_,h=>h
 | t :: r,c,_=>g_a r _ (Int.natCast_nonneg _)
theorem d_P (u:Int) (ns:List Int):0<=gl u ns:=g_a ns _ (j_V u)
theorem gl_u (u:Int) (ns:List Int):gl u ns∣u:=(e_z.mp (Int.dvd_refl _)).1
theorem k_R {u t:Int} {ns:List Int} (h:t∈ns):gl u ns∣t:=(e_z.mp (Int.dvd_refl _)).2 t h
theorem k_S {u:Int} (ns:List Int) (h:u≠0):0 < gl u ns:=by
 have:=d_P u ns;rcases Int.lt_or_eq_of_le this with q | q
 ·exact q
 ·obtain ⟨k,e⟩:=gl_u u ns;rw [← q,Int.zero_mul] at e;exact yJ e h
theorem o_F {u v:Int} {ns ms:List Int} (h:∀ d:Int,(d∣u/\∀ t∈ns,d∣t) ↔ (d∣v/\∀ t∈ms,d∣t)):gl u ns=gl v ms :=
 Int.dvd_antisymm (d_P _ _) (d_P _ _) (e_z.mpr ((h _).mp (e_z.mp (Int.dvd_refl _)))) (e_z.mpr ((h _).mpr (e_z.mp (Int.dvd_refl _))))
theorem q_D (u:Int) (ns:List Int) (t:Int):gl u (ns++[t])=gcdI (gl u ns) t:=by unfold gl; rw [List.foldl_append]; rfl
noncomputable def cs (u:Int) (ns:List Int):Int:=if u < 0 then -(gl u ns) else gl u ns
theorem g_K {u:Int} (ns:List Int) (h:u≠0):cs u ns≠0:=by
 have:=k_S ns h;unfold cs;split <;> omega
theorem e_T {u x:Int} {ns:List Int} (h:gl u ns∣x):cs u ns∣x:=by
 unfold cs;split
 ·exact Int.neg_dvd.mpr h
 ·exact h
theorem d_E {c x:Int} (hc:c≠0) (h:c∣x):x.fdiv c*c=x:=by
 obtain ⟨k,e⟩:=h;subst e;rw [Int.mul_comm c k,Int.mul_fdiv_cancel _ hc]
theorem e_r {u:Int} (ns:List Int) (h:u≠0):0 < u.fdiv (cs u ns):=by
 have e:=d_E (g_K ns h) (e_T (gl_u u ns));have g:=k_S ns h;rcases Int.lt_trichotomy (u.fdiv (cs u ns)) 0 with q | q | q
 ·exfalso;unfold cs at e q;split at e
  ·rename_i hu;rw [if_pos hu] at q;have:=Int.mul_nonneg_of_nonpos_of_nonpos (Int.le_of_lt q) (show -(gl u ns)<=0 by omega);omega
  ·rename_i hu;rw [if_neg hu] at q;have:=Int.mul_neg_of_neg_of_pos q g;omega
 ·rw [q,Int.zero_mul] at e;exact yJ e.symm h
 ·exact q
theorem s_S {u t:Int} {ns:List Int} (h:u≠0) (ht:t∈ns):t*u.fdiv (cs u ns)=t.fdiv (cs u ns)*u:=by
 have e1:=d_E (g_K ns h) (e_T (gl_u u ns));have e2:=d_E (g_K ns h) (e_T (k_R (u:=u) ht));generalize u.fdiv (cs u ns)=a at *
 generalize t.fdiv (cs u ns)=b at *;generalize cs u ns=c at *
 rw [← e2,← e1,Int.mul_assoc,Int.mul_comm c a]
theorem j_l {u:Int} {ns:List Int} (h:u≠0):gl (u.fdiv (cs u ns)) (ns.map λ t=>t.fdiv (cs u ns))=1:=by
 have hc:=g_K ns h;have e1:=d_E hc (e_T (gl_u u ns));have n:=d_P (u.fdiv (cs u ns)) (ns.map λ t=>t.fdiv (cs u ns));have d:=e_z.mp (Int.dvd_refl (gl (u.fdiv (cs u ns)) (ns.map λ t=>t.fdiv (cs u ns))));generalize gl (u.fdiv (cs u ns)) (ns.map λ t=>t.fdiv (cs u ns))=g at *
 have key:g*cs u ns∣gl u ns:=by
  refine e_z.mpr ⟨?_,λ t ht=>?_⟩
  ·have:=Int.mul_dvd_mul d.1 (Int.dvd_refl (cs u ns));rw [e1] at this;exact this
  ·have:=Int.mul_dvd_mul (d.2 _ (List.mem_map.mpr ⟨t,ht,rfl⟩)) (Int.dvd_refl (cs u ns));rw [d_E hc (e_T (k_R (u:=u) ht))] at this;exact this
 have key2:g*cs u ns∣1*cs u ns:=by
  rw [Int.one_mul];unfold cs at key ⊢;split at key
  ·rename_i hu;rw [if_pos hu];exact Int.dvd_neg.mpr key
  ·rename_i hu;rw [if_neg hu];exact key
 have:g∣1:=Int.dvd_of_mul_dvd_mul_right hc key2;have:=Int.le_of_dvd (by decide) this;rcases (show g=0\/g=1 by omega) with q | q
 ·subst q;have z:=d.1;rw [Int.zero_dvd] at z;rw [z,Int.zero_mul] at e1;exact yJ e1.symm h
 ·exact q
theorem r_P {u:Int} {ns:List Int} (h:0 < u) (g:gl u ns=1):cs u ns=1:=by
 unfold cs;rw [if_neg (by omega),g]
theorem g_b {u:Int} {ns:List Int} (h:0 < u) (g:gl u ns=1):(ns.map λ t=>t.fdiv (cs u ns))=ns/\u.fdiv (cs u ns)=u:=by
 rw [r_P h g];refine ⟨?_,Int.fdiv_one u⟩;rw [show (λ t:Int=>t.fdiv 1)=id from funext λ t=>Int.fdiv_one t,List.map_id]
theorem i_F (g l:Int):Int.gcd l (Int.fmod g l)=Int.gcd g l:=by
 rw [Int.fmod_def,Int.gcd_sub_mul_left_right,Int.gcd_comm]
theorem o_G (a b:Int):Int.gcd (if a < 0 then -a else a) (if b < 0 then -b else b)=Int.gcd a b:=by
 split <;> split <;> simp
theorem l_G (a:Int):0<=(if a < 0 then -a else a):=by split <;> omega
theorem q_E {g l a b:Int} (h:Int.gcd g l=Int.gcd a b) (hg:0<=g) (z:l=0):g=gcdI a b:=by
 rw [z,Int.gcd_zero_right] at h;unfold gcdI;rw [← h];omega
noncomputable def o_H:Sp:=λ vs H Q _=>∃ a b,vs=[.int a,.int b]/\Q (.int (gcdI a b)) H
noncomputable abbrev sp_1j:Sp:=o_H
noncomputable def b_P (H:Hp) (p:Addr) (ns:List Int) (u:Int):Prop:=∃ q,H p=some (.tup [.ref q,.int u])/\H q=some (.tup (ns.map V.int))
theorem b_P.up {H H':Hp} {p:Addr} {ns:List Int} {u:Int} (h:b_P H p ns u) (s:Same H H'):b_P H' p ns u:=let ⟨q,h1,h2⟩:=h; ⟨q,s _ _ h1,s _ _ h2⟩
noncomputable def c_V (n:Int):Prop:=n.natAbs < 2 ^ 8990
theorem i_G {c:Int} (h:c_V c) (z:c≠0):c.natAbs.log2 < 9000:=zI ((Nat.log2_lt (by omega)).mpr h) (by decide)
theorem i_H {c u:Int} (h:c_V u) (z:u≠0) (d:c∣u):c_V c:=by
 have:=Int.natAbs_dvd_natAbs.mpr d;have:=Nat.le_of_dvd (by omega) this;unfold c_V at *
 omega
noncomputable def redT (u:Int) (ns:List Int):List Int:=ns.map λ t=>t.fdiv (cs u ns)
noncomputable def redU (u:Int) (ns:List Int):Int:=u.fdiv (cs u ns)
noncomputable def sp_19 (K:Frag) (C:Addr):Sp:=λ vs H Q E=>∃ (b:Bool) (a:Addr) (ns:List Int) (u:Int),vs=[.ref a,.int u]/\SqB b K H a (ns.map V.int)/\ns.length<=100/\c_V u /\
 ((u=0\/ns=[])->E (.ref C) none H)/\(u≠0->ns≠[]->∀ p H',Same H H'->b_P H' p (redT u ns) (redU u ns)->Q (.ref p) H')
theorem g_w {α:Type} {ns:List α} {i:Nat} {n:α} (h:ns[i]?=some n):ns.take (i+1)=ns.take i++[n]:=by
 rw [List.take_add_one,h];rfl
noncomputable def sp_1z (K:Frag):Sp:=λ vs H Q _=>∃ (b1 b2:Bool) (p q:Addr) (ms ns:List Int),vs=[.ref p,.ref q]/\SqB b1 K H p (ms.map V.int)/\SqB b2 K H q (ns.map V.int)/\ms.length=ns.length/\ms.length<=1000 /\
 (∀ (i:Nat) m n,ms[i]?=some m->ns[i]?=some n->IntMulOk m n)/\∀ H',Same H H'->Q (.int (dotI ms ns)) H'
noncomputable def sp_1h (K:Frag):Sp:=λ vs H Q _=>∃ (b1 b2:Bool) (a:Addr) (rows:LM) (w:Nat),vs=[.ref a]/\MatB b1 b2 K H a rows/\rows≠[]/\(∀ r∈rows,r.length=w)/\w<=1000/\rows.length<=1000 /\
 ∀ r H',H r=none->Same H H'->MatL H' r (h_I w rows)->Q (.ref r) H'
noncomputable def o_I (A B:LM):Prop:=∀ r∈A,∀ x∈r,∀ r'∈B,∀ y∈r',IntMulOk x y
noncomputable def sp_1y (K:Frag):Sp:=λ vs H Q _=>∃ (b1 b2 b3 b4:Bool) (a b:Addr) (A B:LM) (w:Nat),vs=[.ref a,.ref b]/\MatB b1 b2 K H a A/\MatB b3 b4 K H b B/\B≠[]/\(∀ r∈B,r.length=w)/\(∀ r∈A,r.length=B.length) /\
 w<=1000/\A.length<=1000/\B.length<=1000/\o_I A B/\∀ r H',H r=none->Same H H'->MatL H' r (mulM w A B)->Q (.ref r) H'
noncomputable def c_O (i k:Nat) (rows:LM):LM:=(rows.eraseIdx i).map λ r=>r.eraseIdx k
noncomputable def sg (k:Nat):Int:=if k % 2=0 then 1 else -1
noncomputable def altS (f:Nat->Int):Nat->Int
 | 0=>0
 | k+1=>altS f k+sg k*f k
noncomputable def detM:Nat->LM->Int
 | 0,_=>1
 | 1,rows=>(rows.getD 0 []).getD 0 0
 | n+2,rows=>altS (λ k=>(rows.getD 0 []).getD k 0*detM (n+1) (c_O 0 k rows)) (n+2)
noncomputable def Sq (n:Nat) (rows:LM):Prop:=rows.length=n/\∀ r∈rows,r.length=n
noncomputable def b_B (B:Nat) (rows:LM):Prop:=∀ r∈rows,∀ x∈r,x.natAbs < 2 ^ B
theorem q_F (k:Nat):-sg k=sg (k+1):=by
 unfold sg
 by_cases h:k % 2=0
 ·rw [if_pos h,if_neg (by omega)]
 ·rw [if_neg h,if_pos (by omega)];rfl
theorem o_J (k:Nat):(sg k).natAbs=1:=by unfold sg; split <;> rfl
theorem Sq.minor {n i k:Nat} {rows:LM} (h:Sq (n+1) rows) (hi:i < n+1) (hk:k < n+1):Sq n (c_O i k rows):=by
 refine ⟨?_,λ r hr=>?_⟩
 ·unfold c_O;rw [zqe,List.length_eraseIdx,h.1,if_pos hi];rfl
 ·obtain ⟨z,hz,rfl⟩:=List.mem_map.mp hr;have hl:=h.2 z (List.mem_of_mem_eraseIdx hz);rw [List.length_eraseIdx,hl,if_pos hk];rfl
theorem b_B.minor {B i k:Nat} {rows:LM} (h:b_B B rows):b_B B (c_O i k rows):=λ r hr x hx=>by
 obtain ⟨z,hz,rfl⟩:=List.mem_map.mp hr;exact h z (List.mem_of_mem_eraseIdx hz) x (List.mem_of_mem_eraseIdx hx)
theorem j_W {f:Nat->Int} {M:Nat}:∀ n:Nat,(∀ k < n,(f k).natAbs<=M)->(altS f n).natAbs<=n*M
 | 0,_=>by simp [altS]
 | n+1,h=>by
  have h1:=j_W n λ k hk=>h k (by omega);have h2:=h n (by omega);show (altS f n+sg n*f n).natAbs<=_;have h3:=Int.natAbs_add_le (altS f n) (sg n*f n);rw [yE,o_J,Nat.one_mul] at h3;rw [Nat.succ_mul];omega
theorem row0 {n:Nat} {rows:LM} (h:Sq (n+1) rows):rows[0]?=some (rows.getD 0 [])/\rows.getD 0 []∈rows:=by
 have hl:0 < rows.length:=by have:=h.1; omega
 have e:rows.getD 0 []=rows[0]:=by simp [hl]
 rw [e];exact ⟨by simp [hl],yA hl⟩
theorem l_H {B:Nat}:∀ (n:Nat) (rows:LM),1<=n->n<=4->Sq n rows->b_B B rows->(detM n rows).natAbs<=2 ^ (n*(B+2))
 | 0,_,h,_,_,_=>by omega
 | 1,rows,_,_,hs,hb=>by
  have hr:=row0 hs;have hl:0 < (rows.getD 0 []).length:=by rw [hs.2 _ hr.2]; decide
  have:=hb _ hr.2 _ (L2.getD_mem hl);show ((rows.getD 0 []).getD 0 0).natAbs<=_;have:2 ^ B<=2 ^ (1*(B+2)):=zM (by decide) (by omega);omega
 | n+2,rows,_,h4,hs,hb=>by
  have hr:=row0 hs;have key:∀ k < n+2,((rows.getD 0 []).getD k 0*detM (n+1) (c_O 0 k rows)).natAbs<=2 ^ B*2 ^ ((n+1)*(B+2)):=λ k hk=>by
   have hl:k < (rows.getD 0 []).length:=by rw [hs.2 _ hr.2]; exact hk
   have h1:=hb _ hr.2 _ (L2.getD_mem hl);have h2:=l_H (n+1) (c_O 0 k rows) (by omega) (by omega) (hs.minor (by omega) hk) hb.minor;rw [yE];exact Nat.mul_le_mul (Nat.le_of_lt h1) h2
  have:=j_W (n+2) key;have e:2 ^ ((n+2)*(B+2))=4*(2 ^ B*2 ^ ((n+1)*(B+2))):=by
   rw [← Nat.pow_add,show (4:Nat)=2 ^ 2 from rfl,← Nat.pow_add];congr 1;rw [Nat.add_mul,Nat.add_mul];omega
  show (altS _ (n+2)).natAbs<=_;rw [e];refine zS this (zK _ (by omega))
theorem b_G {x:Int} {B:Nat} (h:x.natAbs < 2 ^ B):Builtin.Int.intBits x<=B:=intBits_le_iff.mpr h
noncomputable def sp_1l (K:Frag):Sp:=λ vs H Q _=>∃ (b1 b2:Bool) (a:Addr) (rows:LM) (i k w:Nat),vs=[.ref a,.int i,.int k]/\MatB b1 b2 K H a rows/\(∀ r∈rows,r.length=w)/\k < w/\w<=1000/\rows.length<=1000 /\
 ∀ r H',H r=none->Same H H'->MatL H' r (c_O i k rows)->Q (.ref r) H'
noncomputable def sp_1 (K:Frag):Nat->Sp
 | 0=>λ _ _ _ _=>False
 | n+1=>λ vs H Q _=>∃ (b1 b2:Bool) (a:Addr) (rows:LM) (B:Nat),vs=[.ref a]/\MatB b1 b2 K H a rows/\Sq (n+1) rows/\n<=3/\b_B B rows/\B<=1000000/\∀ H',Same H H'->Q (.int (detM (n+1) rows)) H'
section
variable {g:TG} {tt:TOx} {fr:List (Str × Nat)} {σ:St} {a:Addr} {H:Hp} {Q:VK} {K:Frag}
theorem o_K {b:Bool} {l:Addr} {xs:List V} (P:Nat->List V->Hp->Prop) (ha:H a=none) (hS:SqB b K H l xs) (hz:xs.length<=1000) (h0:P 0 [] (upd H a (.lst [])))
  (hl:∀ i zs H1,P i zs H1->zs.length<=i) (mono:∀ i zs H1 H2,P i zs H1->f_L a H1 H2->P i zs H2)
  (he:∀ i x H1 zs,xs[i]?=some x->Same H H1->H1 a=some (.lst zs)->P i zs H1->∀ C:Option V->Hp->Prop,
   (∀ y H2,Same H1 H2->P (i+1) (zs++[y]) H2->C (some y) H2)->(∀ H2,Same H1 H2->P (i+1) zs H2->C none H2)->tt (some (.int i) :: some x :: c_q fr σ) H1 C)
  (hd:∀ H1 ys,Same H H1->H1 a=some (.lst ys)->P xs.length ys H1->Q (.ref a) H1) :
  c_D (Ite K b l) (gTup K 2 (c_e (a_M 0) (c_e (a_M 1) gNil))) tt 2 fr σ a H Q:=by
 refine h_G xs.length P ha hz h0 hl mono (λ i H1 hi s=>⟨xs,xs[i],hS.up s,by simp [hi]⟩) (λ H1 s=>⟨xs,hS.up s,rfl⟩) ?_ hd;intro i H1 zs hi s1 ez p os x H3 hos hy C hC1 hC2;obtain ⟨q,x,rfl,hp,rfl,hx⟩:=hy;refine ⟨q,[.int i,x],rfl,SqT.of a_G,rfl,_,[x],rfl,x,[],rfl,rfl,?_⟩;have sn:Same H1 (upd H1 q (.tup [.int i,x])):=Same.new hp
 match os,hos with
 | [o,o'],_ =>
  exact ⟨⟨[some (.int i),some x],rfl,rfl⟩,he i x _ zs (hx xs (hS.up s1)) (s1.trans sn) (sn _ _ ez) (mono _ _ _ _ p sn.x) C (λ y H2 s2 r=>hC1 y H2 (sn.trans s2) r) λ H2 s2 r=>hC2 H2 (sn.trans s2) r⟩
end
theorem SqB.cut {b:Bool} {K:Frag} {H:Hp} {p:Addr} {xs:List V}:SqB b K (upd H p (seqO b xs)) p xs:=by
 cases b
 ·exact SqB.lst a_G
 ·exact SqB.tup a_G
theorem k_T {α:Type} {rows:List α} {i0 t:Nat} {r:α} (e:rows[t]?=some r):(rows.take (t+1)).eraseIdx i0=if t=i0 then (rows.take t).eraseIdx i0 else (rows.take t).eraseIdx i0++[r]:=by
 have ht:t < rows.length:=(zqa e).1;have hl:(rows.take t).length=t:=by rw [List.length_take]; omega
 rw [List.take_add_one,e];show (rows.take t++[r]).eraseIdx i0=_
 by_cases h:t=i0
 ·rw [if_pos h,List.eraseIdx_append_of_length_le (by omega),hl,h,Nat.sub_self,List.eraseIdx_of_length_le (l:=rows.take i0) (by rw [List.length_take]; omega)];simp
 ·rw [if_neg h]
  by_cases h2:i0 < t
  ·rw [List.eraseIdx_append_of_lt_length (by omega)]
  ·rw [List.eraseIdx_append_of_length_le (by omega),hl,List.eraseIdx_of_length_le (l:=rows.take t) (by omega)];congr 1;rw [List.eraseIdx_of_length_le];simp;omega
theorem sq1 {rows:LM} (h:Sq 1 rows):∃ a,rows=[[a]]:=by
 obtain ⟨hl,hr⟩:=h
 match rows,hl with
 | [r],_ =>
  have:=hr r (by simp)
  match r,this with
  | [a],_=>exact ⟨a,rfl⟩
theorem len2 {r:List Int} (h:r.length=2):∃ a b,r=[a,b]:=by match r,h with | [a,b],_=>exact ⟨a,b,rfl⟩
theorem len3 {r:List Int} (h:r.length=3):∃ a b c,r=[a,b,c]:=by match r,h with | [a,b,c],_=>exact ⟨a,b,c,rfl⟩
theorem sq2 {rows:LM} (h:Sq 2 rows):∃ a b c d,rows=[[a,b],[c,d]]:=by
 obtain ⟨hl,hr⟩:=h
 match rows,hl with
 | [r,s],_ =>
  obtain ⟨a,b,rfl⟩:=len2 (hr r (by simp));obtain ⟨c,d,rfl⟩:=len2 (hr s (by simp));exact ⟨a,b,c,d,rfl⟩
theorem sq3 {rows:LM} (h:Sq 3 rows):∃ a b c d e f g i j,rows=[[a,b,c],[d,e,f],[g,i,j]]:=by
 obtain ⟨hl,hr⟩:=h
 match rows,hl with
 | [r,s,t],_ =>
  obtain ⟨a,b,c,rfl⟩:=len3 (hr r (by simp));obtain ⟨d,e,f,rfl⟩:=len3 (hr s (by simp));obtain ⟨g,i,j,rfl⟩:=len3 (hr t (by simp));exact ⟨a,b,c,d,e,f,g,i,j,rfl⟩
noncomputable def idM (d:Nat):LM:=(List.range d).map λ i=>(List.range d).map λ k=>if i=k then (1:Int) else 0
noncomputable def pw (d:Nat) (A:LM):Nat->LM
 | 0=>A
 | k+1=>mulM d (pw d A k) A
theorem Sq.mul {n:Nat} {A B:LM} (hA:Sq n A):Sq n (mulM n A B):=by
 refine ⟨by simp [mulM,hA.1],λ r hr=>?_⟩;obtain ⟨z,_,rfl⟩:=List.mem_map.mp hr;simp
theorem Sq.pw {d:Nat} {A:LM} (h:Sq d A):∀ k,Sq d (Cw.pw d A k)
 | 0=>h
 | k+1=>(Sq.pw h k).mul
theorem e_j {d:Nat}:Sq d (idM d):=⟨by simp [idM],λ r hr=>by
 obtain ⟨i,_,rfl⟩:=List.mem_map.mp hr;simp⟩
theorem mul2 (a b c d a' b' c' d':Int):mulM 2 [[a,b],[c,d]] [[a',b'],[c',d']]=[[a*a'+b*c',a*b'+b*d'],[c*a'+d*c',c*b'+d*d']]:=by simp [mulM,dotI,colI,List.range,List.range.loop]
theorem mul3 (a b c d e f g i j a' b' c' d' e' f' g' i' j':Int):mulM 3 [[a,b,c],[d,e,f],[g,i,j]] [[a',b',c'],[d',e',f'],[g',i',j']]=[[a*a'+(b*d'+c*g'),a*b'+(b*e'+c*i'),a*c'+(b*f'+c*j')],[d*a'+(e*d'+f*g'),d*b'+(e*e'+f*i'),d*c'+(e*f'+f*j')],[g*a'+(i*d'+j*g'),g*b'+(i*e'+j*i'),g*c'+(i*f'+j*j')]]:=by
 simp [mulM,dotI,colI,List.range,List.range.loop]
theorem mul_assoc {d:Nat} (hd:d=2\/d=3) {A B C:LM} (hA:Sq d A) (hB:Sq d B) (hC:Sq d C):mulM d (mulM d A B) C=mulM d A (mulM d B C):=by
 rcases hd with e | e <;> subst e
 ·obtain ⟨a,b,c,d,rfl⟩:=sq2 hA;obtain ⟨a',b',c',d',rfl⟩:=sq2 hB;obtain ⟨a2,b2,c2,d2,rfl⟩:=sq2 hC;simp only [mul2,List.cons.injEq,and_true];refine ⟨⟨?_,?_⟩,?_,?_⟩ <;> grind
 ·obtain ⟨a,b,c,d,e,f,g,i,j,rfl⟩:=sq3 hA;obtain ⟨a',b',c',d',e',f',g',i',j',rfl⟩:=sq3 hB;obtain ⟨a2,b2,c2,d2,e2,f2,g2,i2,j2,rfl⟩:=sq3 hC;simp only [mul3,List.cons.injEq,and_true];refine ⟨⟨?_,?_,?_⟩,⟨?_,?_,?_⟩,?_,?_,?_⟩ <;> grind
theorem id2:idM 2=[[1,0],[0,1]]:=by decide +kernel
theorem id3:idM 3=[[1,0,0],[0,1,0],[0,0,1]]:=by decide +kernel
theorem c_m {d:Nat} (hd:d=2\/d=3) {A:LM} (hA:Sq d A):mulM d (idM d) A=A/\mulM d A (idM d)=A:=by
 rcases hd with e | e <;> subst e
 ·obtain ⟨a,b,c,d,rfl⟩:=sq2 hA;rw [id2,mul2,mul2];simp
 ·obtain ⟨a,b,c,d,e,f,g,i,j,rfl⟩:=sq3 hA;rw [id3,mul3,mul3];simp
noncomputable def Conj (d:Nat) (A B:LM):Prop:=∃ P P',Sq d P/\Sq d P'/\mulM d P' P=idM d/\mulM d P P'=idM d/\B=mulM d (mulM d P A) P'
theorem Conj.sq {d:Nat} {A B:LM} (h:Conj d A B):Sq d B:=by
 obtain ⟨P,P',p1,p2,p3,p4,p5⟩:=h;rw [p5];exact p1.mul.mul
theorem Conj.pw {d:Nat} (hd:d=2\/d=3) {A:LM} (hA:Sq d A) {P P':LM} (p1:Sq d P) (p2:Sq d P') (p3:mulM d P' P=idM d):∀ k,Cw.pw d (mulM d (mulM d P A) P') k=mulM d (mulM d P (Cw.pw d A k)) P'
 | 0=>rfl
 | k+1=>by
  have hk:=Sq.pw hA k;show mulM d (Cw.pw d (mulM d (mulM d P A) P') k) (mulM d (mulM d P A) P')=mulM d (mulM d P (mulM d (Cw.pw d A k) A)) P';rw [Conj.pw hd hA p1 p2 p3 k];rw [mul_assoc hd p1.mul p2 (p1.mul.mul),← mul_assoc hd p2 p1.mul p2,← mul_assoc hd p2 p1 hA,p3,(c_m hd hA).1,← mul_assoc hd p1.mul hA p2,← mul_assoc hd p1 hk hA]
theorem m_P {d:Nat} (hd:d=2\/d=3) {P P':LM} (p1:Sq d P) (p2:Sq d P') (p3:mulM d P' P=idM d) (X:LM) (hX:Sq d X) (h:mulM d (mulM d P X) P'=idM d):X=idM d:=by
 have:mulM d (mulM d P' (mulM d (mulM d P X) P')) P=X:=by
  rw [← mul_assoc hd p2 p1.mul p2,← mul_assoc hd p2 p1 hX,p3,(c_m hd hX).1,mul_assoc hd hX p2 p1,p3,(c_m hd hX).2]
 rw [h,(c_m hd p2).2,p3] at this;exact this.symm
theorem Conj.same {d:Nat} (hd:d=2\/d=3) {A B:LM} (hA:Sq d A) (h:Conj d A B) (k:Nat):Cw.pw d B k=idM d ↔ Cw.pw d A k=idM d:=by
 obtain ⟨P,P',p1,p2,p3,p4,p5⟩:=h;rw [p5,Conj.pw hd hA p1 p2 p3 k];constructor
 ·exact m_P hd p1 p2 p3 _ (Sq.pw hA k)
 ·intro e;rw [e,(c_m hd p1).2,p4]
theorem g_U {B C:Nat}:∀ (ms ns:List Int),(∀ x∈ms,x.natAbs < 2 ^ B)->(∀ y∈ns,y.natAbs < 2 ^ C)->(dotI ms ns).natAbs<=ms.length*2 ^ (B+C)
 | [],ns,_,_=>by simp [dotI]
 | m :: ms,[],_,_=>by simp [dotI]
 | m :: ms,n :: ns,h1,h2=>by
  have ih:=g_U ms ns (λ x hx=>h1 x (zN _ hx)) (λ y hy=>h2 y (zN _ hy));have e:dotI (m :: ms) (n :: ns)=m*n+dotI ms ns:=by simp [dotI]
  have hm:=h1 m zU;have hn:=h2 n zU;have h3:(m*n).natAbs<=2 ^ (B+C):=by
   rw [yE,Nat.pow_add];exact Nat.mul_le_mul (Nat.le_of_lt hm) (Nat.le_of_lt hn)
  have h4:=Int.natAbs_add_le (m*n) (dotI ms ns);rw [e,List.length_cons,Nat.succ_mul];omega
theorem b_B.mulG {n B C:Nat} {A R:LM} (hA:b_B B A) (hR:b_B C R) (sA:Sq n A) (sR:Sq n R) (hn:n<=4):b_B (B+C+3) (mulM n A R):=λ r hr x hx=>by
 obtain ⟨ra,hra,rfl⟩:=List.mem_map.mp hr;obtain ⟨k,hk,rfl⟩:=List.mem_map.mp hx;have hk':=List.mem_range.mp hk;have:=g_U (B:=B) (C:=C) ra (colI k R) (hA ra hra) λ y hy=>by
  unfold colI at hy;obtain ⟨rb,hrb,rfl⟩:=List.mem_map.mp hy;exact hR rb hrb _ (L2.getD_mem (by rw [sR.2 rb hrb]; exact hk'))
 rw [sA.2 ra hra] at this;have e:2 ^ (B+C+3)=8*2 ^ (B+C):=by rw [Nat.pow_add]; omega
 have hp:=Nat.two_pow_pos (B+C);have:n*2 ^ (B+C)<=4*2 ^ (B+C):=zK _ hn;show (dotI ra (colI k R)).natAbs < _;omega
theorem b_B.pw {d B:Nat} (hd:d<=4) {A:LM} (hA:Sq d A) (hb:b_B B A):∀ k,b_B ((k+1)*(B+3)) (Cw.pw d A k)
 | 0=>λ r hr x hx=>zI (hb r hr x hx) (zM (by decide) (by omega))
 | k+1=>by
  have:=(b_B.pw hd hA hb k).mulG hb (Sq.pw hA k) hA hd;rw [show (k+1)*(B+3)+B+3=(k+1+1)*(B+3) by rw [Nat.succ_mul (k+1)]; omega] at this;exact this
theorem j_X {A R:LM} {B C:Nat} (hA:b_B B A) (hR:b_B C R) (h:B+C<=134217728):o_I A R:=λ r hr x hx r' hr' y hy=>mulOk_of_bits (b_G (hA r hr x hx)) (b_G (hR r' hr' y hy)) h
noncomputable def sp_7:Sp:=λ vs H Q _=>∃ n:Nat,vs=[.int n]/\n<=1000/\∀ r H',H r=none->Same H H'->MatL H' r (idM n)->Q (.ref r) H'
noncomputable def b_Z (K:Frag) (H:Hp) (p:Addr) (M:LM) (ts:List Int) (u:Int):Prop:=∃ pr pt,H p=some (.tup [.ref pr,.ref pt,.int u])/\MatB true true K H pr M/\H pt=some (.tup (ts.map V.int))
theorem b_Z.up {K:Frag} {H H':Hp} {p:Addr} {M:LM} {ts:List Int} {u:Int} (h:b_Z K H p M ts u) (s:Same H H'):b_Z K H' p M ts u:=let ⟨pr,pt,h1,h2,h3⟩:=h; ⟨pr,pt,s _ _ h1,h2.up s,s _ _ h3⟩
noncomputable def sp_1n (K:Frag):Sp:=λ vs H Q _=>∃ (b1 b2:Bool) (a p:Addr) (M:LM) (ts:List Int) (u:Int),vs=[.ref a,.ref p]/\MatB b1 b2 K H a M/\b_P H p ts u/\M.length<=100/\∀ q H',Same H H'->b_Z K H' q M ts u->Q (.ref q) H'
noncomputable def movT (M:LM) (ts:List Int) (u:Int) (ns:List Int) (v:Int):List Int:=List.zipWith (λ r t=>dotI r ns*u+t*v) M ts
noncomputable def c_a (B:Nat) (ns:List Int):Prop:=∀ x∈ns,x.natAbs < 2 ^ B
structure Fine (d:Nat) (M:LM) (ts:List Int) (u:Int):Prop where
 sq:Sq d M
 len:ts.length=d
 pos:0 < u
 bm:b_B 200000 M
 bt:c_a 200000 ts
 bu:u < 2 ^ 1500
noncomputable def sp_1x (K:Frag):Sp:=λ vs H Q _=>∃ (p q:Addr) (M:LM) (ts ns:List Int) (u v:Int) (d:Nat),vs=[.ref p,.ref q]/\b_Z K H p M ts u/\b_P H q ns v/\Fine d M ts u/\1<=d/\d<=4/\ns.length=d/\c_a 200000 ns/\0 < v/\v < 2 ^ 1500 /\
 ∀ r H',Same H H'->b_P H' r (redT (u*v) (movT M ts u ns v)) (redU (u*v) (movT M ts u ns v))->Q (.ref r) H'
noncomputable def sp_1o (K:Frag):Sp:=λ vs H Q _=>∃ (p q:Addr) (M N:LM) (ts ns:List Int) (u v:Int) (d:Nat),vs=[.ref p,.ref q]/\b_Z K H p M ts u/\b_Z K H q N ns v/\Fine d M ts u/\Fine d N ns v/\1<=d/\d<=4 /\
 ∀ r H',Same H H'->b_Z K H' r (mulM d N M) (redT (v*u) (movT N ns v ts u)) (redU (v*u) (movT N ns v ts u))->Q (.ref r) H'
theorem f_D {u:Int} (h1:0 < u) (h2:u < 2 ^ 1500):u.natAbs < 2 ^ 1500:=by
 have e:((2 ^ 1500:Nat):Int)=(2:Int) ^ 1500:=by decide +kernel
 omega
theorem j_Y {u:Int} {B:Nat} (h:u.natAbs < 2 ^ B) (hB:B<=8990):c_V u:=zI h (zM (by decide) hB)
theorem k_U {u v:Int} (h1:0 < u) (h2:u < 2 ^ 1500) (h3:0 < v) (h4:v < 2 ^ 1500):c_V (u*v)/\0 < u*v:=by
 refine ⟨j_Y (B:=1500+1500) ?_ (by decide),Int.mul_pos h1 h3⟩;rw [yE,Nat.pow_add];exact Nat.mul_lt_mul'' (f_D h1 h2) (f_D h3 h4)
theorem b_B.le {B C:Nat} {M:LM} (h:b_B B M) (hc:B<=C):b_B C M:=λ r hr x hx=>zI (h r hr x hx) (zM (by decide) hc)
noncomputable def h_L (d:Nat) (A:LM) (v:Int):Prop:=(v=0/\∀ j < 6,pw d A j≠idM d)\/∃ j:Nat,j < 6/\v=(j:Int)+1/\pw d A j=idM d/\∀ i < j,pw d A i≠idM d
noncomputable def sp_1m (K:Frag):Sp:=λ vs H Q _=>∃ (b1 b2:Bool) (a:Addr) (A:LM) (d B:Nat),vs=[.ref a]/\MatB b1 b2 K H a A/\Sq d A/\(d=2\/d=3)/\b_B B A/\B<=1000000/\∀ v H',Same H H'->h_L d A v->Q (.int v) H'
section
variable {P:Program} {w:World} {K:Frag} {mg:Str->Option Value} {base:Heap} {t:Adr}
theorem r_Q {a b:Int} {H:Hp} {Q:VK} {E:XK}:o_H [.int a,.int b] H Q E=Q (.int (gcdI a b)) H:=propext ⟨λ ⟨_,_,e,q⟩=>by cases e; exact q,λ q=>⟨_,_,rfl,q⟩⟩
theorem ok_1j (T:Txt K mg t):FnOk P w K mg base CX0 1 t.a_1j t.d_1j pA' sp_1j:=by
 refine T.F_1j.ok sc_1j (by walk_at "v") (λ cdv A outer s H vs Q E hr h=>?_)
 ·obtain ⟨a,b,rfl,k⟩:=h;refine ⟨_,(a_C (a_P (i:=2) sc_1j.nd rfl (Or.inl rfl) (a_Q e_n rfl T.z_abs (by decide +kernel) (a_A (pv 0) a_B)))
   (a_C (a_P (i:=3) sc_1j.nd rfl (Or.inl rfl) (a_Q e_n rfl T.z_abs (by decide +kernel) (a_A (pv 1) a_B)))
   (a_C (e_K zG (a_T d_T (pv 3) a_E (a_V _))
   (a_C (a_P (i:=4) sc_1j.nd rfl (Or.inl rfl) (a_L b_S (pv 2) (pv 3)))
   (a_C (a_P (i:=2) sc_1j.nd rfl (Or.inl rfl) (pv 3))
   (a_F (a_P (i:=3) sc_1j.nd rfl (Or.inl rfl) (pv 4))))))
   (a_F (a_N (pv 2)))))),?_⟩
  show tSeq _ _ _ [some (.int a),some (.int b),none,none,none] H;walk_at "r";refine ⟨λ m σ H1=>∃ g l r,σ=[some (.int a),some (.int b),some (.int g),some (.int l),r]/\H1=H/\0<=g/\0<=l/\Int.gcd g l=Int.gcd a b/\m=l.toNat,
   ⟨_,_,_,_,rfl,rfl,l_G a,l_G b,o_G a b,rfl⟩,?_⟩
  rintro m σ H1 ⟨g,l,r,rfl,rfl,hg,hl,e,rfl⟩;walk_at "r"
  by_cases z:l=0
  ·rw [zW z];refine iteF ?_;rw [q_E e hg z];exact k
  ·rw [zX z];refine iteT ⟨λ σ' H'=>σ'=[some (.int a),some (.int b),some (.int l),some (.int (g.fmod l)),some (.int (g.fmod l))]/\H'=H1,?_,z,rfl,rfl⟩;rintro σ' H' ⟨rfl,rfl⟩;have l1:=Int.fmod_lt_of_pos g (show 0 < l by omega);have l2:=Int.fmod_nonneg_of_pos g (show 0 < l by omega);exact ⟨(g.fmod l).toNat,by omega,_,_,_,rfl,rfl,hl,l2,by rw [i_F]; exact e,rfl⟩
theorem ok_19 (T:Txt K mg t):FnOk P w K mg base (CX1 P w) 2 t.a_19 t.d_19 py' (sp_19 K t.a_2a):=by
 have G_1j:=@ok_1j P w K mg base t T;refine T.F_19.okX sc_19 (λ vs H Q E h=>?_) (λ cdv A outer s H vs Q E hr h=>?_)
 ·obtain ⟨b,a,ns,u,rfl,_⟩:=h;rfl
 ·obtain ⟨b,a,ns,u,rfl,hS,hl,su,hE,hQ⟩:=h;refine ⟨_,(a_C (b_R (a_T c_g (pv 1) a_E (a_V _))
   (a_F (d_S rfl c_M rfl T.m_2a T.x_2a PySem.F.excBase_ValueError (a_A c_z a_B)))
   b_z)
   (a_C (b_R (a_T c_g (a_Q a_U rfl T.z_len (by decide +kernel) (a_A (pv 0) a_B)) a_E (a_V _))
   (a_F (d_S rfl c_M rfl T.m_2a T.x_2a PySem.F.excBase_ValueError (a_A c_z a_B)))
   b_z)
   (a_C (a_P (i:=2) sc_19.nd rfl (Or.inr rfl) (a_Q e_n rfl T.z_abs (by decide +kernel) (a_A (pv 1) a_B)))
   (a_C (PS.nox (c_A zG rfl (b_M (pv 0)) (b_E (i:=3) sc_19.nd rfl (Or.inl rfl))
   (a_F (a_P (i:=2) sc_19.nd rfl (Or.inr rfl) (a_I G_1j hr.mo rfl T.m_1j T.F_1j.kp T.b_1j .nil a_O (a_A (pv 2) (a_A (pv 3) a_B)))))))
   (a_C (b_R (a_T i_p (pv 1) a_E (a_V _))
   (a_F (a_P (i:=2) sc_19.nd rfl (Or.inr rfl) (e_D d_L (pv 2))))
   b_z)
   (a_F (a_N (c_T (a_A (b_T d_C rfl T.z_tuple (by decide +kernel) (a_A (a_X (xs:=["top"]) (fr:=[("common",2)]) (g:=(a_M 0)) (tt:=(tEl (tOp (rI f_K λ i j=>.int (i.fdiv j)) (tVar 0) (tVar 1)))) (a_R (sc:=a_D s_19) (N:=N_19) rfl rfl (by decide +kernel)) rfl (b_M (pv 0)) (λ _ _ _ hE1=>(a_Y (N:=["top","common"]) (i:=0) hE1 rfl (by decide +kernel))) (λ _ _ _ hE1=>(b_J (a_L b_N (pv 0) (pv 1))))) a_B)) (a_A (a_L b_N (pv 1) (pv 2)) a_B)))))))))),?_⟩
  show tSeq _ _ _ [some (.ref a),some (.int u),none,none] H;refine st λ N1 e1=>?_;simp only [e_i];walk_at "r";refine ite2 (λ z=>⟨by decide,hE (.inl (zY z))⟩) (λ z=>?_);have hu:u≠0:=λ q=>z (zW q);subst e1;refine st λ N1 e1=>?_;simp only [e_i];walk_at "r";refine c_s hS ?_;walk_at "r";refine ite2 (λ z=>⟨by decide,hE (.inr ?_)⟩) (λ z=>?_)
  ·have:=zY z;exact zO (by omega)
  have hne:ns≠[]:=λ q=>z (zW (by rw [q]; rfl));subst e1;refine st λ N1 e1=>?_;walk_at "r";subst e1;refine st λ N1 e1=>c_C λ B eB=>?_;simp only [iSeq];walk_at "r";refine ⟨b,⟨_,hS⟩,?_⟩;refine g_u (g:=a_M 3) (tb:=B) (λ i σ H1=>∃ v3,σ=[some (.ref a),some (.int u),some (.int (gl u (ns.take i))),v3]/\H1=H) ⟨_,rfl,rfl⟩ (λ i σ H1 _ ⟨_,_,e⟩=>e ▸ hS) ?_ ?_
  ·rintro i x σ H1 hi ⟨v3,rfl,rfl⟩;obtain ⟨n,hn,rfl⟩:=c_c hi;subst eB;walk_at "r";simp only [r_Q];rw [g_w hn,q_D]
   first | trivial | exact ⟨_,rfl,rfl⟩
  ·rintro σ H1 ⟨v3,rfl,rfl⟩;rw [zqe,List.take_length];subst e1;refine st λ N2 e2=>?_;have key2:N2 [some (.ref a),some (.int u),some (.int (cs u ns)),v3] H1:=by
    subst e2;have sc1:c_V (cs u ns):=i_H su hu (e_T (gl_u u ns));have hd:∀ x,f_K x (cs u ns):=λ x=>⟨g_K ns hu,i_G sc1 (g_K ns hu)⟩;walk_at "r";refine a_S λ B eB=>?_;simp only [iSeq];walk_at "r";refine ⟨b,⟨_,hS⟩,λ a1 ha1=>c_h (λ j y _=>∃ n,ns[j]?=some n/\y=.int (n.fdiv (cs u ns))) ha1 hS (by rw [zqe]; omega) (λ _ _ _ _ r _=>r) ?_ ?_⟩
    ·intro i x H2 zs hx _ _ Q' hQ';obtain ⟨n,hn,rfl⟩:=c_c hx;subst eB;show tOp _ _ _ [some (.int n),some (.int (cs u ns))] H2 Q';walk_at "r";exact ⟨hd n,hQ' _ H2 (Same.refl _) ⟨n,hn,rfl⟩⟩
    ·intro H2 ys s1 e1 hly hr2;have ey:ys=(redT u ns).map V.int:=by
      unfold redT;rw [List.map_map];exact b_K (by simpa using hly) hr2
     subst ey;refine ⟨a1,_,rfl,.inl ⟨SqL.of e1,λ l hl1=>?_⟩⟩;walk_at "r";refine ⟨hd u,(by show 2<=sizeLine; decide),λ p hp=>hQ hu hne p _ ((s1.trans (Same.new hl1)).trans (Same.new hp)) ⟨l,a_G,?_⟩⟩;rw [a_H (a_J a_G hp)];exact a_G
   walk_at "r";unfold cs at key2;refine ite2 (λ z=>?_) (λ z=>?_)
   ·rw [if_pos (zY z)] at key2;exact key2
   ·rw [if_neg (λ q=>z (zW q))] at key2;exact key2
theorem f_E {H:Hp} {p:Addr} {ns:List Int} {u:Int} {Q:VK} (h:b_P H p ns u) (q:∀ x,H x=some (.tup (ns.map V.int))->Q (.ref x) H):rIxB K (.ref p) (.int 0) H Q:=let ⟨x,h1,h2⟩:=h; ⟨true,p,_,_,_,rfl,rfl,SqB.tup h1,rfl,q x h2⟩
theorem f_F {H:Hp} {p:Addr} {ns:List Int} {u:Int} {Q:VK} (h:b_P H p ns u) (q:Q (.int u) H):rIxB K (.ref p) (.int 1) H Q:=let ⟨x,h1,h2⟩:=h; ⟨true,p,_,_,_,rfl,rfl,SqB.tup h1,rfl,q⟩
theorem ok_1z (T:Txt K mg t):FnOk P w K mg base CX0 1 t.a_1z t.d_1z pA' (sp_1z K):=by
 refine T.F_1z.ok sc_1z (by walk_at "v") (λ cdv A outer s H vs Q E hr h=>?_)
 ·obtain ⟨b1,b2,p,q,ms,ns,rfl,h1,h2,hl,hz,hm,hQ⟩:=h;refine ⟨_,(a_F (a_N (a_Q (e_R rfl) rfl T.z_sum (by decide +kernel) (a_A (a_X (xs:=["left","right"]) (fr:=[]) (g:=(gTup K 2 (c_e (a_M 0) (c_e (a_M 1) gNil)))) (tt:=(tEl (tOp (rI (λ i j=>IntMulOk i j) λ i j=>.int (i*j)) (tVar 0) (tVar 1)))) (a_R (sc:=a_D s_1z) (N:=N_1z) rfl rfl (by decide +kernel)) rfl (g_s rfl T.z_zip (a_A (pv 0) (a_A (pv 1) a_B))) (λ _ _ _ hE1=>(c_L rfl (a_Z (a_Y (N:=["left","right"]) (i:=0) hE1 rfl (by decide +kernel)) (a_Z (a_Y (N:=["left","right"]) (i:=1) hE1 rfl (by decide +kernel)) c_x)))) (λ _ _ _ hE1=>(b_J (a_L b_C (pv 0) (pv 1))))) a_B)))),?_⟩;show tRet _ _ [some (.ref p),some (.ref q)] H;walk_at "r";refine a_S λ B eB=>?_;simp only [iZip];walk_at "r";refine ⟨b1,⟨_,h1⟩,b2,⟨_,h2⟩,λ a ha=>?_⟩;refine g_t (λ j y _=>∃ m n,ms[j]?=some m/\ns[j]?=some n/\y=.int (m*n)) ha h1 h2 (by simpa using hl) (by simpa using hz) (λ _ _ _ _ r _=>r) ?_ ?_
  ·intro i x y H1 zs ex ey s1 ez Q' hQ';obtain ⟨m,em,rfl⟩:=c_c ex;obtain ⟨n,en,rfl⟩:=c_c ey;subst eB;show tOp _ _ _ [some (.int m),some (.int n)] H1 Q';walk_at "r";exact ⟨hm i m n em en,hQ' _ _ (Same.refl _) ⟨m,n,em,en,rfl⟩⟩
  ·intro H1 zs s1 ez hlz hr';have ey:zs=(List.zipWith (·*·) ms ns).map V.int:=by
    refine b_K (by simp at hlz ⊢; omega) λ j y e=>?_;obtain ⟨m,n,em,en,rfl⟩:=hr' j y e;exact ⟨m*n,by rw [List.getElem?_zipWith,em,en],rfl⟩
   subst ey;exact ⟨_,rfl,_,SqL.of ez,hQ H1 s1⟩
theorem ok_1h (T:Txt K mg t):FnOk P w K mg base CX0 1 t.a_1h t.d_1h pK' (sp_1h K):=by
 refine T.F_1h.ok sc_1h (by walk_at "v") (λ cdv A outer s H vs Q E hr h=>?_)
 ·obtain ⟨b1,b2,a,rows,w,rfl,hM,hne,hw,hw1,hl1,hQ⟩:=h;refine ⟨_,(a_F (a_N (a_X (xs:=["k"]) (fr:=[("rows",0)]) (g:=(a_M 0)) (tt:=(tEl (b_X (iSeq K (tVar 1)) (a_M 0) (tEl (tOp (rIxB K) (tVar 0) (tVar 1))) 1 [("k",0)]))) (a_R (sc:=a_D s_1h) (N:=N_1h) rfl rfl (by decide +kernel)) rfl (b_I rfl T.z_range (a_A (a_Q a_U rfl T.z_len (by decide +kernel) (a_A (px (pv 0) a_E) a_B)) a_B)) (λ _ _ _ hE1=>(d_Z (N:=["k","rows"]) (i:=0) hE1 rfl (by decide +kernel) rfl)) (λ _ _ _ hE1=>(b_J (a_X (xs:=["row"]) (fr:=[("k",0)]) (g:=(a_M 0)) (tt:=(tEl (tOp (rIxB K) (tVar 0) (tVar 1)))) (a_R (N:=["k","rows"]) hE1 rfl (by decide +kernel)) rfl (b_M (pv 1)) (λ _ _ _ hE2=>(a_Y (N:=["row","k"]) (i:=0) hE2 rfl (by decide +kernel))) (λ _ _ _ hE2=>(b_J (px (pv 0) (pv 1)))))))))),?_⟩;show tRet _ _ [some (.ref a)] H;walk_at "r";refine a_S λ B eB=>?_;simp only [c_w];walk_at "r";obtain ⟨r0,e0⟩:∃ r0,rows[0]?=some r0:=by cases rows with | nil=>exact yJ rfl hne | cons r _=>exact ⟨r,rfl⟩
  have w0:r0.length=w:=hw r0 (zqb e0);obtain ⟨ps,p,k1,k2,k3,k4⟩:=hM.row e0;refine ⟨b1,a,_,0,_,rfl,rfl,k1,b_Y k2 rfl,b2,p,_,rfl,k4,?_⟩;rw [zqe,w0];refine ⟨_,rfl,by omega,by omega,λ a1 ha1=>?_⟩;rw [zR];refine c_l (RowR a1 λ k=>colI k rows) ha1 hw1 (RowR.mono (a:=a1)) ?_ ?_
  ·intro i H1 zs hi s1 ez Q' hQ';subst eB;show b_X _ _ _ _ _ [some (.int (0+(i:Int))),some (.ref a)] H1 Q';refine a_S λ B eB=>?_;simp only [iSeq];walk_at "r";obtain ⟨xs,x1,x2,x3⟩:=(hM.up s1).walk;refine ⟨b1,⟨_,x1⟩,λ a2 ha2=>?_⟩;refine c_h (λ j y _=>∃ r,rows[j]?=some r/\y=.int (r.getD i 0)) ha2 x1 (by omega) (λ _ _ _ _ r _=>r) ?_ ?_
   ·intro j x H2 zs2 ex s2 ez2 Q2 hQ2;obtain ⟨p,r,rfl,er,hp⟩:=x3 j x ex;subst eB;show tOp _ _ _ [some (.ref p),some (.int (0+(i:Int)))] H2 Q2;walk_at "r";have hri:i < r.length:=by rw [hw r (zqb er)]; exact hi
    exact ⟨b2,p,_,_,_,rfl,rfl,hp.up s2,b_Y (c_N (getD_at hri)) (by omega),hQ2 _ _ (Same.refl _) ⟨r,er,rfl⟩⟩
   ·intro H2 ys s2 e2 hly hr2;have ey:ys=(colI i rows).map V.int:=by
     refine b_K (by simp [colI]; omega) λ j y e=>?_;obtain ⟨r,er,rfl⟩:=hr2 j y e;exact ⟨r.getD i 0,by unfold colI; rw [zH,er]; rfl,rfl⟩
    subst ey;exact hQ' _ _ s2 ⟨a2,rfl,Ne.symm (a_J ez ha2),e2⟩
  ·intro H1 ys s1 e1 hly hr1;have:=MatL.of e1 hr1;rw [hly] at this;exact hQ a1 H1 ha1 s1 this
theorem ok_1y (T:Txt K mg t):FnOk P w K mg base CX0 2 t.a_1y t.d_1y pA' (sp_1y K):=by
 have G_1h:=@ok_1h P w K mg base t T;have G_1z:=@ok_1z P w K mg base t T;refine T.F_1y.ok sc_1y (by walk_at "v") (λ cdv A outer s H vs Q E hr h=>?_)
 ·obtain ⟨b1,b2,b3,b4,a,b,MA,MB,w,rfl,hA,hB,hne,hw,hwA,hw1,hlA,hlB,hmul,hQ⟩:=h;refine ⟨_,(a_C (a_P (i:=2) sc_1y.nd rfl (Or.inr rfl) (a_I G_1h hr.mo rfl T.m_1h T.F_1h.kp T.b_1h .nil a_O (a_A (pv 1) a_B)))
   (a_F (a_N (a_X (xs:=["row"]) (fr:=[("columns",2)]) (g:=(a_M 0)) (tt:=(tEl (b_X (iSeq K (tVar 1)) (a_M 0) (tEl (e_o (sp_1z K) [] E0 (b_D (tVar 1) (b_D (tVar 0) tNil)))) 1 [("row",0)]))) (a_R (sc:=a_D s_1y) (N:=N_1y) rfl rfl (by decide +kernel)) rfl (b_M (pv 0)) (λ _ _ _ hE1=>(d_Z (N:=["row","columns"]) (i:=0) hE1 rfl (by decide +kernel) rfl)) (λ _ _ _ hE1=>(b_J (a_X (xs:=["column"]) (fr:=[("row",0)]) (g:=(a_M 0)) (tt:=(tEl (e_o (sp_1z K) [] E0 (b_D (tVar 1) (b_D (tVar 0) tNil))))) (a_R (N:=["row","columns"]) hE1 rfl (by decide +kernel)) rfl (b_M (pv 1)) (λ _ _ _ hE2=>(a_Y (N:=["column","row"]) (i:=0) hE2 rfl (by decide +kernel))) (λ _ _ _ hE2=>(b_J (a_I G_1z hr.mo rfl T.m_1z T.F_1z.kp T.b_1z .nil a_O (a_A (pv 1) (a_A (pv 0) a_B)))))))))))),?_⟩
  show tSeq _ _ _ [some (.ref a),some (.ref b),none] H;refine st λ N1 e1=>?_;walk_at "r";refine ⟨b3,b4,b,MB,w,rfl,hB,hne,hw,hw1,hlB,λ c H1 hc s1 hC=>?_⟩;subst e1;walk_at "r";refine a_S λ B eB=>?_;simp only [iSeq];walk_at "r";obtain ⟨xs,x1,x2,x3⟩:=(hA.up s1).walk;refine ⟨b1,⟨_,x1⟩,λ a1 ha1=>?_⟩;refine c_h (RowR a1 λ j=>(List.range w).map λ k=>dotI (MA.getD j []) (colI k MB)) ha1 x1 (by omega) (RowR.mono (a:=a1)) ?_ ?_
  ·intro i x H2 zs ex s2 ez Q' hQ';obtain ⟨p,r,rfl,er,hp⟩:=x3 i x ex;have erD:MA.getD i []=r:=by rw [zqc,er]; rfl
   have hrl:r.length=MB.length:=hwA r (zqb er);subst eB;show b_X _ _ _ _ _ [some (.ref p),some (.ref c)] H2 Q';refine a_S λ B eB=>?_;simp only [iSeq];walk_at "r";obtain ⟨zs2,z1,z2,z3⟩:=((hC.up s2).b (K:=K)).walk;refine ⟨false,⟨_,z1⟩,λ a2 ha2=>?_⟩;have hlen:(h_I w MB).length=w:=by simp [h_I]
   refine c_h (λ j y _=>y=.int (dotI r (colI j MB))/\j < w) ha2 z1 (by omega) (λ _ _ _ _ r _=>r) ?_ ?_
   ·intro j y H3 zs3 ey s3 ez3 Q2 hQ2;obtain ⟨q,col,rfl,ec,hq⟩:=z3 j y ey;have hj:j < w:=by have:=(zqa ec).1; omega
    have ecol:col=colI j MB:=by
     unfold h_I at ec;rw [zH,yH hj] at ec;exact (zT ec).symm
    subst eB ecol;show e_o _ _ _ _ [some (.ref q),some (.ref p)] H3 Q2;walk_at "r";refine ⟨b2,false,p,q,r,colI j MB,rfl,(hp.up s2).up s3,hq.up s3,by simp [colI,hrl],by omega,λ i2 m n e1 e2=>?_,λ H4 s4=>hQ2 _ _ s4 ⟨rfl,hj⟩⟩;unfold colI at e2;rw [zH] at e2;cases eb:MB[i2]? with
    | none=>rw [eb] at e2; cases e2
    | some rb =>
     rw [eb] at e2;have e2':rb.getD j 0=n:=zT e2;subst e2';have hrb:=zqb eb;exact hmul r (zqb er) m (zqb e1) rb hrb _ (L2.getD_mem (by rw [hw rb hrb]; exact hj))
   ·intro H3 ys s3 e3 hly hr3;have ey:ys=((List.range w).map λ k=>dotI r (colI k MB)).map V.int:=by
     refine b_K (by simp; omega) λ j y e=>?_;obtain ⟨rfl,hj⟩:=hr3 j y e;exact ⟨_,by rw [zH,yH hj]; rfl,rfl⟩
    subst ey;exact hQ' _ _ s3 ⟨a2,rfl,Ne.symm (a_J ez ha2),by dsimp only; rw [erD]; exact e3⟩
  ·intro H2 ys s2 e2 hly hr2;have:=MatL.of e2 hr2;have e:(List.range ys.length).map (λ j=>(List.range w).map λ k=>dotI (MA.getD j []) (colI k MB))=mulM w MA MB:=by
    rw [hly,x2];unfold mulM;refine yG (by simp) λ i h1 h2=>?_;simp at h1;simp [h1]
   rw [e] at this;have hn:H a1=none:=by
    cases q:H a1 with
    | none=>rfl
    | some o=>rw [s1 _ _ q] at ha1; cases ha1
   exact hQ a1 H2 hn (s1.trans s2) this
theorem ok_1l (T:Txt K mg t):FnOk P w K mg base CX0 1 t.a_1l t.d_1l pz' (sp_1l K):=by
 refine T.F_1l.ok sc_1l (by walk_at "v") (λ cdv A outer s H vs Q E hr h=>?_)
 ·obtain ⟨b1,b2,a,rows,i0,k,w,rfl,hM,hw,hk,hw1,hl1,hQ⟩:=h;refine ⟨_,(a_F (a_N (a_X (xs:=["at","row"]) (fr:=[("i",1),("k",2)]) (g:=(gTup K 2 (c_e (a_M 0) (c_e (a_M 1) gNil)))) (tt:=(e_E (h_x (tOp (rI0 λ i j=>.bl (!decide (i=j))) (tVar 0) (tVar 2))) (tOp rCat (tCB (e_S K) (b_D (tSl (rSlB K) (tVar 1) e_Z (i_v (tVar 3))) tNil)) (tCB (e_S K) (b_D (tSl (rSlB K) (tVar 1) (i_v (tOp (rI0 λ i j=>.int (i+j)) (tVar 3) (tC (.int 1)))) e_Z) tNil))))) (a_R (sc:=a_D s_1l) (N:=N_1l) rfl rfl (by decide +kernel)) rfl (g_S rfl T.z_enumerate (a_A (pv 0) a_B)) (λ _ _ _ hE1=>(c_L rfl (a_Z (a_Y (N:=["at","row","i","k"]) (i:=0) hE1 rfl (by decide +kernel)) (a_Z (a_Y (N:=["at","row","i","k"]) (i:=1) hE1 rfl (by decide +kernel)) c_x)))) (λ _ _ _ hE1=>(o_c (a_T d_T (pv 0) (pv 2) (a_V _)) (a_L k_F (b_T d_U rfl T.z_list (by decide +kernel) (a_A (e_M sl_B (pv 1) g_Q (f_z (pv 3))) a_B)) (b_T d_U rfl T.z_list (by decide +kernel) (a_A (e_M sl_B (pv 1) (f_z (a_L c_y (pv 3) a_E)) g_Q) a_B)))))))),?_⟩;show tRet _ _ [some (.ref a),some (.int i0),some (.int k)] H;walk_at "r";refine h_H λ C0 B0 eC eB=>?_;simp only [j_M];walk_at "r";obtain ⟨xs,x1,x2,x3⟩:=hM.walk;refine ⟨b1,⟨_,x1⟩,λ a1 ha1=>?_⟩;refine o_K (λ t zs H1=>b_A a1 H1 zs (((rows.take t).eraseIdx i0).map λ (r:List Int)=>r.eraseIdx k)) ha1 x1 (by omega) b_A.nil ?_ (λ _ _ _ _ r s=>r.mono s) ?_ ?_
  ·intro i zs H1 p;rw [p.len,zqe,List.length_eraseIdx];have:=List.length_take_le i rows;split <;> omega
  ·intro i x H1 zs ex s1 ez p C hC1 hC2;obtain ⟨q0,r,rfl,er,hp⟩:=x3 i x ex;have hrw:r.length=w:=hw r (zqb er);replace hp:=hp.up s1;rw [k_T er] at hC1 hC2;subst eC eB;show e_E _ _ [some (.int i),some (.ref q0),some (.int i0),some (.int k)] H1 C;simp only [e_E];walk_at "r"
   by_cases z:i=i0
   ·subst z;rw [if_pos rfl] at hC2;rw [zW rfl];exact hC2 H1 (Same.refl _) p
   ·rw [if_neg z] at hC1;rw [zX (show ¬ (i:Int)=i0 by omega)];refine iteT ?_;refine ⟨b2,q0,_,rfl,hp,λ _=>by rw [zqe,HT.sIx_none,HT.sIx_nat]; omega,λ q1 hq1=>?_⟩;have sq1:SqB b2 K (upd H1 q1 (seqO b2 (cutV (r.map V.int) none (some (k:Int))))) q1 (cutV (r.map V.int) none (some (k:Int))):=SqB.cut;have s2:Same H1 (upd H1 q1 (seqO b2 (cutV (r.map V.int) none (some (k:Int))))):=Same.new hq1;generalize upd H1 q1 _=H2 at sq1 s2;rw [o_m (by omega)] at sq1;refine ⟨b2,q1,_,rfl,sq1,λ q2 hq2=>?_⟩;have e2:(upd H2 q2 (.lst ((r.take k).map V.int))) q2=some (.lst ((r.take k).map V.int)):=a_G;have s3:Same H2 (upd H2 q2 (.lst ((r.take k).map V.int))):=Same.new hq2;generalize upd H2 q2 _=H3 at e2 s3;refine ⟨b2,q0,_,rfl,(hp.up s2).up s3,λ _=>by rw [zqe,HT.sIx_none,show (k:Int)+1=((k+1:Nat):Int) by omega,HT.sIx_nat]; omega,λ q3 hq3=>?_⟩;have sq3:SqB b2 K (upd H3 q3 (seqO b2 (cutV (r.map V.int) (some ((k:Int)+1)) none))) q3 (cutV (r.map V.int) (some ((k:Int)+1)) none):=SqB.cut;have s4:Same H3 (upd H3 q3 (seqO b2 (cutV (r.map V.int) (some ((k:Int)+1)) none))):=Same.new hq3;generalize upd H3 q3 _=H4 at sq3 s4;rw [show (k:Int)+1=((k+1:Nat):Int) by omega,j_P (by omega)] at sq3;refine ⟨b2,q3,_,rfl,sq3,λ q4 hq4=>?_⟩;have s5:Same H4 (upd H4 q4 (.lst ((r.drop (k+1)).map V.int))):=Same.new hq4;have e4:(upd H4 q4 (.lst ((r.drop (k+1)).map V.int))) q4=some (.lst ((r.drop (k+1)).map V.int)):=a_G;generalize upd H4 q4 _=H5 at e4 s5;refine ⟨q2,q4,_,_,rfl,rfl,s5 _ _ (s4 _ _ e2),e4,by rw [zqe,zqe,List.length_take,List.length_drop]; exact Nat.le_of_lt (c_p (by omega)),λ q5 hq5=>?_⟩;have s15:Same H1 (upd H5 q5 (.lst ((r.take k).map V.int++(r.drop (k+1)).map V.int))):=(((s2.trans s3).trans s4).trans s5).trans (Same.new hq5);refine hC1 _ _ s15 ?_;rw [List.map_append];refine (p.mono s15.x).snoc (λ e=>?_) ?_
    ·subst e;rw [s5 _ _ (s4 _ _ (s3 _ _ (s2 _ _ ez)))] at hq5;cases hq5
    ·rw [a_G]; dsimp only; rw [List.eraseIdx_eq_take_drop_succ,List.map_append]
  ·intro H1 ys s1 e1 p;rw [x2,List.take_length] at p;exact hQ a1 H1 ha1 s1 (b_A.mat e1 p)
theorem ok_1 (T:Txt K mg t):∀ n:Nat,FnOk P w K mg base CX0 (n+1) t.a_1 t.d_1 pK' (sp_1 K n)
 | 0=>⟨λ _ _ _ _ h=>h.elim,λ _ _ _ _ _ _ _ _ _ _ _ _ _ h=>h.elim⟩
 | n+1=>by
  have G_1:FnOk P w K mg base CX0 (n+1) t.a_1 t.d_1 pK' (sp_1 K n):=ok_1 T n;have G_1l:=@ok_1l P w K mg base t T;refine T.F_1.ok sc_1 (by walk_at "v") (λ cdv A outer s H vs Q E hr h=>?_)
  ·obtain ⟨b1,b2,a,rows,B,rfl,hM,hs,hn,hb,hB,hQ⟩:=h;refine ⟨_,(a_C (b_R (a_T c_g (a_Q a_U rfl T.z_len (by decide +kernel) (a_A (pv 0) a_B)) a_E (a_V _))
   (a_F (a_N (px (px (pv 0) a_E) a_E)))
   b_z)
   (a_C (a_P (i:=1) sc_1.nd rfl (Or.inl rfl) a_E)
   (a_C (a_P (i:=2) sc_1.nd rfl (Or.inl rfl) a_E)
   (a_C (c_A zG rfl (g_S rfl T.z_enumerate (a_A (px (pv 0) a_E) a_B)) (c_L rfl (a_Z (b_E (i:=3) sc_1.nd rfl (Or.inl rfl)) (a_Z (b_E (i:=4) sc_1.nd rfl (Or.inl rfl)) c_x)))
   (a_C (b_R (a_T d_T (pv 4) a_E (a_V _))
   (a_F (n_J (i:=1) sc_1.nd rfl (Or.inl rfl) (a_L b_C (a_L b_C (pv 2) (pv 4)) (a_I G_1 hr.mo rfl T.m_1 T.F_1.kp T.b_1 .nil a_O (a_A (a_I G_1l hr.mo rfl T.m_1l T.F_1l.kp T.b_1l .nil a_O (a_A (pv 0) (a_A a_E (a_A (pv 3) a_B)))) a_B))) n_K))
   b_z)
   (a_F (a_P (i:=2) sc_1.nd rfl (Or.inl rfl) (e_D d_L (pv 2))))))
   (a_F (a_N (pv 1))))))),?_⟩
   show tSeq _ _ _ [some (.ref a),none,none,none,none] H;obtain ⟨e0,m0⟩:=row0 hs;have hl0:(rows.getD 0 []).length=n+1:=hs.2 _ m0;refine st λ N1 e1=>?_;walk_at "r";refine b_V hM ?_;walk_at "r";rw [hs.1]
   by_cases z:n=0
   ·subst z;rw [zW (by rfl)];exact iteT (d_D hM e0 (getD_at (k:=0) (by omega)) rfl rfl (hQ H (Same.refl _)))
   ·rw [zX (show ¬ ((n+1:Nat):Int)=1 by omega)];refine iteF ?_;obtain ⟨n,rfl⟩:∃ m,n=m+1:=⟨n - 1,by omega⟩;subst e1;refine st λ N1 e1=>?_;walk_at "r";subst e1;refine st λ N1 e1=>?_;walk_at "r";subst e1;refine st λ N1 e1=>c_C λ B0 eB=>?_;simp only [j_M];walk_at "r";refine f_C hM e0 rfl λ p hp=>⟨b2,_,rfl,⟨_,hp⟩,?_⟩;generalize hf:(λ k=>(rows.getD 0 []).getD k 0*detM (n+1) (c_O 0 k rows))=f;refine l_v (nx:=N1) (rt:=Q) (λ k σ H1=>∃ v3 v4,σ=[some (.ref a),some (.int (altS f k)),some (.int (sg k)),v3,v4]/\Same H H1) ⟨_,_,rfl,Same.refl _⟩ (λ _ _ _ _ ⟨_,_,_,s1⟩=>hp.up s1) ?_ ?_
    ·rintro k x q σ H1 ex ⟨v3,v4,rfl,s1⟩ hq;obtain ⟨x,ex',rfl⟩:=c_c ex;have hk:k < n+2:=by have:=(zqa ex').1; omega
     refine ⟨q,[.int k,.int x],rfl,SqT.of a_G,rfl,_,_,rfl,_,_,rfl,rfl,?_⟩;replace s1:=s1.trans (Same.new (o:=.tup [.int k,.int x]) hq);generalize upd H1 q (.tup [.int k,.int x])=H2 at s1;subst eB;show tSeq _ _ _ [some (.ref a),some (.int (altS f k)),some (.int (sg k)),some (.int k),some (.int x)] H2;refine st λ N2 e2=>?_;have key:∀ H3 (tot:Int),Same H H3->tot=altS f (k+1)->N2 [some (.ref a),some (.int tot),some (.int (sg k)),some (.int k),some (.int x)] H3:=by
      intro H3 tot s3 et;subst e2 et;walk_at "r";rw [q_F];exact ⟨rfl,s3⟩
     walk_at "r";have hx0:(rows.getD 0 []).getD k 0=x:=q_A ex';have hfk:f k=x*detM (n+1) (c_O 0 k rows):=by rw [← hf]; dsimp only; rw [hx0]
     have hsm:=hs.minor (i:=0) (k:=k) (by omega) hk;have hbm:b_B B (c_O 0 k rows):=hb.minor
     by_cases zx:x=0
     ·rw [zW zx];refine iteF (key H2 _ s1 ?_);show _=altS f k+sg k*f k;rw [hfk,zx];simp
     ·rw [zX zx];refine iteT ?_;simp only [tAug,ipI];walk_at "r";refine ⟨IntMulOk.of_left (by unfold sg; split <;> decide),b1,b2,a,rows,0,k,_,rfl,hM.up s1,hs.2,hk,by omega,by rw [hs.1]; omega,λ r H3 _ s3 hR=>?_⟩;refine ⟨false,false,r,_,B,rfl,hR.b,hsm,by omega,hbm,hB,λ H4 s4=>?_⟩;walk_at "r";have hxb:=hb _ m0 x (by rw [← hx0]; exact L2.getD_mem (by omega));have hdb:=l_H (n+1) _ (by omega) (by omega) hsm hbm;refine ⟨mulOk_of_bits (m:=B+1) (n:=(n+1)*(B+2)+1) (b_G ?_) (b_G ?_) ?_,?_⟩
      ·rw [yE,o_J,Nat.one_mul,Nat.pow_succ]; omega
      ·rw [Nat.pow_succ]; have:=Nat.two_pow_pos ((n+1)*(B+2)); omega
      ·have:(n+1)*(B+2)<=4*1000002:=Nat.mul_le_mul (by omega) (by omega);omega
      ·refine key H4 _ ((s1.trans s3).trans s4) ?_;show _=altS f k+sg k*f k;rw [hfk,Int.mul_assoc]
    ·rintro σ H1 ⟨v3,v4,rfl,s1⟩;subst e1;walk_at "r";rw [zqe,hl0];have:altS f (n+2)=detM (n+2) rows:=by rw [← hf]; rfl
     rw [this];exact hQ H1 s1
theorem ok_7 (T:Txt K mg t):FnOk P w K mg base CX0 1 t.a_7 t.d_7 ["size"] sp_7:=by
 refine T.F_7.ok sc_7 (by walk_at "v") (λ cdv A outer s H vs Q E hr h=>?_)
 ·obtain ⟨n,rfl,hn,hQ⟩:=h;refine ⟨_,(a_F (a_N (a_X (xs:=["i"]) (fr:=[("size",0)]) (g:=(a_M 0)) (tt:=(tEl (b_X (c_w (b_D (tVar 1) tNil)) (a_M 0) (tEl (tIf (h_x (tOp (rI0 λ i j=>.bl (decide (i=j))) (tVar 1) (tVar 0))) (tC (.int 1)) (tC (.int 0)))) 1 [("i",0)]))) (a_R (sc:=a_D s_7) (N:=N_7) rfl rfl (by decide +kernel)) rfl (b_I rfl T.z_range (a_A (pv 0) a_B)) (λ _ _ _ hE1=>(d_Z (N:=["i","size"]) (i:=0) hE1 rfl (by decide +kernel) rfl)) (λ _ _ _ hE1=>(b_J (a_X (xs:=["k"]) (fr:=[("i",0)]) (g:=(a_M 0)) (tt:=(tEl (tIf (h_x (tOp (rI0 λ i j=>.bl (decide (i=j))) (tVar 1) (tVar 0))) (tC (.int 1)) (tC (.int 0))))) (a_R (N:=["i","size"]) hE1 rfl (by decide +kernel)) rfl (b_I rfl T.z_range (a_A (pv 1) a_B)) (λ _ _ _ hE2=>(a_Y (N:=["k","i"]) (i:=0) hE2 rfl (by decide +kernel))) (λ _ _ _ hE2=>(b_J (d_Q (a_T c_g (pv 1) (pv 0) (a_V _)) a_E a_E))))))))),?_⟩;show tRet _ _ [some (.int n)] H;walk_at "r";refine a_S λ B eB=>?_;simp only [c_w];walk_at "r";refine ⟨by omega,by omega,λ m0 hm0=>?_⟩;rw [zR];refine c_l (RowR m0 λ i=>(List.range n).map λ k=>if i=k then (1:Int) else 0) hm0 hn (RowR.mono (a:=m0)) ?_ ?_
  ·intro i H2 zs hi s2 ez Q' hQ';subst eB;show b_X _ _ _ _ _ [some (.int (0+(i:Int))),some (.int n)] H2 Q';refine a_S λ B eB=>?_;simp only [c_w];walk_at "r";refine ⟨by omega,by omega,λ a2 ha2=>?_⟩;rw [zR];refine c_l (λ k y _=>k < n/\y=.int (if i=k then 1 else 0)) ha2 hn (λ _ _ _ _ r _=>r) ?_ ?_
   ·intro k H3 zs3 hk s3 ez3 Q2 hQ2;subst eB;show tIf _ _ _ [some (.int (0+(k:Int))),some (.int (0+(i:Int)))] H3 Q2;walk_at "r"
    by_cases z:i=k
    ·rw [zW (by omega)];exact iteT (hQ2 _ _ (Same.refl _) ⟨hk,by rw [if_pos z]⟩)
    ·rw [zX (by omega)];exact iteF (hQ2 _ _ (Same.refl _) ⟨hk,by rw [if_neg z]⟩)
   ·intro H3 ys s3 e3 hly hr3;have ey:ys=((List.range n).map λ k=>if i=k then (1:Int) else 0).map V.int:=by
     refine b_K (by simpa using hly) λ j y e=>?_;obtain ⟨hj,rfl⟩:=hr3 j y e;exact ⟨_,by rw [zH,yH hj]; rfl,rfl⟩
    subst ey;exact hQ' _ _ s3 ⟨a2,rfl,Ne.symm (a_J ez ha2),e3⟩
  ·intro H2 ys s2 e2 hly hr2;have hM0:=MatL.of e2 hr2;rw [hly] at hM0;exact hQ m0 H2 hm0 s2 hM0
theorem c_I {H:Hp} {p:Addr} {M:LM} {ts:List Int} {u:Int} {Q:VK} (h:b_Z K H p M ts u) (q:∀ x,MatB true true K H x M->Q (.ref x) H):rIxB K (.ref p) (.int 0) H Q:=let ⟨x,y,h1,h2,h3⟩:=h; ⟨true,p,_,_,_,rfl,rfl,SqB.tup h1,rfl,q x h2⟩
theorem h_M {H:Hp} {p:Addr} {M:LM} {ts:List Int} {u:Int} {Q:VK} (h:b_Z K H p M ts u) (q:∀ x,H x=some (.tup (ts.map V.int))->Q (.ref x) H):rIxB K (.ref p) (.int 1) H Q:=let ⟨x,y,h1,h2,h3⟩:=h; ⟨true,p,_,_,_,rfl,rfl,SqB.tup h1,rfl,q y h3⟩
theorem g_c {H:Hp} {p:Addr} {M:LM} {ts:List Int} {u:Int} {Q:VK} (h:b_Z K H p M ts u) (q:Q (.int u) H):rIxB K (.ref p) (.int 2) H Q:=let ⟨x,y,h1,h2,h3⟩:=h; ⟨true,p,_,_,_,rfl,rfl,SqB.tup h1,rfl,q⟩
theorem i_I {H:Hp} {a a1:Addr} {M:LM} {σ:St} {Q:VK} {b1 b2:Bool} (hM:MatB b1 b2 K H a M) (hl:M.length<=1000) (ha1:H a1=none)
  (hQ:∀ H1 zs,Same H H1->H1 a1=some (.lst zs)->(∀ l,H1 l=none->MatB true true K (upd H1 l (.tup zs)) l M)->Q (.ref a1) H1):c_D (Its K b1 a) (a_M 0) (tEl (tCB (j_N K) (b_D (tVar 0) tNil))) 1 [] σ a1 H Q:=by
 cases b2 with
 | false =>
  refine o_n hM hl ha1 λ H1 s1 hT=>?_;obtain ⟨zs,hz,_⟩:=id hT;refine hQ H1 _ s1 hz λ l hl1=>?_;obtain ⟨zs',hz',hB⟩:=hT.tuple (K:=K) hl1;rw [hz] at hz';cases hz';exact hB
 | true =>
  obtain ⟨xs,x1,x2,x3⟩:=hM.walk;refine c_h (λ j y _=>∃ p r,y=.ref p/\M[j]?=some r/\SqB true K H p (r.map V.int)) ha1 x1 (by omega) (λ _ _ _ _ r _=>r) ?_ ?_
  ·intro i x H1 zs ex s1 ez Q' hQ';obtain ⟨p,r,rfl,er,hp⟩:=x3 i x ex;exact ⟨_,rfl,p,_,rfl,.inr ⟨hp.up s1,hQ' _ _ (Same.refl _) ⟨p,r,rfl,er,hp⟩⟩⟩
  ·intro H1 ys s1 e1 hly hr1;have hps:∃ ps:List Addr,ys=ps.map V.ref:=by
    clear e1 hly;have:∀ (zs:List V),(∀ (j:Nat) y,zs[j]?=some y->∃ p:Addr,y=.ref p)->∃ ps:List Addr,zs=ps.map V.ref:=by
     intro zs
     induction zs with
     | nil=>intro _; exact ⟨[],rfl⟩
     | cons z r ih =>
      intro hz;obtain ⟨p,e⟩:=hz 0 z rfl;obtain ⟨ps,e2⟩:=ih λ j y q=>hz (j+1) y (by simpa using q);exact ⟨p :: ps,by rw [e,e2]; rfl⟩
    exact this ys λ j y e=>let ⟨p,r,e1,_⟩:=hr1 j y e; ⟨p,e1⟩
   obtain ⟨ps,rfl⟩:=hps;refine hQ H1 _ s1 e1 λ l hl1=>⟨ps,SqB.tup a_G,by simp at hly; omega,λ i p r e2 e3=>?_⟩;obtain ⟨p',r',e4,e5,e6⟩:=hr1 i (.ref p) (by simp [e2]);cases e4;rw [e3] at e5;cases e5;exact e6.up (s1.trans (Same.new hl1))
theorem ok_1n (T:Txt K mg t):FnOk P w K mg base CX0 1 t.a_1n t.d_1n pB' (sp_1n K):=by
 refine T.F_1n.ok sc_1n (by walk_at "v") (λ cdv A outer s H vs Q E hr h=>?_)
 ·obtain ⟨b1,b2,a,p,M,ts,u,rfl,hM,hP,hl,hQ⟩:=h;refine ⟨_,(a_F (a_N (c_T (a_A (b_T d_C rfl T.z_tuple (by decide +kernel) (a_A (a_X (xs:=["row"]) (fr:=[]) (g:=(a_M 0)) (tt:=(tEl (tCB (j_N K) (b_D (tVar 0) tNil)))) (a_R (sc:=a_D s_1n) (N:=N_1n) rfl rfl (by decide +kernel)) rfl (b_M (pv 0)) (λ _ _ _ hE1=>(a_Y (N:=["row"]) (i:=0) hE1 rfl (by decide +kernel))) (λ _ _ _ hE1=>(b_J (b_T d_C rfl T.z_tuple (by decide +kernel) (a_A (pv 0) a_B))))) a_B)) (a_A (px (pv 1) a_E) (a_A (px (pv 1) a_E) a_B)))))),?_⟩;show tRet _ _ [some (.ref a),some (.ref p)] H;walk_at "r";refine a_S λ B eB=>?_;simp only [iSeq];walk_at "r";obtain ⟨xs,x1,_⟩:=hM.walk;refine ⟨b1,⟨_,x1⟩,λ a1 ha1=>?_⟩;subst eB;refine i_I hM (by omega) ha1 λ H1 zs s1 hz hB=>?_;refine ⟨a1,_,rfl,.inl ⟨SqL.of hz,λ l hl1=>?_⟩⟩;have s2:Same H (upd H1 l (.tup zs)):=s1.trans (Same.new hl1);replace hB:=hB l hl1;generalize upd H1 l (.tup zs)=H2 at s2 hB;refine f_E (hP.up s2) λ x hx=>f_F (hP.up s2) ⟨(by show 3<=sizeLine; decide),λ q hq=>hQ q _ (s2.trans (Same.new hq)) ⟨l,x,a_G,hB.up (Same.new hq),Same.new hq _ _ hx⟩⟩
theorem ok_1x (T:Txt K mg t):FnOk P w K mg base CX0 3 t.a_1x t.d_1x pG' (sp_1x K):=by
 have G_1z:=@ok_1z P w K mg base t T;have G_19:=@ok_19 P w K mg base t T;refine T.F_1x.ok sc_1x (by walk_at "v") (λ cdv A outer s H vs Q E hr h=>?_)
 ·obtain ⟨p,q,M,ts,ns,u,v,d,rfl,hD,hP,fi,hd1,hd4,hnl,bn,hv,hv2,hQ⟩:=h;refine ⟨_,(a_C (c_r (i:=2) (xs:=["row","top"]) (fr:=[("one",0),("spot",1)]) (g:=(gTup K 2 (c_e (a_M 0) (c_e (a_M 1) gNil)))) (tt:=(tEl (tOp (rI0 λ i j=>.int (i+j)) (tOp (rI (λ i j=>IntMulOk i j) λ i j=>.int (i*j)) (e_o (sp_1z K) [] E0 (b_D (tVar 0) (b_D (tOp (rIxB K) (tVar 3) (tC (.int 0))) tNil))) (tOp (rIxB K) (tVar 2) (tC (.int 2)))) (tOp (rI (λ i j=>IntMulOk i j) λ i j=>.int (i*j)) (tVar 1) (tOp (rIxB K) (tVar 3) (tC (.int 1))))))) (a_R (sc:=a_D s_1x) (N:=N_1x) rfl rfl (by decide +kernel)) rfl sc_1x.nd rfl rfl (g_s rfl T.z_zip (a_A (px (pv 0) a_E) (a_A (px (pv 0) a_E) a_B))) (λ _ _ _ hE1=>(c_L rfl (a_Z (a_Y (N:=["row","top","one","spot"]) (i:=0) hE1 rfl (by decide +kernel)) (a_Z (a_Y (N:=["row","top","one","spot"]) (i:=1) hE1 rfl (by decide +kernel)) c_x)))) (λ _ _ _ hE1=>(b_J (a_L c_y (a_L b_C (a_I G_1z hr.mo rfl T.m_1z T.F_1z.kp T.b_1z .nil a_O (a_A (pv 0) (a_A (px (pv 3) a_E) a_B))) (px (pv 2) a_E)) (a_L b_C (pv 1) (px (pv 3) a_E))))))
   (a_F (a_N (a_I G_19 hr.mo rfl T.m_19 T.F_19.kp T.b_19 .nil e_x (a_A (pv 2) (a_A (a_L b_C (px (pv 0) a_E) (px (pv 1) a_E)) a_B)))))),?_⟩
  show tSeq _ _ _ [some (.ref p),some (.ref q),none] H;refine st λ N1 e1=>?_;walk_at "r";refine a_S λ B eB=>?_;simp only [iZip];walk_at "r";refine c_I hD λ x hx=>h_M hD λ y hy=>?_;obtain ⟨xs,x1,x2,x3⟩:=hx.walk;refine ⟨true,true,x,rfl,y,rfl,⟨_,x1⟩,⟨_,SqB.tup hy⟩,λ a1 ha1=>?_⟩;have hraw:∀ (i:Nat) (r:List Int) (tt:Int),M[i]?=some r->ts[i]?=some tt->(movT M ts u ns v)[i]?=some (dotI r ns*u+tt*v):=λ i r tt e1 e2=>by
   unfold movT;rw [List.getElem?_zipWith,e1,e2]
  refine g_t (λ j z _=>∃ n,(movT M ts u ns v)[j]?=some n/\z=.int n) ha1 x1 (SqB.tup hy) (by rw [x2,fi.sq.1,zqe,fi.len]) (by rw [x2,fi.sq.1]; omega) (λ _ _ _ _ r _=>r) ?_ ?_
  ·intro i zr zt H1 zs er et s1 ez Q' hQ';obtain ⟨pr,r,rfl,er2,hp⟩:=x3 i zr er;obtain ⟨tt,et2,rfl⟩:=c_c et;have hrl:r.length=d:=fi.sq.2 r (zqb er2);have br:=fi.bm r (zqb er2);subst eB;show tOp _ _ _ [some (.ref pr),some (.int tt),some (.ref p),some (.ref q)] H1 Q';walk_at "r";refine f_E (hP.up s1) λ z hz=>?_;refine ⟨true,true,pr,z,r,ns,rfl,hp.up s1,SqB.tup hz,by omega,by omega,λ i2 m n e1 e2=>mulOk_of_bits (b_G (br m (zqb e1))) (b_G (bn n (zqb e2))) (by decide),λ H2 s2=>?_⟩;refine g_c (hD.up (s1.trans s2)) ?_;walk_at "r";have hda:=g_U r ns br bn;have hdb:(dotI r ns).natAbs < 2 ^ 400010:=by
    have:r.length*2 ^ (200000+200000)<=4*2 ^ (200000+200000):=zK _ (by omega);have e:(2:Nat) ^ 400010=1024*2 ^ (200000+200000):=by rw [show (400010:Nat)=10+(200000+200000) from rfl,Nat.pow_add]
    have:=Nat.two_pow_pos (200000+200000);omega
   refine ⟨mulOk_of_bits (b_G hdb) (b_G (f_D fi.pos fi.bu)) (by decide),?_⟩;refine f_F (hP.up (s1.trans s2)) ?_;walk_at "r";refine ⟨mulOk_of_bits (b_G (fi.bt tt (zqb et2))) (b_G (f_D hv hv2)) (by decide),?_⟩;exact hQ' _ _ s2 ⟨_,hraw i r tt er2 et2,rfl⟩
  ·intro H1 zs s1 ez1 hlz hr1;have hml:(movT M ts u ns v).length=d:=by unfold movT; rw [List.length_zipWith,fi.sq.1,fi.len]; omega
   have ey:zs=(movT M ts u ns v).map V.int:=b_K (by rw [hlz,x2,fi.sq.1,hml]) hr1;subst ey;subst e1;walk_at "r";refine g_c (hD.up s1) ?_;refine f_F (hP.up s1) ?_;walk_at "r";have hsp:=k_U fi.pos fi.bu hv hv2;refine ⟨mulOk_of_bits (b_G (f_D fi.pos fi.bu)) (b_G (f_D hv hv2)) (by decide),?_⟩;refine ⟨false,a1,_,_,rfl,SqB.lst ez1,by omega,hsp.1,λ z=>?_,λ _ _ r H2 s2 hR=>hQ r H2 (s1.trans s2) hR⟩;rcases z with z | z
   ·omega
   ·rw [z] at hml; simp at hml; omega
theorem ok_1o (T:Txt K mg t):FnOk P w K mg base CX0 4 t.a_1o t.d_1o pA' (sp_1o K):=by
 have G_1z:=@ok_1z P w K mg base t T;have G_1h:=@ok_1h P w K mg base t T;have G_1x:=@ok_1x P w K mg base t T;have G_1n:=@ok_1n P w K mg base t T;refine T.F_1o.ok sc_1o (by walk_at "v") (λ cdv A outer s H vs Q E hr h=>?_)
 ·obtain ⟨p,q,M,N,ts,ns,u,v,d,rfl,hD,hE,f1,f2,hd1,hd4,hQ⟩:=h;refine ⟨_,(a_C (a_P (i:=2) sc_1o.nd rfl (Or.inr rfl) (a_I G_1h hr.mo rfl T.m_1h T.F_1h.kp T.b_1h .nil a_O (a_A (px (pv 0) a_E) a_B)))
   (a_C (c_r (i:=3) (xs:=["row"]) (fr:=[("columns",2)]) (g:=(a_M 0)) (tt:=(tEl (b_X (iSeq K (tVar 1)) (a_M 0) (tEl (e_o (sp_1z K) [] E0 (b_D (tVar 1) (b_D (tVar 0) tNil)))) 1 [("row",0)]))) (a_R (sc:=a_D s_1o) (N:=N_1o) rfl rfl (by decide +kernel)) rfl sc_1o.nd rfl rfl (b_M (px (pv 1) a_E)) (λ _ _ _ hE1=>(d_Z (N:=["row","columns"]) (i:=0) hE1 rfl (by decide +kernel) rfl)) (λ _ _ _ hE1=>(b_J (a_X (xs:=["column"]) (fr:=[("row",0)]) (g:=(a_M 0)) (tt:=(tEl (e_o (sp_1z K) [] E0 (b_D (tVar 1) (b_D (tVar 0) tNil))))) (a_R (N:=["row","columns"]) hE1 rfl (by decide +kernel)) rfl (b_M (pv 1)) (λ _ _ _ hE2=>(a_Y (N:=["column","row"]) (i:=0) hE2 rfl (by decide +kernel))) (λ _ _ _ hE2=>(b_J (a_I G_1z hr.mo rfl T.m_1z T.F_1z.kp T.b_1z .nil a_O (a_A (pv 1) (a_A (pv 0) a_B)))))))))
   (a_F (a_N (a_I G_1n hr.mo rfl T.m_1n T.F_1n.kp T.b_1n .nil a_O (a_A (pv 3) (a_A (a_I G_1x hr.mo rfl T.m_1x T.F_1x.kp T.b_1x .nil a_O (a_A (pv 1) (a_A (c_T (a_A (px (pv 0) a_E) (a_A (px (pv 0) a_E) a_B))) a_B))) a_B))))))),?_⟩
  show tSeq _ _ _ [some (.ref p),some (.ref q),none,none] H;refine st λ N1 e1=>?_;walk_at "r";have hne:M≠[]:=λ z=>by have:=f1.sq.1; rw [z] at this; simp at this; omega
  refine c_I hD λ x hx=>⟨true,true,x,M,d,rfl,hx,hne,f1.sq.2,by omega,by rw [f1.sq.1]; omega,λ c H1 hc s1 hC=>?_⟩;subst e1;refine st λ N1 e1=>?_;walk_at "r";refine a_S λ B eB=>?_;simp only [iSeq];walk_at "r";refine c_I (hE.up s1) λ y hy=>?_;obtain ⟨xs,x1,x2,x3⟩:=hy.walk;refine ⟨true,y,rfl,⟨_,x1⟩,λ a1 ha1=>?_⟩;refine c_h (RowR a1 λ j=>(List.range d).map λ k=>dotI (N.getD j []) (colI k M)) ha1 x1 (by rw [x2,f2.sq.1]; omega) (RowR.mono (a:=a1)) ?_ ?_
  ·intro i x H2 zs ex s2 ez Q' hQ';obtain ⟨pr,r,rfl,er,hp⟩:=x3 i x ex;have erD:N.getD i []=r:=by rw [zqc,er]; rfl
   have hrl:r.length=d:=f2.sq.2 r (zqb er);have br:=f2.bm r (zqb er);subst eB;show b_X _ _ _ _ _ [some (.ref pr),some (.ref c)] H2 Q';refine a_S λ B eB=>?_;simp only [iSeq];walk_at "r";obtain ⟨zs2,z1,z2,z3⟩:=((hC.up s2).b (K:=K)).walk;refine ⟨false,⟨_,z1⟩,λ a2 ha2=>?_⟩;have hlen:(h_I d M).length=d:=by simp [h_I]
   refine c_h (λ j y _=>y=.int (dotI r (colI j M))/\j < d) ha2 z1 (by omega) (λ _ _ _ _ r _=>r) ?_ ?_
   ·intro j y H3 zs3 ey s3 ez3 Q2 hQ2;obtain ⟨q2,col,rfl,ec,hq⟩:=z3 j y ey;have hj:j < d:=by have:=(zqa ec).1; omega
    have ecol:col=colI j M:=by
     unfold h_I at ec;rw [zH,yH hj] at ec;exact (zT ec).symm
    subst eB ecol;show e_o _ _ _ _ [some (.ref q2),some (.ref pr)] H3 Q2;walk_at "r";refine ⟨true,false,pr,q2,r,colI j M,rfl,(hp.up s2).up s3,hq.up s3,by simp [colI,hrl,f1.sq.1],by omega,λ i2 m n e1 e2=>?_,λ H4 s4=>hQ2 _ _ s4 ⟨rfl,hj⟩⟩;unfold colI at e2;rw [zH] at e2;cases eb:M[i2]? with
    | none=>rw [eb] at e2; cases e2
    | some rb =>
     rw [eb] at e2;have e2':rb.getD j 0=n:=zT e2;subst e2';have hrb:=zqb eb;exact mulOk_of_bits (b_G (br m (zqb e1))) (b_G (f1.bm rb hrb _ (L2.getD_mem (by rw [f1.sq.2 rb hrb]; exact hj)))) (by decide)
   ·intro H3 ys s3 e3 hly hr3;have ey:ys=((List.range d).map λ k=>dotI r (colI k M)).map V.int:=by
     refine b_K (by simp; omega) λ j y e=>?_;obtain ⟨rfl,hj⟩:=hr3 j y e;exact ⟨_,by rw [zH,yH hj]; rfl,rfl⟩
    subst ey;exact hQ' _ _ s3 ⟨a2,rfl,Ne.symm (a_J ez ha2),by dsimp only; rw [erD]; exact e3⟩
  ·intro H2 ys s2 e2 hly hr2;have hR:=MatL.of e2 hr2;have e:(List.range ys.length).map (λ j=>(List.range d).map λ k=>dotI (N.getD j []) (colI k M))=mulM d N M:=by
    rw [hly,x2];unfold mulM;refine yG (by simp) λ i h1 h2=>?_;simp at h1;simp [h1]
   rw [e] at hR;have s02:=s1.trans s2;subst e1;walk_at "r";refine h_M (hD.up s02) λ z hz=>g_c (hD.up s02) ⟨(by show 2<=sizeLine; decide),λ l hl1=>?_⟩;have s3:Same H2 (upd H2 l (.tup [.ref z,.int u])):=Same.new hl1;refine ⟨q,l,N,ns,ts,v,u,d,rfl,(hE.up s02).up s3,⟨z,a_G,s3 _ _ hz⟩,f2,hd1,hd4,f1.len,f1.bt,f1.pos,f1.bu,λ r H4 s4 hP=>?_⟩;exact ⟨false,false,a1,r,_,_,_,rfl,((hR.up s3).up s4).b,hP,by simp [mulM,f2.sq.1]; omega,λ q' H5 s5 hq=>hQ q' H5 (((s02.trans s3).trans s4).trans s5) hq⟩
noncomputable def h_N (rows:LM) (tops:List Int) (u:Int):Prop:=(rows.length=2\/rows.length=3)/\(∀ r∈rows,r.length=rows.length)/\tops.length=rows.length/\u≠0/\(detM rows.length rows=1\/detM rows.length rows=-1)
noncomputable def sp_25 (K:Frag) (C:Addr):Sp:=λ vs H Q E=>∃ (b1 b2 b3:Bool) (a p:Addr) (rows:LM) (tops:List Int) (u:Int) (B:Nat),vs=[.ref a,.ref p,.int u]/\MatB b1 b2 K H a rows/\SqB b3 K H p (tops.map V.int)/\rows.length<=100/\tops.length<=100/\b_B B rows/\B<=1000000/\c_V u /\
 (¬ h_N rows tops u->∀ H',Same H H'->E (.ref C) none H')/\(h_N rows tops u->∀ q H',Same H H'->b_Z K H' q rows (redT u tops) (redU u tops)->Q (.ref q) H')
theorem inV2 (L x y:Int):inV (.int L) [.int x,.int y]=decide (L=x\/L=y):=by
 have e:inV (.int L) [.int x,.int y]=(eqV (.int x) (.int L) || (eqV (.int y) (.int L) || false)):=rfl;have f:∀ a b:Int,eqV (.int a) (.int b)=decide (a=b):=λ a b=>by
  first | rfl | (unfold eqV; rfl) | (simp only [eqV]; by_cases h:a=b <;> simp [h])
 rw [e,f,f,Bool.or_false]
 by_cases h1:x=L
 ·rw [zW h1,zW (p:=L=x\/L=y) (Or.inl h1.symm)]; rfl
 ·rw [zX h1]
  by_cases h2:y=L
  ·rw [zW h2,zW (p:=L=x\/L=y) (Or.inr h2.symm)]; rfl
  ·rw [zX h2,zX (p:=L=x\/L=y) (by omega)]; rfl
theorem g_x {H:Hp} {Q:VK} {E:XK} {b1 b2:Bool} {a:Addr} {rows:LM} {n B:Nat} (h1:1<=n) (h3:n<=4) (hM:MatB b1 b2 K H a rows) (sq:Sq n rows) (hb:b_B B rows) (hB:B<=1000000) (q:∀ H',Same H H'->Q (.int (detM n rows)) H'):sp_1 K n [.ref a] H Q E:=by
 match n,h1,h3,sq,q with
 | m+1,_,h3,sq,q=>exact ⟨b1,b2,a,rows,B,rfl,hM,sq,by omega,hb,hB,q⟩
theorem ok_25 (T:Txt K mg t):FnOk P w K mg base (CX1 P w) 6 t.a_25 t.d_25 pq' (sp_25 K t.a_28):=by
 have G_19:=@ok_19 P w K mg base t T;have G_1n:=@ok_1n P w K mg base t T;refine T.F_25.okX sc_25 (λ vs H Q E h=>?_) (λ cdv A outer s H vs Q E hr h=>?_)
 ·obtain ⟨b1,b2,b3,a,p,rows,tops,u,B,rfl,_⟩:=h;rfl
 ·obtain ⟨b1,b2,b3,a,p,rows,tops,u,B,rfl,hM,hS,hl1,hl2,hB,hB1,su,hE,hQ⟩:=h;obtain ⟨n,hn3,hn⟩:∃ n:Nat,n<=3/\((rows.length=2\/rows.length=3)->n=rows.length):=by
   by_cases z:rows.length=2\/rows.length=3
   ·exact ⟨rows.length,by omega,λ _=>rfl⟩
   ·exact ⟨0,by omega,λ h=>yJ h z⟩
  have G_1:FnOk P w K mg base CX0 (n+1) t.a_1 t.d_1 pK' (sp_1 K n):=ok_1 T n;refine ⟨_,(a_C (a_P (i:=3) sc_25.nd rfl (Or.inr rfl) (a_Q a_U rfl T.z_len (by decide +kernel) (a_A (pv 0) a_B)))
   (a_C (b_R (a_T f_U (pv 3) (c_T (a_A a_E (a_A a_E a_B))) rfl)
   (a_F (d_S rfl c_M rfl T.m_28 T.x_28 PySem.F.excBase_ValueError (a_A c_z a_B)))
   b_z)
   (a_C (b_R (PW.pt (h_g (e_f (a_Q (o_q rfl) rfl T.z_any (by decide +kernel) (a_A (a_X (xs:=["row"]) (fr:=[("axes",3)]) (g:=(a_M 0)) (tt:=(tEl (tOp (rI0 λ i j=>.bl (!decide (i=j))) (tCB (f_Z K) (b_D (tVar 0) tNil)) (tVar 1)))) (a_R (sc:=a_D s_25) (N:=N_25) rfl rfl (by decide +kernel)) rfl (b_M (pv 0)) (λ _ _ _ hE1=>(a_Y (N:=["row","axes"]) (i:=0) hE1 rfl (by decide +kernel))) (λ _ _ _ hE1=>(b_J (c_S d_T (a_Q a_U rfl T.z_len (by decide +kernel) (a_A (pv 0) a_B)) (pv 1) (a_V _))))) a_B))) (g_n (a_T d_T (a_Q a_U rfl T.z_len (by decide +kernel) (a_A (pv 1) a_B)) (pv 3) (a_V _)))))
   (a_F (d_S rfl c_M rfl T.m_28 T.x_28 PySem.F.excBase_ValueError (a_A c_z a_B)))
   b_z)
   (a_C (b_R (a_T c_g (pv 2) a_E (a_V _))
   (a_F (d_S rfl c_M rfl T.m_28 T.x_28 PySem.F.excBase_ValueError (a_A c_z a_B)))
   b_z)
   (a_C (b_R (a_T f_U (a_I G_1 hr.mo rfl T.m_1 T.F_1.kp T.b_1 .nil a_O (a_A (pv 0) a_B)) (c_T (a_A a_E (a_A (e_D d_L a_E) a_B))) rfl)
   (a_F (d_S rfl c_M rfl T.m_28 T.x_28 PySem.F.excBase_ValueError (a_A c_z a_B)))
   b_z)
   (a_F (a_N (a_I G_1n hr.mo rfl T.m_1n T.F_1n.kp T.b_1n .nil a_O (a_A (pv 0) (a_A (a_I G_19 hr.mo rfl T.m_19 T.F_19.kp T.b_19 .nil e_x (a_A (pv 1) (a_A (pv 2) a_B))) a_B)))))))))),?_⟩
  show tSeq _ _ _ [some (.ref a),some (.ref p),some (.int u),none] H;refine st λ N1 e1=>?_;walk_at "r";refine b_V hM ?_;subst e1;refine st λ N1 e1=>?_;simp only [e_i];walk_at "r";refine ⟨by show 2<=sizeLine; decide,λ p1 hp1=>?_⟩;have s1:Same H (upd H p1 (.tup [.int 2,.int 3])):=Same.new hp1;refine ⟨p1,_,rfl,.inr (SqT.of a_G),rfl,rfl,_,rfl,?_⟩;generalize upd H p1 (.tup [.int 2,.int 3])=H1 at s1;rw [inV2]
  by_cases hax:rows.length=2\/rows.length=3
  case neg =>
   rw [zX (by omega)];refine iteT ?_;simp only [e_i];walk_at "r";exact ⟨by decide,hE (λ g=>hax g.1) _ s1⟩
  rw [zW (by omega)];refine iteF ?_;replace hn:=hn hax;subst hn;subst e1;refine st λ N1 e1=>?_;walk_at "r";refine a_S λ C eC=>?_;simp only [iSeq];walk_at "r";obtain ⟨xs,x1,x2,x3⟩:=(hM.up s1).walk;refine ⟨b1,⟨_,x1⟩,λ a1 ha1=>?_⟩;refine c_h (λ j y _=>∃ r,rows[j]?=some r/\y=.bl (!decide (r.length=rows.length))) ha1 x1 (by omega) (λ _ _ _ _ r _=>r) ?_ ?_
  ·intro i x H2 zs ex s2 ez Q' hQ';obtain ⟨pr,rr,rfl,er,hp⟩:=x3 i x ex;subst eC;show tOp _ _ _ [some (.ref pr),some (.int rows.length)] H2 Q';walk_at "r";refine c_s (hp.up s2) ?_
   try walk_at "r"
   refine hQ' _ _ (Same.refl _) ⟨rr,er,?_⟩
   by_cases z:rr.length=rows.length
   ·rw [zW z,zW (by omega)]
   ·rw [zX z,zX (by omega)]
  ·intro H2 ys s2 e2 hly hr2;have ey:ys=(rows.map λ r=>!decide (r.length=rows.length)).map V.bl:=by
    rw [List.map_map];exact b_K (by omega) hr2
   subst ey;refine ⟨a1,rfl,_,SqL.of e2,?_⟩
   try walk_at "r"
   have s02:=s1.trans s2
   by_cases hsq:∀ r∈rows,r.length=rows.length
   case neg =>
    have hany:(rows.map λ r=>!decide (r.length=rows.length)).any id=true:=by
     rw [List.any_eq_true];obtain ⟨r,hr⟩:=Classical.not_forall.mp hsq;obtain ⟨hr1,hr2⟩:=Classical.not_imp.mp hr;exact ⟨true,List.mem_map.mpr ⟨r,hr1,by rw [zX hr2]; rfl⟩,rfl⟩
    rw [hany];refine iteT ?_;simp only [e_i];walk_at "r";exact ⟨by decide,hE (λ g=>hsq g.2.1) _ s02⟩
   have hany:(rows.map λ r=>!decide (r.length=rows.length)).any id=false:=by
    rw [List.any_eq_false];intro b hb;obtain ⟨r,hr,rfl⟩:=List.mem_map.mp hb;rw [zW (hsq r hr)]
    decide
   rw [hany];refine iteF ?_;refine c_s (hS.up s02) ?_
   try walk_at "r"
   by_cases htl:tops.length=rows.length
   case neg =>
    rw [zX (by omega)];refine iteT ?_;simp only [e_i];walk_at "r";exact ⟨by decide,hE (λ g=>htl g.2.2.1) _ s02⟩
   rw [zW (by omega)];refine iteF ?_;subst e1;refine st λ N1 e1=>?_;simp only [e_i];walk_at "r";refine ite2 (λ z=>⟨by decide,hE (λ g=>g.2.2.2.1 (zY z)) _ s02⟩) (λ z=>?_);have hu:u≠0:=λ q=>z (zW q);subst e1;refine st λ N1 e1=>?_;walk_at "r";refine g_x (by omega) (by omega) (hM.up s02) ⟨rfl,hsq⟩ hB hB1 λ H3 s3=>?_
   try walk_at "r"
   refine ⟨by show 2<=sizeLine; decide,λ p2 hp2=>?_⟩;have s4:Same H3 (upd H3 p2 (.tup [.int 1,.int (-1)])):=Same.new hp2;refine ⟨p2,_,rfl,.inr (SqT.of a_G),rfl,rfl,_,rfl,?_⟩;generalize upd H3 p2 (.tup [.int 1,.int (-1)])=H4 at s4;have s04:=(s02.trans s3).trans s4;rw [inV2]
   by_cases hdt:detM rows.length rows=1\/detM rows.length rows=-1
   case neg =>
    rw [zX hdt];refine iteT ?_;simp only [e_i];walk_at "r";exact ⟨by decide,hE (λ g=>hdt g.2.2.2.2) _ s04⟩
   rw [zW hdt];refine iteF ?_;subst e1;walk_at "r";refine ⟨b3,p,tops,u,rfl,hS.up s04,hl2,su,λ z=>?_,λ _ _ sp H5 s5 hP=>⟨b1,b2,a,sp,rows,_,_,rfl,hM.up (s04.trans s5),hP,hl1,λ q H6 s6 hq=>hQ ⟨hax,hsq,htl,hu,hdt⟩ q H6 ((s04.trans s5).trans s6) hq⟩⟩;rcases z with z | z
   ·exact yJ z hu
   ·rw [z] at htl;simp at htl;omega
noncomputable def sp_20 (K:Frag):Sp:=λ vs H Q _=>∃ d:Nat,vs=[.int d]/\(d=2\/d=3)/\∀ q H',Same H H'->b_Z K H' q (idM d) (List.replicate d 0) 1->Q (.ref q) H'
theorem o_L (ns:List Int):gl 1 ns=1:=Int.eq_one_of_dvd_one (d_P 1 ns) (gl_u 1 ns)
theorem k_V {d:Nat} (hd:d=2\/d=3):h_N (idM d) (List.replicate d 0) 1/\b_B 1 (idM d):=by
 rcases hd with rfl | rfl
 ·exact ⟨⟨.inl rfl,by decide,by decide,by decide,.inl (by decide)⟩,by intro r hr x hx; revert r x; decide⟩
 ·exact ⟨⟨.inr rfl,by decide,by decide,by decide,.inl (by decide)⟩,by intro r hr x hx; revert r x; decide⟩
theorem g_y:c_V 1:=j_Y (B:=1) (by decide) (by decide)
theorem ok_20 (T:Txt K mg t):FnOk P w K mg base CX0 8 t.a_20 t.d_20 ["d"] (sp_20 K):=by
 have G_25:=@ok_25 P w K mg base t T;have G_7:=@ok_7 P w K mg base t T;refine T.F_20.ok sc_20 (by walk_at "v") (λ cdv A outer s H vs Q E hr h=>?_)
 ·obtain ⟨d,rfl,hd,hQ⟩:=h;refine ⟨_,(a_F (a_N (a_I G_25 hr.mo rfl T.m_25 T.F_25.kp T.b_25 .nil e_x (a_A (a_I G_7 hr.mo rfl T.m_7 T.F_7.kp T.b_7 .nil a_O (a_A (pv 0) a_B)) (a_A (a_L n_X (e_g (a_A a_E a_B)) (pv 0)) (a_A a_E a_B)))))),?_⟩;show tRet _ _ [some (.int d)] H;walk_at "r";refine ⟨d,rfl,by omega,λ r H1 _ s1 hR=>?_⟩
  try walk_at "r"
  refine ⟨by show 1<=sizeLine; decide,λ l hl=>?_⟩;have s2:Same H1 (upd H1 l (.lst [.int 0])):=Same.new hl;have el:(upd H1 l (.lst [.int 0])) l=some (.lst [.int 0]):=a_G;generalize upd H1 l (.lst [.int 0])=H2 at s2 el;refine ⟨l,d,_,rfl,rfl,el,by omega,by omega,?_,λ l2 hl2=>?_⟩
  ·rw [zR];show 1*d<=sizeLine;have:3<=sizeLine:=by decide
   omega
  have s3:Same H2 (upd H2 l2 (.lst (List.replicate (d:Int).toNat [V.int 0]).flatten)):=Same.new hl2;have e3:(upd H2 l2 (.lst (List.replicate (d:Int).toNat [V.int 0]).flatten)) l2=some (.lst ((List.replicate d (0:Int)).map V.int)):=by
   rw [a_G,zR];rcases hd with rfl | rfl <;> rfl
  generalize upd H2 l2 (.lst (List.replicate (d:Int).toNat [V.int 0]).flatten)=H3 at s3 e3;obtain ⟨g,gb⟩:=k_V hd;have hrs:=g_b (u:=1) (by decide) (o_L (List.replicate d 0));have e1:redT 1 (List.replicate d 0)=List.replicate d 0:=hrs.1;have e2:redU 1 (List.replicate d 0)=1:=hrs.2;refine ⟨false,false,false,r,l2,idM d,List.replicate d 0,1,1,rfl,((hR.up s2).up s3).b,SqB.lst e3,by simp [idM]; omega,by simp; omega,gb,by decide,g_y,λ n=>yJ g n,λ _ q H4 s4 hq=>?_⟩;rw [e1,e2] at hq;exact hQ q H4 ((s1.trans (s2.trans s3)).trans s4) hq
theorem ok_1m (T:Txt K mg t):FnOk P w K mg base CX0 3 t.a_1m t.d_1m pK' (sp_1m K):=by
 have G_7:=@ok_7 P w K mg base t T;have G_1y:=@ok_1y P w K mg base t T;refine T.F_1m.ok sc_1m (by walk_at "v") (λ cdv A outer s H vs Q E hr h=>?_)
 ·obtain ⟨b1,b2,a,MA,d,B,rfl,hA,sA,hd,hb,hB,hQ⟩:=h;have hu:=hr.units;have hd3:d<=3:=by omega
  refine ⟨_,(a_C (a_P (i:=1) sc_1m.nd rfl (Or.inl rfl) (a_I G_7 hr.mo rfl T.m_7 T.F_7.kp T.b_7 .nil a_O (a_A (a_Q a_U rfl T.z_len (by decide +kernel) (a_A (pv 0) a_B)) a_B)))
   (a_C (c_r (i:=2) (xs:=["row"]) (fr:=[]) (g:=(a_M 0)) (tt:=(tEl (tCB (e_S K) (b_D (tVar 0) tNil)))) (a_R (sc:=a_D s_1m) (N:=N_1m) rfl rfl (by decide +kernel)) rfl sc_1m.nd rfl rfl (b_M (pv 0)) (λ _ _ _ hE1=>(a_Y (N:=["row"]) (i:=0) hE1 rfl (by decide +kernel))) (λ _ _ _ hE1=>(b_J (b_T d_U rfl T.z_list (by decide +kernel) (a_A (pv 0) a_B)))))
   (a_C (c_A zG rfl (e_X rfl T.z_range (a_A a_E (a_A (a_L c_y (h_K (v:=(.int 6)) rfl T.g_LONGEST_SPAN) a_E) a_B))) (b_E (i:=3) sc_1m.nd rfl (Or.inl rfl))
   (a_C (b_R (a_T (n_Z hu) (pv 2) (pv 1) (a_V _))
   (a_F (a_N (pv 3)))
   b_z)
   (a_F (a_P (i:=2) sc_1m.nd rfl (Or.inl rfl) (a_I G_1y hr.mo rfl T.m_1y T.F_1y.kp T.b_1y .nil a_O (a_A (pv 2) (a_A (pv 0) a_B)))))))
   (a_F (a_N a_E))))),?_⟩
  show tSeq _ _ _ [some (.ref a),none,none,none] H;refine st λ N1 e1=>?_;walk_at "r";refine b_V hA ?_;rw [sA.1];refine ⟨d,rfl,by omega,λ s0 H1 hs0 s1 hI=>?_⟩;subst e1;refine st λ N1 e1=>?_;walk_at "r";refine a_S λ B0 eB=>?_;simp only [iSeq];walk_at "r";obtain ⟨xs,x1,_⟩:=(hA.up s1).walk;refine ⟨b1,⟨_,x1⟩,λ r0 hr0=>?_⟩;subst eB;refine m_J (hA.up s1) (by rw [sA.1]; omega) hr0 λ H2 s2 hR=>?_;subst e1;refine st λ N1 e1=>c_C λ B0 eB=>?_;simp only [j_H];walk_at "r";refine ⟨by omega,by omega,by omega,by omega,?_⟩;rw [show ((6:Int)+1 - 1).toNat=6 from rfl];refine d_J (g:=a_M 3) (tb:=B0) (λ i σ H3=>∃ r v3,σ=[some (.ref a),some (.ref s0),some (.ref r),v3]/\Same H2 H3/\MatL H3 r (pw d MA i)/\∀ j < i,pw d MA j≠idM d) ⟨_,_,rfl,Same.refl _,hR,λ j hj=>by omega⟩ ?_ ?_
  ·rintro i σ H3 hi ⟨r,v3,rfl,s3,hP,hno⟩;have hI3:=(hI.up s2).up s3;have s03:=(s1.trans s2).trans s3;subst eB;show tSeq _ _ _ [some (.ref a),some (.ref s0),some (.ref r),some (.int (1+(i:Int)))] H3;refine st λ N2 e2=>?_;walk_at "r";refine o_j 2 (by decide) (Dt.matB (hP.b (K:=K))) (Dt.matB (hI3.b (K:=K))) (o_l _ _ 0 _) (o_l _ _ 0 _) (b:=decide (pw d MA i=idM d)) (by rw [o_k,decide_eq_true_eq]) ?_;walk_at "r";refine ite2 (λ z=>?_) (λ z=>?_)
   ·refine hQ _ _ s03 (.inr ⟨i,hi,by omega,zY z,hno⟩)
   ·have hne:pw d MA i≠idM d:=λ e=>z (zW e);subst e2;walk_at "r";have bP:=b_B.pw (by omega) sA hb i;have w1:(i+1)*(B+3)<=7*1000003:=Nat.mul_le_mul (by omega) (by omega);have hne0:MA≠[]:=λ z=>by have:=sA.1; rw [z] at this; simp at this; omega
    refine ⟨false,false,b1,b2,r,a,_,MA,d,rfl,hP.b,hA.up s03,hne0,sA.2,λ z hz=>by rw [(Sq.pw sA i).2 z hz,sA.1],by omega,by rw [(Sq.pw sA i).1]; omega,by rw [sA.1]; omega,j_X bP hb (by omega),λ r2 H4 _ s4 hR2=>?_⟩;refine ⟨_,rfl,s3.trans s4,hR2,λ j hj=>?_⟩
    by_cases e:j=i
    ·rw [e]; exact hne
    ·exact hno j (by omega)
  ·rintro σ H3 ⟨r,v3,rfl,s3,hP,hno⟩;subst e1;walk_at "r";exact hQ _ _ ((s1.trans s2).trans s3) (.inl ⟨rfl,hno⟩)
noncomputable def g_d:List LM:=[[[1,0],[0,1]],[[-1,0],[0,-1]],[[0,-1],[1,0]],[[0,-1],[1,-1]],[[1,-1],[1,0]],[[-1,0],[0,1]],[[0,1],[1,0]],[[1,1],[0,1]],[[2,1],[1,1]],[[1,1],[1,0]],[[0,1],[1,3]],[[-1,1],[0,-1]]]
noncomputable def e_F:List LM:=[[[1,0,0],[0,1,0],[0,0,1]],[[-1,0,0],[0,-1,0],[0,0,1]],[[0,-1,0],[1,-1,0],[0,0,1]],[[0,-1,0],[1,0,0],[0,0,1]],[[1,-1,0],[1,0,0],[0,0,1]],[[0,0,1],[1,0,0],[0,1,0]],
 [[0,1,0],[1,0,0],[0,0,-1]],[[0,0,-1],[0,1,0],[1,0,0]],[[-1,0,1],[0,-1,1],[0,0,1]],[[1,0,0],[0,1,1],[0,0,1]],[[0,0,1],[1,0,1],[0,1,0]],[[0,1,0],[0,1,-1],[-1,1,0]],[[-1,1,0],[0,-1,0],[0,0,1]],[[0,0,1],[1,0,0],[0,1,1]],[[0,0,1],[1,0,0],[0,1,2]]]
noncomputable def negM (M:LM):LM:=M.map λ r=>r.map λ x=>-x
noncomputable def menu:List LM:=g_d++e_F++e_F.map negM
noncomputable def e_k (d:Nat) (A:LM):Nat->LM->Nat->Option Nat
 | 0,_,_=>none
 | f+1,X,k=>if X=idM d then some k else e_k d A f (mulM d X A) (k+1)
theorem h_O {d:Nat} {A:LM}:∀ (f k:Nat),e_k d A f (pw d A k) k=none->∀ j,k<=j->j < k+f->pw d A j≠idM d
 | 0,k,_,j,h1,h2=>by omega
 | f+1,k,h,j,h1,h2=>by
  unfold e_k at h;split at h
  ·cases h
  ·rename_i hne
   by_cases e:j=k
   ·rw [e]; exact hne
   ·exact h_O f (k+1) h j (by omega) (by omega)
theorem h_P {d:Nat} {A:LM} {m:Nat}:∀ (f k:Nat),e_k d A f (pw d A k) k=some m->k<=m/\m < k+f/\pw d A m=idM d/\∀ j,k<=j->j < m->pw d A j≠idM d
 | 0,k,h=>by cases h
 | f+1,k,h=>by
  unfold e_k at h;split at h
  ·rename_i he;cases h;exact ⟨zL _,by omega,he,λ j h1 h2=>by omega⟩
  ·rename_i hne;obtain ⟨q1,q2,q3,q4⟩:=h_P f (k+1) h;refine ⟨by omega,by omega,q3,λ j h1 h2=>?_⟩
   by_cases e:j=k
   ·rw [e]; exact hne
   ·exact q4 j (by omega) h2
noncomputable def o_M (M:LM):Bool:=decide (M.length=2\/M.length=3) && M.all (λ r=>decide (r.length=M.length) && r.all λ x=>decide (x.natAbs < 4)) && decide (e_k M.length M 6 M 0≠some 4) && (decide (e_k M.length M 6 M 0≠none) || decide (e_k M.length M 60 M 0=none))
theorem q_G:∀ M∈menu,o_M M=true:=by decide +kernel
theorem j_m {M:LM} (h:M∈menu):(M.length=2\/M.length=3)/\Sq M.length M/\b_B 2 M:=by
 have:=q_G M h;simp only [o_M,Bool.and_eq_true,decide_eq_true_eq,List.all_eq_true] at this;obtain ⟨⟨⟨h1,h2⟩,_⟩,_⟩:=this;exact ⟨h1,⟨rfl,λ r hr=>(h2 r hr).1⟩,λ r hr x hx=>(h2 r hr).2 x hx⟩
noncomputable def mixI (d:Nat) (x y:List Int) (m:Int) (k:Nat):List Int:=(List.range d).map λ t=>if t < k then x.getD t 0+m*y.getD t 0 else x.getD t 0
noncomputable def colO (i j:Nat) (m:Int) (r:List Int):List Int:=r.set j (r.getD j 0 - m*r.getD i 0)
noncomputable def colT (d i j:Nat) (m:Int) (B:LM) (t:Nat):LM:=(List.range d).map λ s=>if s < t then colO i j m (B.getD s []) else B.getD s []
theorem i_J {α:Type} {d k:Nat} {f:Nat->α} {v:α}:((List.range d).map f).set k v=(List.range d).map λ t=>if t=k then v else f t:=by
 refine yG (by simp) λ i h1 h2=>?_;simp at h1;rw [List.getElem_set]
 by_cases e:k=i
 ·subst e; simp
 ·rw [if_neg e]; simp [Ne.symm e]
theorem o_N {d:Nat} {x y:List Int} {m:Int} (h:x.length=d):mixI d x y m 0=x:=by
 unfold mixI;refine yG (by simp [h]) λ i h1 h2=>?_;simp at h1;simp [h2]
theorem o_O {d k:Nat} {x y:List Int} {m:Int}:(mixI d x y m k).set k (x.getD k 0+m*y.getD k 0)=mixI d x y m (k+1):=by
 unfold mixI;rw [i_J];refine List.map_congr_left λ t _=>?_
 by_cases e:t=k
 ·subst e; simp
 ·rw [if_neg e]
  by_cases h:t < k
  ·rw [if_pos h,if_pos (by omega)]
  ·rw [if_neg h,if_neg (by omega)]
theorem o_P {d i j:Nat} {m:Int} {B:LM} (h:B.length=d):colT d i j m B 0=B:=by
 unfold colT;refine yG (by simp [h]) λ i h1 h2=>?_;simp at h1;simp [h2]
theorem o_Q {d i j t:Nat} {m:Int} {B:LM}:(colT d i j m B t).set t (colO i j m (B.getD t []))=colT d i j m B (t+1):=by
 unfold colT;rw [i_J];refine List.map_congr_left λ s _=>?_
 by_cases e:s=t
 ·subst e; simp
 ·rw [if_neg e]
  by_cases h:s < t
  ·rw [if_pos h,if_pos (by omega)]
  ·rw [if_neg h,if_neg (by omega)]
noncomputable def d_M (d i j:Nat) (m:Int) (A:LM):LM:=colT d i j m (A.set i (mixI d (A.getD i []) (A.getD j []) m d)) d
theorem o_R {ns:List Int} {k:Int} (h0:0<=k) (h1:k < ns.length):atI (ns.map V.int) k=some (.int (ns.getD k.toNat 0)):=by
 obtain ⟨j,rfl⟩:=Int.eq_ofNat_of_zero_le h0;exact b_Y (c_N (getD_at (by omega))) rfl
noncomputable def sp_3 (K:Frag):Sp:=λ vs H Q _=>∃ (p:Addr) (ns:List Int) (k:Int),vs=[.ref p,.int k]/\SqL K H p (ns.map V.int)/\0<=k/\Q (.int (ns.getD k.toNat 0)) H
noncomputable def sp_8 (K:Frag):Sp:=λ vs H Q _=>∃ c:Int,vs=[.int c]/\∀ r H' M,Same H H'->MatL H' r M->M∈menu->(M.length:Int)=2+c.fmod 2->Q (.ref r) H'
theorem ok_3 (T:Txt K mg t):FnOk P w K mg base CX0 1 t.a_3 t.d_3 pn' (sp_3 K):=by
 refine T.F_3.ok sc_3 (by walk_at "v") (λ cdv A outer s H vs Q E hr h=>?_)
 ·obtain ⟨p,ns,k,rfl,hS,h0,q⟩:=h;refine ⟨_,(a_C (b_R (a_T i_p (pv 1) (a_Q a_U rfl T.z_len (by decide +kernel) (a_A (pv 0) a_B)) (a_V _))
   (a_F (a_N (px (pv 0) (pv 1))))
   b_z)
   (a_F (a_N a_E))),?_⟩
  show tSeq _ _ _ [some (.ref p),some (.int k)] H;walk_at "r";refine c_s (b:=false) hS ?_;walk_at "r"
  by_cases z:k < ns.length
  ·rw [zW z];exact iteT ⟨false,p,_,_,_,rfl,rfl,hS,o_R h0 z,q⟩
  ·rw [zX z];refine iteF ?_;have e:ns.getD k.toNat 0=0:=by
    rw [zqc,List.getElem?_eq_none (by omega)];rfl
   rw [e] at q;exact q
theorem d_N {n k:Nat} (h:k < n):ixN n (k:Int)=some k:=by
 unfold ixN;rw [if_pos (by omega),if_pos (by omega)];simp
theorem o_S (a b v:Int) (hv:0 < v):gcdI (a*v) (b*v)=gcdI a b*v:=by
 unfold gcdI;rw [Int.gcd_mul_right];have:((v.natAbs:Nat):Int)=v:=by omega
 rw [Int.natCast_mul,this]
theorem r_R {u v:Int} (hv:0 < v) (ts:List Int):gl (u*v) (ts.map (·*v))=gl u ts*v:=by
 have h0:∀ (ts:List Int) (a:Int),(ts.map (·*v)).foldl gcdI (a*v)=ts.foldl gcdI a*v:=by
  intro ts
  induction ts with
  | nil=>intro a; rfl
  | cons t r ih=>intro a; rw [List.map_cons,List.foldl_cons,List.foldl_cons,o_S _ _ _ hv,ih]
 unfold gl;have:absI (u*v)=absI u*v:=by
  unfold absI;rcases Int.lt_or_le u 0 with l | l
  ·have h2:u*v < 0:=Int.mul_neg_of_neg_of_pos l hv;rw [if_pos l,if_pos h2,Int.neg_mul]
  ·have h2:0<=u*v:=Int.mul_nonneg l (Int.le_of_lt hv);rw [if_neg (by omega),if_neg (by omega)]
 rw [this,h0]
theorem l_I {u v:Int} {ts ns:List Int} (hv:0 < v) (gu:gl u ts=1) (hl:ts.length=ns.length) (h:∀ (i:Nat) (x y:Int),ts[i]?=some x->ns[i]?=some y->x*v=y*u):u∣v:=by
 have e:=r_R (u:=u) hv ts;rw [gu,Int.one_mul] at e;rw [← e];refine e_z.mpr ⟨Int.dvd_mul_right u v,λ t ht=>?_⟩;obtain ⟨x,hx,rfl⟩:=List.mem_map.mp ht;obtain ⟨i,hi,ei⟩:=yF hx;have hi2:i < ns.length:=by omega
 have:=h i x ns[i] (by simp [hi,ei]) (by simp [hi2]);show u∣x*v;rw [this];exact Int.dvd_mul_left _ _
theorem o_T {u v:Int} {ts ns:List Int} (hu:0 < u) (hv:0 < v) (gu:gl u ts=1) (gv:gl v ns=1) (hl:ts.length=ns.length) (h:∀ (i:Nat) (x y:Int),ts[i]?=some x->ns[i]?=some y->x*v=y*u):ts=ns/\u=v:=by
 have h1:=l_I hv gu hl h;have h2:=l_I hu gv hl.symm λ i x y e1 e2=>(h i y x e2 e1).symm;have e:u=v:=Int.dvd_antisymm (by omega) (by omega) h1 h2;subst e;refine ⟨yG hl λ i h1 h2=>?_,rfl⟩;exact Int.eq_of_mul_eq_mul_right (by omega) (h i _ _ (by simp [h1]) (by simp [h2]))
theorem c_t {u:Int} {ns:List Int} (h:u≠0) {i:Nat} {x y:Int} (e1:ns[i]?=some x) (e2:(redT u ns)[i]?=some y):x*redU u ns=y*u:=by
 unfold redT at e2;rw [zH,e1] at e2;cases e2;exact s_S h (zqb e1)
theorem h_Q {p w:Int} {xs ys:List Int} (hp:0 < p) (hw:0 < w) (hl:xs.length=ys.length) (h:∀ (i:Nat) (x y:Int),xs[i]?=some x->ys[i]?=some y->x*w=y*p):redT p xs=redT w ys/\redU p xs=redU w ys:=by
 have p0:p≠0:=by omega
 have w0:w≠0:=by omega
 refine o_T (e_r xs p0) (e_r ys w0) (j_l p0) (j_l w0) (by simp [redT,hl]) λ i a b ea eb=>?_;have hi:i < xs.length:=by have:=(zqa ea).1; simpa [redT] using this
 have hi2:i < ys.length:=by omega
 have k1:=c_t p0 (i:=i) (x:=xs[i]) (by simp [hi]) ea;have k2:=c_t w0 (i:=i) (x:=ys[i]) (by simp [hi2]) eb;have k3:=h i xs[i] ys[i] (by simp [hi]) (by simp [hi2]);have c1:(a*redU w ys)*(p*w)=(b*redU p xs)*(p*w):=by
  have:(a*redU w ys)*(p*w)=(a*p)*(redU w ys*w):=by grind
  rw [this,← k1];have:(b*redU p xs)*(p*w)=(b*w)*(redU p xs*p):=by grind
  rw [this,← k2];have:xs[i]*redU p xs*(redU w ys*w)=(xs[i]*w)*(redU p xs*redU w ys):=by grind
  rw [this,k3];grind
 exact Int.eq_of_mul_eq_mul_right (Int.mul_ne_zero p0 w0) c1
theorem e_s {c k:Int}:∀ (r xs ys:List Int),xs.length=ys.length->(∀ (i:Nat) (x y:Int),xs[i]?=some x->ys[i]?=some y->x*c=y*k)->dotI r xs*c=dotI r ys*k
 | [],xs,ys,_,_=>by simp [dotI]
 | a :: r,[],ys,hl,_=>by
  have:ys=[]:=zO hl.symm;subst this; simp [dotI]
 | a :: r,x :: xs,[],hl,_=>by simp at hl
 | a :: r,x :: xs,y :: ys,hl,h=>by
  have ih:=e_s r xs ys (by simpa using hl) λ i p q e1 e2=>h (i+1) p q (by simpa using e1) (by simpa using e2);have h0:=h 0 x y rfl rfl;have e1:dotI (a :: r) (x :: xs)=a*x+dotI r xs:=by simp [dotI]
  have e2:dotI (a :: r) (y :: ys)=a*y+dotI r ys:=by simp [dotI]
  rw [e1,e2,Int.add_mul,Int.add_mul,ih,Int.mul_assoc,h0,Int.mul_assoc]
noncomputable def affT (N:LM) (T S:List Int):List Int:=List.zipWith (λ r s=>dotI r T+s) N S
theorem o_U {w:Int} {N:LM} {T S:List Int} (hw:0 < w) :
  redT (redU w S*redU w T) (movT N (redT w S) (redU w S) (redT w T) (redU w T))=redT w (affT N T S)/\redU (redU w S*redU w T) (movT N (redT w S) (redU w S) (redT w T) (redU w T))=redU w (affT N T S):=by
 have w0:w≠0:=by omega
 have hu:0 < redU w T:=e_r T w0;have hv:0 < redU w S:=e_r S w0;refine h_Q (Int.mul_pos hv hu) hw (by simp [movT,affT,redT]) λ i x y ex ey=>?_;unfold movT at ex;unfold affT at ey;rw [List.getElem?_zipWith] at ex ey;cases en:N[i]? with
 | none=>rw [en] at ex; cases ex
 | some r =>
  rw [en] at ex ey;cases es:S[i]? with
  | none=>rw [es] at ey; cases ey
  | some s =>
   rw [es] at ey;cases et:(redT w S)[i]? with
   | none=>rw [et] at ex; cases ex
   | some s' =>
    rw [et] at ex;cases ex;cases ey;have k1:=c_t w0 es et;have k2:dotI r (redT w T)*w=dotI r T*redU w T:=e_s r _ _ (by simp [redT]) λ j a b e1 e2=>(c_t w0 e2 e1).symm;have:(dotI r (redT w T)*redU w S+s'*redU w T)*w=(dotI r (redT w T)*w)*redU w S+(s'*w)*redU w T:=by grind
    rw [this,k2,← k1];grind
theorem v2 {T:List Int} (h:T.length=2):∃ a b,T=[a,b]:=by
 match T,h with
 | [a,b],_=>exact ⟨a,b,rfl⟩
theorem v3 {T:List Int} (h:T.length=3):∃ a b c,T=[a,b,c]:=by
 match T,h with
 | [a,b,c],_=>exact ⟨a,b,c,rfl⟩
theorem aff2 (a b c d x y p q:Int):affT [[a,b],[c,d]] [x,y] [p,q]=[a*x+b*y+p,c*x+d*y+q]:=by simp [affT,dotI]
theorem aff3 (a b c d e f g i j x y z p q r:Int):affT [[a,b,c],[d,e,f],[g,i,j]] [x,y,z] [p,q,r]=[a*x+(b*y+c*z)+p,d*x+(e*y+f*z)+q,g*x+(i*y+j*z)+r]:=by simp [affT,dotI]
structure Af (d:Nat) (M:LM) (T:List Int):Prop where
 sq:Sq d M
 len:T.length=d
theorem o_V {d:Nat} {N:LM} {T S:List Int} (h:Sq d N) (hs:S.length=d):(affT N T S).length=d:=by simp [affT,h.1,hs]
theorem m_Q {d:Nat} (hd:d=2\/d=3) {M N Z:LM} {T S R:List Int} (h1:Af d M T) (h2:Af d N S) (h3:Af d Z R):affT Z (affT N T S) R=affT (mulM d Z N) T (affT Z S R):=by
 rcases hd with rfl | rfl
 ·obtain ⟨a,b,c,e,rfl⟩:=sq2 h2.sq;obtain ⟨a',b',c',e',rfl⟩:=sq2 h3.sq;obtain ⟨x,y,rfl⟩:=v2 h1.len;obtain ⟨p,q,rfl⟩:=v2 h2.len;obtain ⟨p',q',rfl⟩:=v2 h3.len;rw [aff2,aff2,aff2,mul2,aff2];simp only [List.cons.injEq,and_true];constructor <;> grind
 ·obtain ⟨a,b,c,e,f,g,i,j,k,rfl⟩:=sq3 h2.sq;obtain ⟨a',b',c',e',f',g',i',j',k',rfl⟩:=sq3 h3.sq;obtain ⟨x,y,z,rfl⟩:=v3 h1.len;obtain ⟨p,q,r,rfl⟩:=v3 h2.len;obtain ⟨p',q',r',rfl⟩:=v3 h3.len;rw [aff3,aff3,aff3,mul3,aff3];simp only [List.cons.injEq,and_true];refine ⟨?_,?_,?_⟩ <;> grind
theorem o_W {d:Nat} (hd:d=2\/d=3) {M:LM} {T:List Int} (h:Af d M T):affT M (List.replicate d 0) T=T/\affT (idM d) T (List.replicate d 0)=T:=by
 rcases hd with rfl | rfl
 ·obtain ⟨a,b,c,e,rfl⟩:=sq2 h.sq;obtain ⟨x,y,rfl⟩:=v2 h.len;rw [id2,show List.replicate 2 (0:Int)=[0,0] from rfl,aff2,aff2];simp
 ·obtain ⟨a,b,c,e,f,g,i,j,k,rfl⟩:=sq3 h.sq;obtain ⟨x,y,z,rfl⟩:=v3 h.len;rw [id3,show List.replicate 3 (0:Int)=[0,0,0] from rfl,aff3,aff3];simp
theorem det2 (a b c d:Int):detM 2 [[a,b],[c,d]]=a*d - b*c:=by
 simp [detM,altS,c_O,sg]
 try grind
theorem det3 (a b c d e f g i j:Int):detM 3 [[a,b,c],[d,e,f],[g,i,j]]=(b*f - c*e)*g+(c*d - a*f)*i+(a*e - b*d)*j:=by
 simp [detM,altS,c_O,sg]
 try grind
noncomputable abbrev AP:=LM × List Int
noncomputable def aff (d:Nat) (x y:AP):AP:=(mulM d y.1 x.1,affT y.1 x.2 y.2)
noncomputable def idA (d:Nat):AP:=(idM d,List.replicate d 0)
theorem r_S {d:Nat}:Af d (idA d).1 (idA d).2:=⟨e_j,by simp [idA]⟩
theorem r_T {d:Nat} {x y:AP} (hy:Af d y.1 y.2):Af d (aff d x y).1 (aff d x y).2:=⟨hy.sq.mul,o_V hy.sq hy.len⟩
theorem k_W {d:Nat} (hd:d=2\/d=3) {x y z:AP} (hx:Af d x.1 x.2) (hy:Af d y.1 y.2) (hz:Af d z.1 z.2):aff d (aff d x y) z=aff d x (aff d y z):=by
 show (mulM d z.1 (mulM d y.1 x.1),affT z.1 (affT y.1 x.2 y.2) z.2)=(mulM d (mulM d z.1 y.1) x.1,affT (mulM d z.1 y.1) x.2 (affT z.1 y.2 z.2));rw [mul_assoc hd hz.sq hy.sq hx.sq,m_Q hd hx hy hz]
theorem l_J {d:Nat} (hd:d=2\/d=3) {x:AP} (hx:Af d x.1 x.2):aff d x (idA d)=x/\aff d (idA d) x=x:=by
 constructor
 ·show (mulM d (idM d) x.1,affT (idM d) x.2 (List.replicate d 0))=x;rw [(c_m hd hx.sq).1,(o_W hd hx).2]
 ·show (mulM d x.1 (idM d),affT x.1 (List.replicate d 0) x.2)=x;rw [(c_m hd hx.sq).2,(o_W hd hx).1]
noncomputable def pwA (d:Nat) (x:AP):Nat->AP
 | 0=>idA d
 | k+1=>aff d (pwA d x k) x
theorem d_W {d:Nat} {x:AP} (h:Af d x.1 x.2):∀ k,Af d (pwA d x k).1 (pwA d x k).2
 | 0=>r_S
 | k+1=>r_T h
theorem j_n {d:Nat} (hd:d=2\/d=3) {x:AP} (h:Af d x.1 x.2) (a:Nat):∀ b,aff d (pwA d x a) (pwA d x b)=pwA d x (a+b)
 | 0=>(l_J hd (d_W h a)).1
 | b+1=>by
  show aff d (pwA d x a) (aff d (pwA d x b) x)=aff d (pwA d x (a+b)) x;rw [← k_W hd (d_W h a) (d_W h b) h,j_n hd h a b]
theorem q_H {d:Nat} (hd:d=2\/d=3) {x:AP} (h:Af d x.1 x.2):pwA d x 1=x:=(l_J hd h).2
theorem j_Z {x c:Int} (hc:c≠0) (h:c∣x):(x.fdiv c).natAbs<=x.natAbs:=by
 have e:x.fdiv c*c=x:=d_E hc h;have:x.natAbs=(x.fdiv c).natAbs*c.natAbs:=by rw [← yE,e]
 rw [this];exact Nat.le_mul_of_pos_right _ (by omega)
theorem f_G {w:Int} {ts:List Int} {B:Nat} (hw:w≠0) (h:c_a B ts):c_a B (redT w ts):=λ x hx=>by
 obtain ⟨t,ht,rfl⟩:=List.mem_map.mp hx;exact Nat.lt_of_le_of_lt (j_Z (g_K ts hw) (e_T (k_R ht))) (h t ht)
theorem d_H {w:Int} (ts:List Int) (hw:0 < w):0 < redU w ts/\redU w ts<=w:=by
 have h1:0 < redU w ts:=e_r ts (by omega);have h2:=j_Z (x:=w) (g_K ts (by omega)) (e_T (gl_u w ts));have h3:(redU w ts).natAbs<=w.natAbs:=h2;exact ⟨h1,by omega⟩
theorem h_R {d B C D:Nat} {N:LM} {T S:List Int} (sN:Sq d N) (hd:d<=3) (hN:b_B B N) (hT:c_a C T) (hS:c_a D S) (hD:D<=B+C):c_a (B+C+3) (affT N T S):=λ x hx=>by
 obtain ⟨i,hi,rfl⟩:=yF hx;unfold affT at hi ⊢;rw [List.length_zipWith] at hi;rw [List.getElem_zipWith];have h1:=g_U (N[i]'(by omega)) T (hN _ (yA _)) hT;have h2:=hS _ (yA (l:=S) (n:=i) (by omega));have h3:=Int.natAbs_add_le (dotI (N[i]'(by omega)) T) (S[i]'(by omega));have h4:(N[i]'(by omega)).length=d:=sN.2 _ (yA _);rw [h4] at h1;have h5:2 ^ D<=2 ^ (B+C):=zM (by decide) hD;have h6:d*2 ^ (B+C)<=3*2 ^ (B+C):=zK _ hd;have h7:2 ^ (B+C+3)=8*2 ^ (B+C):=by rw [Nat.pow_add]; omega
 have h8:=Nat.two_pow_pos (B+C);omega
theorem h_S {d B:Nat} (hd:d=2\/d=3) {x:AP} (h:Af d x.1 x.2) (h1:b_B B x.1) (h2:c_a B x.2):∀ k,b_B ((k+1)*(B+3)) (pwA d x k).1/\c_a ((k+1)*(B+3)) (pwA d x k).2
 | 0=>by
  have hp:1 < 2 ^ ((0+1)*(B+3)):=Nat.one_lt_two_pow (by omega);refine ⟨λ r hr y hy=>?_,λ y hy=>?_⟩
  ·obtain ⟨i,_,rfl⟩:=List.mem_map.mp hr;obtain ⟨k,_,rfl⟩:=List.mem_map.mp hy;split
   ·exact hp
   ·exact zI (by decide) (Nat.le_of_lt hp)
  ·rw [List.eq_of_mem_replicate hy];exact zI (by decide) (Nat.le_of_lt hp)
 | k+1=>by
  obtain ⟨i1,i2⟩:=h_S hd h h1 h2 k;have ha:=d_W h k;have e:(k+1+1)*(B+3)=B+(k+1)*(B+3)+3:=by rw [Nat.succ_mul]; omega
  rw [e];exact ⟨h1.mulG i1 h.sq ha.sq (by omega),h_R h.sq (by omega) h1 i2 h2 (by omega)⟩
theorem dvs (x y:Int) (h1:y≠0) (h2:y.natAbs < 1073741824):f_K x y:=⟨h1,zI ((Nat.log2_lt (by omega)).mpr (show y.natAbs < 2 ^ 30 from h2)) (by decide)⟩
theorem fms (x y:Int) (h:0 < y):0<=x.fmod y/\x.fmod y < y:=⟨Int.fmod_nonneg_of_pos x h,Int.fmod_lt_of_pos x h⟩
noncomputable def NfAt (K:Frag) (H:Hp) (r:Addr) (u:Int) (x:AP):Prop:=b_Z K H r x.1 (redT u x.2) (redU u x.2)
theorem NfAt.up {H H':Hp} {r:Addr} {u:Int} {x:AP} (h:NfAt K H r u x) (s:Same H H'):NfAt K H' r u x:=b_Z.up h s
theorem i_K {H:Hp} {r:Addr} {d:Nat} {w:Int} {x y:AP} (hw:0 < w) (h:b_Z K H r (mulM d y.1 x.1) (redT (redU w y.2*redU w x.2) (movT y.1 (redT w y.2) (redU w y.2) (redT w x.2) (redU w x.2))) (redU (redU w y.2*redU w x.2) (movT y.1 (redT w y.2) (redU w y.2) (redT w x.2) (redU w x.2)))):NfAt K H r w (aff d x y):=by
 rw [(o_U hw).1,(o_U hw).2] at h;exact h
theorem s_T {H:Hp} {r:Addr} {M:LM} {ts:List Int} {u:Int} (h:b_Z K H r M ts u) (h0:0 < u) (g:gl u ts=1):NfAt K H r u (M,ts):=by
 have hrs:=g_b h0 g;have e1:redT u ts=ts:=hrs.1;have e2:redU u ts=u:=hrs.2;unfold NfAt;rw [e1,e2];exact h
theorem h_T {u:Int} (h0:0 < u) (d:Nat):redT u (List.replicate d 0)=List.replicate d 0/\redU u (List.replicate d 0)=1:=by
 have h1:=h_Q (p:=u) (w:=1) (xs:=List.replicate d 0) (ys:=List.replicate d 0) h0 (by decide) rfl λ i x y e1 e2=>by
  rw [List.eq_of_mem_replicate (zqb e1),List.eq_of_mem_replicate (zqb e2)];simp
 have hrs:=g_b (u:=1) (by decide) (o_L (List.replicate d 0));have e1:redT 1 (List.replicate d 0)=List.replicate d 0:=hrs.1;have e2:redU 1 (List.replicate d 0)=1:=hrs.2;rw [h1.1,h1.2,e1,e2];exact ⟨rfl,rfl⟩
theorem s_U {H:Hp} {r:Addr} {d:Nat} {u:Int} (h0:0 < u):NfAt K H r u (idA d) ↔ b_Z K H r (idM d) (List.replicate d 0) 1:=by
 unfold NfAt idA;rw [(h_T h0 d).1,(h_T h0 d).2]
theorem c_a.le {B C:Nat} {ts:List Int} (h:c_a B ts) (hc:B<=C):c_a C ts:=λ x hx=>zI (h x hx) (zM (by decide) hc)
noncomputable def mv (M:LM) (v:List Int):List Int:=M.map λ r=>dotI r v
noncomputable def va (v w:List Int):List Int:=List.zipWith (·+·) v w
noncomputable def addM (A B:LM):LM:=List.zipWith va A B
noncomputable def i_L (d:Nat):LM:=List.replicate d (List.replicate d 0)
noncomputable def sumM (d:Nat) (A:LM):Nat->LM
 | 0=>i_L d
 | n+1=>addM (mulM d A (sumM d A n)) (idM d)
theorem b_H {d:Nat} {A:LM} {v:List Int} (h:Sq d A):(mv A v).length=d:=by unfold mv; rw [zqe]; exact h.1
theorem mv2 (a b c e x y:Int):mv [[a,b],[c,e]] [x,y]=[a*x+b*y,c*x+e*y]:=by simp [mv,dotI]
theorem mv3 (a b c a' b' c' a'' b'' c'' x y z:Int):mv [[a,b,c],[a',b',c'],[a'',b'',c'']] [x,y,z]=[a*x+(b*y+c*z),a'*x+(b'*y+c'*z),a''*x+(b''*y+c''*z)]:=by simp [mv,dotI]
theorem va2 (a b c e:Int):va [a,b] [c,e]=[a+c,b+e]:=rfl
theorem va3 (a b c x y z:Int):va [a,b,c] [x,y,z]=[a+x,b+y,c+z]:=rfl
theorem e_l {d:Nat} (hd:d=2\/d=3) {A B:LM} (hA:Sq d A) (hB:Sq d B) {v:List Int} (hv:v.length=d):mv (mulM d A B) v=mv A (mv B v):=by
 rcases hd with rfl | rfl
 ·obtain ⟨a,b,c,e,rfl⟩:=sq2 hA;obtain ⟨a',b',c',e',rfl⟩:=sq2 hB;obtain ⟨x,y,rfl⟩:=v2 hv;rw [mul2,mv2,mv2,mv2];simp only [List.cons.injEq,and_true];refine ⟨?_,?_⟩ <;> grind
 ·obtain ⟨a1,a2,a3,a4,a5,a6,a7,a8,a9,rfl⟩:=sq3 hA;obtain ⟨b1,b2,b3,b4,b5,b6,b7,b8,b9,rfl⟩:=sq3 hB;obtain ⟨x,y,z,rfl⟩:=v3 hv;rw [mul3,mv3,mv3,mv3];simp only [List.cons.injEq,and_true];refine ⟨?_,?_,?_⟩ <;> grind
theorem g_z {d:Nat} (hd:d=2\/d=3) {A:LM} (hA:Sq d A) {v w:List Int} (hv:v.length=d) (hw:w.length=d):mv A (va v w)=va (mv A v) (mv A w):=by
 rcases hd with rfl | rfl
 ·obtain ⟨a,b,c,e,rfl⟩:=sq2 hA;obtain ⟨x,y,rfl⟩:=v2 hv;obtain ⟨x',y',rfl⟩:=v2 hw;rw [va2,mv2,mv2,mv2,va2];simp only [List.cons.injEq,and_true];refine ⟨?_,?_⟩ <;> grind
 ·obtain ⟨a1,a2,a3,a4,a5,a6,a7,a8,a9,rfl⟩:=sq3 hA;obtain ⟨x,y,z,rfl⟩:=v3 hv;obtain ⟨x',y',z',rfl⟩:=v3 hw;rw [va3,mv3,mv3,mv3,va3];simp only [List.cons.injEq,and_true];refine ⟨?_,?_,?_⟩ <;> grind
theorem q_I {d:Nat} (hd:d=2\/d=3) {A B:LM} (hA:Sq d A) (hB:Sq d B) {v:List Int} (hv:v.length=d):mv (addM A B) v=va (mv A v) (mv B v):=by
 rcases hd with rfl | rfl
 ·obtain ⟨a,b,c,e,rfl⟩:=sq2 hA;obtain ⟨a',b',c',e',rfl⟩:=sq2 hB;obtain ⟨x,y,rfl⟩:=v2 hv;show mv [[a+a',b+b'],[c+c',e+e']] [x,y]=_;rw [mv2,mv2,mv2,va2];simp only [List.cons.injEq,and_true];refine ⟨?_,?_⟩ <;> grind
 ·obtain ⟨a1,a2,a3,a4,a5,a6,a7,a8,a9,rfl⟩:=sq3 hA;obtain ⟨b1,b2,b3,b4,b5,b6,b7,b8,b9,rfl⟩:=sq3 hB;obtain ⟨x,y,z,rfl⟩:=v3 hv;show mv [[a1+b1,a2+b2,a3+b3],[a4+b4,a5+b5,a6+b6],[a7+b7,a8+b8,a9+b9]] [x,y,z]=_;rw [mv3,mv3,mv3,va3];simp only [List.cons.injEq,and_true];refine ⟨?_,?_,?_⟩ <;> grind
theorem i_M {d:Nat} (hd:d=2\/d=3) {v:List Int} (hv:v.length=d):mv (idM d) v=v:=by
 rcases hd with rfl | rfl
 ·obtain ⟨x,y,rfl⟩:=v2 hv;rw [id2,mv2]; simp
 ·obtain ⟨x,y,z,rfl⟩:=v3 hv;rw [id3,mv3]; simp
theorem k_a {d:Nat} (hd:d=2\/d=3) {v:List Int} (hv:v.length=d):mv (i_L d) v=List.replicate d 0:=by
 rcases hd with rfl | rfl
 ·obtain ⟨x,y,rfl⟩:=v2 hv;show mv [[0,0],[0,0]] [x,y]=[0,0];rw [mv2]; simp
 ·obtain ⟨x,y,z,rfl⟩:=v3 hv;show mv [[0,0,0],[0,0,0],[0,0,0]] [x,y,z]=[0,0,0];rw [mv3]; simp
theorem g_e {d:Nat} (hd:d=2\/d=3) {A:LM} (hA:Sq d A):mv A (List.replicate d 0)=List.replicate d 0:=by
 rcases hd with rfl | rfl
 ·obtain ⟨a,b,c,e,rfl⟩:=sq2 hA;show mv [[a,b],[c,e]] [0,0]=[0,0];rw [mv2]; simp
 ·obtain ⟨a1,a2,a3,a4,a5,a6,a7,a8,a9,rfl⟩:=sq3 hA;show mv [[a1,a2,a3],[a4,a5,a6],[a7,a8,a9]] [0,0,0]=[0,0,0];rw [mv3]; simp
theorem f_S (N:LM) (T S:List Int):affT N T S=va (mv N T) S:=by
 unfold affT va mv;rw [List.zipWith_map_left]
theorem q_J {d:Nat} {A B:LM} (hA:Sq d A) (hB:Sq d B):Sq d (addM A B):=by
 refine ⟨by unfold addM; rw [List.length_zipWith,hA.1,hB.1]; omega,λ r hr=>?_⟩;unfold addM at hr;obtain ⟨i,hi,rfl⟩:=yF hr;rw [List.getElem_zipWith];unfold va;rw [List.length_zipWith,hA.2 _ (yA _),hB.2 _ (yA _)];omega
theorem o_X (d:Nat):Sq d (i_L d):=⟨by simp [i_L],λ r hr=>by rw [List.eq_of_mem_replicate hr]; simp⟩
theorem q_K {d:Nat} {A:LM} (hA:Sq d A):∀ n,Sq d (sumM d A n)
 | 0=>o_X d
 | n+1=>q_J hA.mul e_j
theorem j_o {d:Nat} (hd:d=2\/d=3) {A:LM} (hA:Sq d A) {ts:List Int} (ht:ts.length=d):∀ n,(pwA d (A,ts) n).2=mv (sumM d A n) ts
 | 0=>(k_a hd ht).symm
 | n+1=>by
  show affT A (pwA d (A,ts) n).2 ts=mv (addM (mulM d A (sumM d A n)) (idM d)) ts;rw [j_o hd hA ht n,f_S,q_I hd hA.mul e_j ht,e_l hd hA (q_K hA n) ht,i_M hd ht]
theorem j_p {d:Nat} (hd:d=2\/d=3) {A P P':LM} (hA:Sq d A) (hP:Sq d P) (hP':Sq d P') (e1:mulM d P' P=idM d) (e2:mulM d P P'=idM d) {ts:List Int} (ht:ts.length=d) :
  ∀ n,(pwA d (mulM d (mulM d P A) P',ts) n).2=mv P (pwA d (A,mv P' ts) n).2
 | 0=>(g_e hd hP).symm
 | n+1=>by
  have af:=(d_W (x:=(A,mv P' ts)) ⟨hA,b_H hP'⟩ n).len;show affT (mulM d (mulM d P A) P') (pwA d (mulM d (mulM d P A) P',ts) n).2 ts=mv P (affT A (pwA d (A,mv P' ts) n).2 (mv P' ts));rw [j_p hd hA hP hP' e1 e2 ht n,f_S,f_S];generalize (pwA d (A,mv P' ts) n).2=w at af;have af':w.length=d:=af;rw [g_z hd hP (b_H hA) (b_H hP'),← e_l hd hP hP' ht,e2,i_M hd ht];rw [e_l hd hP.mul hP' (b_H hP),e_l hd hP hA (b_H hP'),← e_l hd hP' hP af',e1,i_M hd af']
noncomputable def spn (d:Nat) (A:LM):Int:=match e_k d A 6 A 0 with
 | some k=>(k:Int)+1
 | none=>0
theorem f_H (d:Nat) (A:LM):h_L d A (spn d A):=by
 unfold spn;have e0:pw d A 0=A:=rfl;cases e:e_k d A 6 A 0 with
 | none=>exact .inl ⟨rfl,λ j hj=>h_O (d:=d) (A:=A) 6 0 (by rw [e0]; exact e) j (by omega) (by omega)⟩
 | some m =>
  obtain ⟨_,q2,q3,q4⟩:=h_P (d:=d) (A:=A) 6 0 (by rw [e0]; exact e);exact .inr ⟨m,by omega,rfl,q3,λ i hi=>q4 i (by omega) hi⟩
theorem i_N {d:Nat} {A:LM} {v w:Int} (h1:h_L d A v) (h2:h_L d A w):v=w:=by
 rcases h1 with ⟨rfl,a⟩ | ⟨j,hj,rfl,a1,a2⟩
 ·rcases h2 with ⟨rfl,_⟩ | ⟨k,hk,rfl,b1,_⟩
  ·rfl
  ·exact yJ b1 (a k hk)
 ·rcases h2 with ⟨rfl,b⟩ | ⟨k,hk,rfl,b1,b2⟩
  ·exact yJ a1 (b j hj)
  ·have n1:¬ j < k:=λ z=>b2 j z a1;have n2:¬ k < j:=λ z=>a2 k z b1;omega
theorem d_O {d:Nat} {A:LM} {v:Int} (h:h_L d A v):v=spn d A:=i_N h (f_H d A)
theorem e_t (d:Nat) (A:LM):0<=spn d A/\spn d A<=6:=by
 rcases f_H d A with ⟨e,_⟩ | ⟨j,hj,e,_⟩ <;> rw [e] <;> omega
theorem c_J {d:Nat} (hd:d=2\/d=3) {A B:LM} (hA:Sq d A) (h:Conj d A B):spn d B=spn d A:=by
 have tr:=h.same hd hA;refine i_N (f_H d B) ?_;rcases f_H d A with ⟨e,a⟩ | ⟨j,hj,e,a1,a2⟩
 ·rw [e];exact .inl ⟨rfl,λ j hj z=>a j hj ((tr j).mp z)⟩
 ·rw [e];exact .inr ⟨j,hj,rfl,(tr j).mpr a1,λ i hi z=>a2 i hi ((tr i).mp z)⟩
theorem j_q {d:Nat} {A:LM} (h:Sq d A):Sq d (negM A):=⟨by unfold negM; rw [zqe]; exact h.1,λ r hr=>by
 obtain ⟨s,hs,rfl⟩:=List.mem_map.mp hr;rw [zqe];exact h.2 s hs⟩
theorem h_U {d:Nat} (hd:d=2\/d=3) {A B:LM} (hA:Sq d A) (h:Conj d A B):Conj d (negM A) (negM B):=by
 obtain ⟨P,P',h1,h2,h3,h4,rfl⟩:=h;refine ⟨P,P',h1,h2,h3,h4,?_⟩;clear h3 h4;rcases hd with rfl | rfl
 ·obtain ⟨a,b,c,e,rfl⟩:=sq2 hA;obtain ⟨p1,p2,p3,p4,rfl⟩:=sq2 h1;obtain ⟨q1,q2,q3,q4,rfl⟩:=sq2 h2;show negM (mulM 2 (mulM 2 _ _) _)=mulM 2 (mulM 2 _ [[-a,-b],[-c,-e]]) _;rw [mul2,mul2,mul2,mul2];simp only [negM,List.map_cons,List.map_nil,List.cons.injEq,and_true];refine ⟨⟨?_,?_⟩,?_,?_⟩ <;> grind
 ·obtain ⟨a1,a2,a3,a4,a5,a6,a7,a8,a9,rfl⟩:=sq3 hA;obtain ⟨p1,p2,p3,p4,p5,p6,p7,p8,p9,rfl⟩:=sq3 h1;obtain ⟨q1,q2,q3,q4,q5,q6,q7,q8,q9,rfl⟩:=sq3 h2;show negM (mulM 3 (mulM 3 _ _) _)=mulM 3 (mulM 3 _ [[-a1,-a2,-a3],[-a4,-a5,-a6],[-a7,-a8,-a9]]) _;rw [mul3,mul3,mul3,mul3];simp only [negM,List.map_cons,List.map_nil,List.cons.injEq,and_true];refine ⟨⟨?_,?_,?_⟩,⟨?_,?_,?_⟩,?_,?_,?_⟩ <;> grind
theorem g_f {d:Nat} (hd:d=2\/d=3) {M N:LM} (hM:Sq d M) (hN:Sq d N):detM d (mulM d N M)=detM d N*detM d M:=by
 rcases hd with rfl | rfl
 ·obtain ⟨a,b,c,e,rfl⟩:=sq2 hM;obtain ⟨a',b',c',e',rfl⟩:=sq2 hN;rw [mul2,det2,det2,det2];grind
 ·obtain ⟨a1,a2,a3,a4,a5,a6,a7,a8,a9,rfl⟩:=sq3 hM;obtain ⟨b1,b2,b3,b4,b5,b6,b7,b8,b9,rfl⟩:=sq3 hN;rw [mul3,det3,det3,det3];grind
theorem r_U {d:Nat} (hd:d=2\/d=3):detM d (idM d)=1:=by
 rcases hd with rfl | rfl
 ·rw [id2,det2]; decide
 ·rw [id3,det3]; decide
theorem h_V {d:Nat} (hd:d=2\/d=3) {A B:LM} (hA:Sq d A) (h:Conj d A B):detM d B=detM d A:=by
 obtain ⟨P,P',h1,h2,h3,h4,rfl⟩:=h;have e:detM d P*detM d P'=1:=by rw [← g_f hd h2 h1,h4,r_U hd]
 rw [g_f hd h2 h1.mul,g_f hd hA h1];have:detM d P*detM d A*detM d P'=(detM d P*detM d P')*detM d A:=by grind
 rw [this,e,Int.one_mul]
noncomputable def o_Y (d:Nat) (A:LM):Bool:=!(decide (detM d A=-1) && (decide (spn d A≠0) && (decide (spn d (negM A)=1) || decide (2 < spn d (negM A))))) || decide (sumM d A (spn d A).toNat=i_L d)
noncomputable def Nice (d:Nat) (M:LM):Prop:=detM d M=-1->spn d M≠0->(spn d (negM M)=1\/2 < spn d (negM M))->∀ ts:List Int,ts.length=d->(pwA d (M,ts) (spn d M).toNat).2=List.replicate d 0
structure Kd (d:Nat) (M:LM) (ts:List Int) (u:Int):Prop where
 hd:d=2\/d=3
 af:Af d M ts
 bm:b_B 1700 M
 bt:c_a 1700 ts
 pos:0 < u
 bu:u < 2 ^ 71
 low:gl u ts=1
 det:detM d M=1\/detM d M=-1
 nice:Nice d M
 endl:spn d M=0->spn d (negM M)=0
noncomputable def farT (d:Nat) (M:LM) (ts:List Int):List Int:=(pwA d (M,ts) (spn d M).toNat).2
noncomputable def c_E (d:Nat) (M:LM) (ts:List Int):Bool:=decide (farT d M ts=List.replicate d 0)
noncomputable def f_O (d:Nat) (M:LM):Int:=spn d (if detM d M=1 then M else negM M)
noncomputable def h_W (d:Nat) (M:LM) (ts:List Int):Int:=if spn d M≠0/\c_E d M ts=true then spn d M else 0
noncomputable def wix (d:Nat) (M:LM) (ts:List Int):Nat :=
 if spn d M=0 then 8 else if detM d M=1 then (if spn d M=1 then (if c_E d M ts=true then 0 else 1) else (if c_E d M ts=true then 2 else 3))
 else if spn d (negM M)=1 then 6 else if 2 < spn d (negM M) then 7 else if c_E d M ts=true then 4 else 5
noncomputable def s_V:List Str:=["still","move","turn","screw","mirror","slide","point","twist","endless"]
noncomputable def e_U (t:Adr):List Addr:=[t.a_1r,t.a_21,t.a_22,t.a_1w,t.a_1q,t.a_1t,t.a_1s,t.a_1v,t.a_1g]
noncomputable def b_F (t:Adr) (C:Addr):Prop:=∃ i,i < 9/\(e_U t)[i]?=some C
noncomputable def flds (p:Addr):List (Str × V):=putF "one" (.ref p) []
theorem g_g (p:Addr):(flds p).lookup ("one" : Str)=some (.ref p):=by
 unfold flds;rw [c_k,if_pos rfl]
theorem c_W (p:Addr) {m:Str} (h:¬ m = "one"):(flds p).lookup m=none:=by
 unfold flds;rw [c_k,if_neg h];rfl
noncomputable def e_V (H:Hp) (a C p:Addr):Prop:=∃ dx,H a=some (.ins C dx (flds p))
theorem e_V.up {H H':Hp} {a C p:Addr} (h:e_V H a C p) (s:Same H H'):e_V H' a C p:=let ⟨dx,e⟩:=h; ⟨dx,s _ _ e⟩
noncomputable def g_V (H:Hp) (v:V) (d:Nat) (M:LM) (ts:List Int) (u:Int):Prop :=
 (spn d M=0/\v=.non)\/(spn d M≠0/\∃ r,v=.ref r/\b_P H r (redT (u*spn d M) (farT d M ts)) (redU (u*spn d M) (farT d M ts)))
noncomputable def sp_1u (K:Frag) (C:Addr):Sp:=λ vs H Q _=>∃ (p:Addr) (M:LM) (ts:List Int) (u:Int) (n:Nat) (d:Nat),vs=[.ref p,.int n]/\b_Z K H p M ts u/\Kd d M ts u/\n<=6/\∀ r H',Same H H'->NfAt K H' r u (pwA d (M,ts) n)->Q (.ref r) H'
noncomputable def sp_g (K:Frag):Sp:=λ vs H Q _=>∃ (b1 b2:Bool) (a:Addr) (A:LM) (d:Nat),vs=[.ref a]/\MatB b1 b2 K H a A/\Sq d A/\d<=4/\∀ r H',Same H H'->MatL H' r (negM A)->Q (.ref r) H'
noncomputable def sp_17 (K:Frag):Sp:=λ vs H Q _=>∃ (b1 b2:Bool) (a:Addr) (A:LM) (d:Nat),vs=[.ref a]/\MatB b1 b2 K H a A/\Sq d A/\(d=2\/d=3)/\b_B 1700 A/\∀ H',Same H H'->Q (.int (f_O d A)) H'
noncomputable def sp_x (K:Frag):Sp:=λ vs H Q _=>∃ (p:Addr) (M:LM) (ts:List Int) (u:Int) (d:Nat),vs=[.ref p]/\b_Z K H p M ts u/\Kd d M ts u/\∀ v H',Same H H'->g_V H' v d M ts u->Q v H'
noncomputable def sp_l:Sp:=λ vs H Q _=>∃ (p:Addr) (ns:List Int) (v:Int),vs=[.ref p]/\b_P H p ns v/\Q (.bl (!((ns.map λ n=>n != 0).any id))) H
noncomputable def e_A (t:Adr):Sp:=λ vs H Q _=>∃ (x C dx p:Addr),vs=[.ref x,.ref p]/\H x=some (.ins C dx [])/\b_F t C/\Q .non (upd H x (.ins C dx (flds p)))
noncomputable def d_F (K:Frag) (H:Hp) (a C p:Addr) (M:LM) (ts:List Int) (u:Int) (d:Nat):Prop:=e_V H a C p/\b_Z K H p M ts u/\Kd d M ts u
theorem d_F.up {K:Frag} {H H':Hp} {a C p:Addr} {M:LM} {ts:List Int} {u:Int} {d:Nat} (h:d_F K H a C p M ts u d) (s:Same H H'):d_F K H' a C p M ts u d:=⟨h.1.up s,h.2.1.up s,h.2.2⟩
noncomputable def c_X (t:Adr) (C:Addr):Sp:=λ vs H Q _=>∃ a,vs=[.ref a]/\∀ i,i < 9->(e_U t)[i]?=some C->Q (.str (s_V.getD i "")) H
noncomputable def r_o (K:Frag) (t:Adr) (f:Nat->LM->List Int->Bool->Prop):Sp:=λ vs H Q _=>∃ (p:Addr) (z:Bool) (M:LM) (ts:List Int) (u:Int) (d:Nat),vs=[.ref p,.bl z]/\b_Z K H p M ts u/\Kd d M ts u/\spn d M≠0/\z=c_E d M ts/\f d M ts z/\∀ a C H',Same H H'->(e_U t)[wix d M ts]?=some C->e_V H' a C p->Q (.ref a) H'
noncomputable abbrev sp_r (K:Frag) (t:Adr):Sp:=r_o K t λ d M _ _=>detM d M=1
noncomputable abbrev sp_1b (K:Frag) (t:Adr):Sp:=r_o K t λ d M _ _=>¬ detM d M=1
noncomputable def sp_1i (K:Frag) (t:Adr):Sp:=λ vs H Q _=>∃ (p:Addr) (M:LM) (ts:List Int) (u:Int) (d:Nat),vs=[.ref p]/\b_Z K H p M ts u/\Kd d M ts u/\∀ a C H',Same H H'->(e_U t)[wix d M ts]?=some C->e_V H' a C p->Q (.ref a) H'
noncomputable def sp_q:Sp:=λ vs H Q _=>∃ a b:Int,vs=[.int a,.int b]/\0<=a/\Q (.int (gcdI a b)) H
noncomputable def sp_k (K:Frag):Sp:=λ vs H Q _=>∃ (b:Bool) (a:Addr) (ns:List Int) (u:Int),vs=[.ref a,.int u]/\SqB b K H a (ns.map V.int)/\ns.length<=100/\0 < u/\c_V u/\∀ p H',Same H H'->b_P H' p (redT u ns) (redU u ns)->Q (.ref p) H'
noncomputable def sp_1a (K:Frag):Sp:=λ vs H Q _=>∃ (b1 b2 b3:Bool) (a l:Addr) (A:LM) (ns:List Int) (d:Nat),vs=[.ref a,.ref l]/\MatB b1 b2 K H a A/\SqB b3 K H l (ns.map V.int)/\Sq d A/\(d=2\/d=3)/\ns.length=d/\b_B 1700 A/\c_a 9000000 ns/\∀ r H',Same H H'->H r=none->H' r=some (.lst ((mv A ns).map V.int))->Q (.ref r) H'
theorem j_r (d:Nat) (M:LM) (ts:List Int):wix d M ts < 9:=by
 unfold wix
 repeat' split
 all_goals omega
noncomputable def sp_a (K:Frag) (t:Adr) (C:Addr):Sp:=λ vs H Q _=>∃ (a p:Addr) (M:LM) (ts:List Int) (u:Int) (d:Nat),vs=[.ref a]/\b_F t C/\d_F K H a C p M ts u d/\∀ H',Same H H'->Q (.int (f_O d M)) H'
noncomputable def sp_4 (K:Frag) (t:Adr) (C:Addr):Sp:=λ vs H Q _=>∃ (a p:Addr) (M:LM) (ts:List Int) (u:Int) (d:Nat),vs=[.ref a]/\b_F t C/\d_F K H a C p M ts u d/\∀ v H',Same H H'->g_V H' v d M ts u->Q v H'
noncomputable def sp_6 (K:Frag) (t:Adr) (C:Addr):Sp:=λ vs H Q _=>∃ (a p:Addr) (M:LM) (ts:List Int) (u:Int) (d:Nat),vs=[.ref a]/\b_F t C/\d_F K H a C p M ts u d/\∀ H',Same H H'->Q (.int (h_W d M ts)) H'
noncomputable def cofM (d:Nat) (rows:LM) (i k:Nat):Int:=sg (i+k)*detM d (c_O i k rows)
noncomputable def invM (n:Nat) (rows:LM):LM:=(List.range n).map λ i=>(List.range n).map λ k=>detM n rows*cofM (n - 1) rows k i
theorem r_V {n:Nat} {rows:LM}:Sq n (invM n rows):=⟨by simp [invM],λ r hr=>by
 obtain ⟨i,_,rfl⟩:=List.mem_map.mp hr;simp⟩
theorem inv2 (a b c d:Int):invM 2 [[a,b],[c,d]]=[[(a*d - b*c)*d,-((a*d - b*c)*b)],[-((a*d - b*c)*c),(a*d - b*c)*a]]:=by
 simp [invM,cofM,detM,altS,c_O,sg,List.range,List.range.loop];grind
theorem o_Z {a b c d:Int} (h:a*d - b*c=1\/a*d - b*c=-1):mulM 2 (invM 2 [[a,b],[c,d]]) [[a,b],[c,d]]=idM 2/\mulM 2 [[a,b],[c,d]] (invM 2 [[a,b],[c,d]])=idM 2:=by
 have e:(a*d - b*c)*(a*d - b*c)=1:=by rcases h with h | h <;> rw [h] <;> decide
 rw [inv2,mul2,mul2,id2];simp only [List.cons.injEq,and_true];refine ⟨⟨⟨?_,?_⟩,?_,?_⟩,⟨?_,?_⟩,?_,?_⟩ <;> grind
theorem inv3 {a b c d e f g i j D:Int} (hD:detM 3 [[a,b,c],[d,e,f],[g,i,j]]=D):invM 3 [[a,b,c],[d,e,f],[g,i,j]] =
  [[D*(e*j - f*i),D*-(b*j - c*i),D*(b*f - c*e)],[D*-(d*j - f*g),D*(a*j - c*g),D*-(a*f - c*d)],[D*(d*i - e*g),D*-(a*i - b*g),D*(a*e - b*d)]]:=by
 unfold invM;rw [hD];simp [cofM,c_O,sg,List.range,List.range.loop,det2]
theorem q_L {d:Nat} (hd:d=2\/d=3) {M:LM} (hM:Sq d M) (h:detM d M=1\/detM d M=-1):mulM d (invM d M) M=idM d/\mulM d M (invM d M)=idM d:=by
 have e:detM d M*detM d M=1:=by rcases h with h | h <;> rw [h] <;> decide
 rcases hd with rfl | rfl
 ·obtain ⟨a,b,c,d,rfl⟩:=sq2 hM;rw [det2] at h;exact o_Z h
 ·obtain ⟨a,b,c,p,q,r,u,v,w,rfl⟩:=sq3 hM;have hD:=det3 a b c p q r u v w;rw [inv3 rfl];generalize detM 3 [[a,b,c],[p,q,r],[u,v,w]]=D at hD e;show mulM 3 [[D*(q*w - r*v),D*-(b*w - c*v),D*(b*r - c*q)],[D*-(p*w - r*u),D*(a*w - c*u),D*-(a*r - c*p)],[D*(p*v - q*u),D*-(a*v - b*u),D*(a*q - b*p)]] _=_/\mulM 3 _ _=_;rw [mul3,mul3,id3];simp only [List.cons.injEq,and_true];refine ⟨⟨⟨?_,?_,?_⟩,⟨?_,?_,?_⟩,?_,?_,?_⟩,⟨?_,?_,?_⟩,⟨?_,?_,?_⟩,?_,?_,?_⟩ <;> grind
noncomputable def pwI (d:Nat) (A:LM):Nat->LM
 | 0=>idM d
 | k+1=>mulM d A (pwI d A k)
theorem k_X {d:Nat} {A:LM} (hA:Sq d A):∀ n,Sq d (pwI d A n)
 | 0=>e_j
 | _+1=>hA.mul
theorem k_b {d:Nat} (hd:d=2\/d=3) {A:LM} (hA:Sq d A):∀ n,mulM d A (pwI d A n)=mulM d (pwI d A n) A
 | 0=>by
  show mulM d A (idM d)=mulM d (idM d) A;rw [(c_m hd hA).1,(c_m hd hA).2]
 | n+1=>by
  show mulM d A (mulM d A (pwI d A n))=mulM d (mulM d A (pwI d A n)) A;rw [mul_assoc hd hA (k_X hA n) hA,k_b hd hA n]
theorem p_a {d:Nat} (hd:d=2\/d=3) {A:LM} (hA:Sq d A):∀ n,pwI d A (n+1)=pw d A n
 | 0=>(c_m hd hA).2
 | n+1=>by
  show mulM d A (pwI d A (n+1))=mulM d (pw d A n) A;rw [k_b hd hA,p_a hd hA n]
noncomputable def smul (k:Int) (T:List Int):List Int:=T.map λ t=>k*t
theorem c_Y {k:Int} {T:List Int}:(smul k T).length=T.length:=by unfold smul; rw [zqe]
theorem p_b {d:Nat} (hd:d=2\/d=3) {M A:LM} (sM:Sq d M) (hn:o_Y d M=true) (hc:Conj d M A):Nice d A:=by
 intro h1 h2 h3 ts ht;rw [h_V hd sM hc] at h1;rw [c_J hd sM hc] at h2 ⊢;rw [c_J hd (j_q sM) (h_U hd sM hc)] at h3;unfold o_Y at hn;have hz:sumM d M (spn d M).toNat=i_L d:=by
  rcases (Bool.or_eq_true _ _).mp hn with q | q
  ·exfalso;rw [zW h1,zW h2] at q;rcases h3 with h3 | h3
   ·rw [zW h3] at q; simp at q
   ·rw [zW h3] at q; simp at q
  ·exact zY q
 obtain ⟨P,P',p1,p2,p3,p4,rfl⟩:=hc;rw [j_p hd sM p1 p2 p3 p4 ht,j_o hd sM (b_H p2),hz,k_a hd (b_H p2),g_e hd p1]
structure Kp (d:Nat) (M:LM) (ts:List Int) (u:Int):Prop where
 kd:Kd d M ts u
 men:∃ N∈menu,N.length=d/\Conj d N M
 b1:b_B 50 M
 b2:c_a 126 ts
theorem c_K {u:Int} {ns:List Int}:(redT u ns).length=ns.length:=by unfold redT; rw [zqe]
theorem j_s {S:LM} {v:List Int} {i:Nat} {x:Int} (h:(mv S v)[i]?=some x):∃ r,S[i]?=some r/\x=dotI r v:=by
 unfold mv at h;rw [zH] at h;cases e:S[i]? with
 | none=>rw [e] at h; cases h
 | some r=>rw [e] at h; exact ⟨r,rfl,(zT h).symm⟩
structure Chg (d:Nat) (P P':LM):Prop where
 p:Sq d P
 q:Sq d P'
 l:mulM d P' P=idM d
 r:mulM d P P'=idM d
theorem Chg.id {d:Nat} (hd:d=2\/d=3):Chg d (idM d) (idM d):=⟨e_j,e_j,(c_m hd e_j).1,(c_m hd e_j).1⟩
theorem Chg.symm {d:Nat} {P P':LM} (h:Chg d P P'):Chg d P' P:=⟨h.q,h.p,h.r,h.l⟩
theorem Chg.then {d:Nat} (hd:d=2\/d=3) {P P' R R':LM} (h:Chg d P P') (g:Chg d R R'):Chg d (mulM d R P) (mulM d P' R'):=by
 refine ⟨g.p.mul,h.q.mul,?_,?_⟩
 ·rw [mul_assoc hd h.q g.q g.p.mul,← mul_assoc hd g.q g.p h.p,g.l,(c_m hd h.p).1,h.l]
 ·rw [mul_assoc hd g.p h.p h.q.mul,← mul_assoc hd h.p h.q g.q,h.r,(c_m hd g.q).1,g.r]
noncomputable def cjM (d:Nat) (P P' M:LM):LM:=mulM d (mulM d P M) P'
theorem Chg.conj {d:Nat} {P P':LM} (h:Chg d P P') (M:LM):Conj d M (cjM d P P' M):=⟨P,P',h.p,h.q,h.l,h.r,rfl⟩
theorem e_G {d:Nat} {P P':LM} (h:Chg d P P') (M:LM):Sq d (cjM d P P' M):=h.p.mul.mul
theorem l_K {d:Nat} (hd:d=2\/d=3) {P P' R R' M:LM} (h:Chg d P P') (g:Chg d R R') (hM:Sq d M):cjM d R R' (cjM d P P' M)=cjM d (mulM d R P) (mulM d P' R') M:=by
 unfold cjM;rw [mul_assoc hd g.p h.p hM,← mul_assoc hd (g.p.mul) h.q g.q,mul_assoc hd g.p (h.p.mul) h.q]
theorem j_t {d:Nat} (hd:d=2\/d=3) {P P' M:LM} (h:Chg d P P') (hM:Sq d M):cjM d P' P (cjM d P P' M)=M:=by
 rw [l_K hd h h.symm hM,h.l];unfold cjM;rw [(c_m hd hM).1,(c_m hd hM).2]
theorem r_p {d:Nat} (hd:d=2\/d=3) {P P' M:LM} (h:Chg d P P') (hM:Sq d M) {v:List Int} (hv:v.length=d):mv (cjM d P P' M) (mv P v)=mv P (mv M v):=by
 unfold cjM;rw [← e_l hd (h.p.mul.mul) h.p hv,mul_assoc hd h.p.mul h.q h.p,h.l,(c_m hd h.p.mul).2,e_l hd h.p hM hv]
theorem l_L {d:Nat} (hd:d=2\/d=3) {P P':LM} (h:Chg d P P') {v:List Int} (hv:v.length=d):mv P' (mv P v)=v:=by
 rw [← e_l hd h.q h.p hv,h.l,i_M hd hv]
noncomputable def vs (v w:List Int):List Int:=List.zipWith (· - ·) v w
theorem vs2 (a b c e:Int):vs [a,b] [c,e]=[a - c,b - e]:=rfl
theorem vs3 (a b c x y z:Int):vs [a,b,c] [x,y,z]=[a - x,b - y,c - z]:=rfl
theorem e_B {d:Nat} {v w:List Int} (hv:v.length=d) (hw:w.length=d):(va v w).length=d:=by unfold va; rw [List.length_zipWith,hv,hw,Nat.min_self]
theorem h_X {d:Nat} {v w:List Int} (hv:v.length=d) (hw:w.length=d):(vs v w).length=d:=by unfold vs; rw [List.length_zipWith,hv,hw,Nat.min_self]
theorem k_Y {d:Nat} (hd:d=2\/d=3) {A:LM} (hA:Sq d A) {v w:List Int} (hv:v.length=d) (hw:w.length=d):mv A (vs v w)=vs (mv A v) (mv A w):=by
 rcases hd with rfl | rfl
 ·obtain ⟨a,b,c,e,rfl⟩:=sq2 hA;obtain ⟨x,y,rfl⟩:=v2 hv;obtain ⟨p,q,rfl⟩:=v2 hw;rw [vs2,mv2,mv2,mv2,vs2];congr 1
  ·grind
  ·congr 1; grind
 ·obtain ⟨a,b,c,a',b',c',a'',b'',c'',rfl⟩:=sq3 hA;obtain ⟨x,y,z,rfl⟩:=v3 hv;obtain ⟨p,q,r,rfl⟩:=v3 hw;rw [vs3,mv3,mv3,mv3,vs3];congr 1
  ·grind
  ·congr 1
   ·grind
   ·congr 1; grind
theorem i_O {d:Nat} (hd:d=2\/d=3) {M:LM} (hM:Sq d M) {ts v:List Int} (ht:ts.length=d) (hv:v.length=d):∀ n,(pwA d (M,vs (va ts v) (mv M v)) n).2=vs (va (pwA d (M,ts) n).2 v) (mv (pwI d M n) v)
 | 0=>by
  show List.replicate d 0=vs (va (List.replicate d 0) v) (mv (idM d) v);rw [i_M hd hv];rcases hd with rfl | rfl
  ·obtain ⟨x,y,rfl⟩:=v2 hv;show [0,0]=[0+x - x,0+y - y];congr 1
   ·omega
   ·congr 1; omega
  ·obtain ⟨x,y,z,rfl⟩:=v3 hv;show [0,0,0]=[0+x - x,0+y - y,0+z - z];congr 1
   ·omega
   ·congr 1
    ·omega
    ·congr 1; omega
 | n+1=>by
  have l:=(d_W (x:=(M,ts)) ⟨hM,ht⟩ n).len;show affT M (pwA d (M,vs (va ts v) (mv M v)) n).2 (vs (va ts v) (mv M v))=vs (va (affT M (pwA d (M,ts) n).2 ts) v) (mv (mulM d M (pwI d M n)) v);rw [i_O hd hM ht hv n,f_S,f_S,e_l hd hM (k_X hM n) hv];generalize (pwA d (M,ts) n).2=T at l;have l2:(mv (pwI d M n) v).length=d:=b_H (k_X hM n);generalize mv (pwI d M n) v=W at l2;have l':T.length=d:=l;rw [k_Y hd hM (e_B l' hv) l2,g_z hd hM l' hv];have a1:(mv M T).length=d:=b_H hM;have a2:(mv M v).length=d:=b_H hM;have a3:(mv M W).length=d:=b_H hM;generalize mv M T=A at a1;generalize mv M v=B at a2;generalize mv M W=C at a3;rcases hd with rfl | rfl
  ·obtain ⟨x,y,rfl⟩:=v2 hv;obtain ⟨_,_,rfl⟩:=v2 a1;obtain ⟨_,_,rfl⟩:=v2 a2;obtain ⟨_,_,rfl⟩:=v2 a3;obtain ⟨_,_,rfl⟩:=v2 ht;simp only [va2,vs2];congr 1
   ·omega
   ·congr 1; omega
  ·obtain ⟨x,y,z,rfl⟩:=v3 hv;obtain ⟨_,_,_,rfl⟩:=v3 a1;obtain ⟨_,_,_,rfl⟩:=v3 a2;obtain ⟨_,_,_,rfl⟩:=v3 a3;obtain ⟨_,_,_,rfl⟩:=v3 ht;simp only [va3,vs3];congr 1
   ·omega
   ·congr 1
    ·omega
    ·congr 1; omega
noncomputable def cjT (d:Nat) (P P' M:LM) (ts S:List Int):List Int:=vs (va (mv P ts) S) (mv (cjM d P P' M) S)
theorem f_I {d:Nat} {P P' M:LM} (h:Chg d P P') {ts S:List Int} (hS:S.length=d):(cjT d P P' M ts S).length=d:=h_X (e_B (b_H h.p) hS) (b_H h.p.mul.mul)
theorem k_c {d:Nat} (hd:d=2\/d=3) {P P' M:LM} (h:Chg d P P') (hM:Sq d M) {ts S:List Int} (ht:ts.length=d) (hS:S.length=d):mv P' (cjT d P P' M ts S)=vs (va ts (mv P' S)) (mv M (mv P' S)):=by
 unfold cjT;rw [k_Y hd h.q (e_B (b_H h.p) hS) (b_H (e_G h M)),g_z hd h.q (b_H h.p) hS,l_L hd h ht];have e:mv P' (mv (cjM d P P' M) S)=mv M (mv P' S):=by
  have:=r_p hd h.symm (M:=cjM d P P' M) (e_G h M) hS;rw [j_t hd h hM] at this;exact this.symm
 rw [e]
theorem r_W {d:Nat} (hd:d=2\/d=3) {P P' M:LM} (h:Chg d P P') (hM:Sq d M) {ts S:List Int} (ht:ts.length=d) (hS:S.length=d) {n:Nat} (hn:pwI d M n=idM d):(pwA d (cjM d P P' M,cjT d P P' M ts S) n).2=mv P (pwA d (M,ts) n).2:=by
 have e:=j_p hd hM h.p h.q h.l h.r (f_I (M:=M) (ts:=ts) h hS) n;rw [k_c hd h hM ht hS,i_O hd hM ht (b_H h.q),hn,i_M hd (b_H h.q)] at e;refine e.trans (congrArg (mv P) ?_);have l:(pwA d (M,ts) n).2.length=d:=(d_W (x:=(M,ts)) ⟨hM,ht⟩ n).len;have l2:(mv P' S).length=d:=b_H h.q;generalize (pwA d (M,ts) n).2=T at l;generalize mv P' S=W at l2;rcases hd with rfl | rfl
 ·obtain ⟨x,y,rfl⟩:=v2 l;obtain ⟨_,_,rfl⟩:=v2 l2;simp only [va2,vs2];congr 1
  ·omega
  ·congr 1; omega
 ·obtain ⟨x,y,z,rfl⟩:=v3 l;obtain ⟨_,_,_,rfl⟩:=v3 l2;simp only [va3,vs3];congr 1
  ·omega
  ·congr 1
   ·omega
   ·congr 1; omega
theorem r_X {d:Nat} (hd:d=2\/d=3) {M:LM} (hM:Sq d M) (hs:spn d M≠0):pwI d M (spn d M).toNat=idM d:=by
 rcases f_H d M with ⟨q,_⟩ | ⟨j,hj,ej,h1,h2⟩
 ·exact yJ q hs
 ·rw [show (spn d M).toNat=j+1 by omega,p_a hd hM]; exact h1
structure g_L (d:Nat) (M:LM) (ts:List Int) (M':LM) (ts':List Int):Prop where
 s:spn d M'=spn d M
 dt:detM d M'=detM d M
 n:spn d (negM M')=spn d (negM M)
 z:spn d M≠0->c_E d M' ts'=c_E d M ts
theorem g_L.word {d:Nat} {M:LM} {ts:List Int} {M':LM} {ts':List Int} (h:g_L d M ts M' ts'):wix d M' ts'=wix d M ts:=by
 unfold wix;rw [h.s,h.dt,h.n]
 by_cases z:spn d M=0
 ·rw [if_pos z,if_pos z]
 ·rw [if_neg z,if_neg z,h.z z]
theorem g_L.fold {d:Nat} {M:LM} {ts:List Int} {M':LM} {ts':List Int} (h:g_L d M ts M' ts'):f_O d M'=f_O d M:=by
 unfold f_O;rw [h.dt]
 by_cases z:detM d M=1
 ·rw [if_pos z,if_pos z,h.s]
 ·rw [if_neg z,if_neg z,h.n]
theorem g_L.order {d:Nat} {M:LM} {ts:List Int} {M':LM} {ts':List Int} (h:g_L d M ts M' ts'):h_W d M' ts'=h_W d M ts:=by
 unfold h_W;rw [h.s]
 by_cases z:spn d M=0
 ·rw [if_neg (λ q=>q.1 z),if_neg (λ q=>q.1 z)]
 ·rw [h.z z]
theorem l_M {d:Nat} (hd:d=2\/d=3) {M:LM} (hM:Sq d M) {ts:List Int} (ht:ts.length=d) {w:Int} (hw:0 < w) {i:Nat} {x y:Int} (ex:(farT d M ts)[i]?=some x) (ey:(farT d M (redT w ts))[i]?=some y):x*redU w ts=y*w:=by
 unfold farT at ex ey;rw [j_o hd hM ht] at ex;rw [j_o hd hM (by rw [c_K]; exact ht)] at ey;obtain ⟨r,er,rfl⟩:=j_s ex;obtain ⟨r',er',rfl⟩:=j_s ey;rw [er] at er';cases er';exact e_s r ts (redT w ts) (by rw [c_K]) λ i x y q1 q2=>c_t (by omega) q1 q2
theorem e_C {d:Nat} {M:LM} (hM:Sq d M) {ts:List Int} (ht:ts.length=d):(farT d M ts).length=d:=(d_W (x:=(M,ts)) ⟨hM,ht⟩ _).len
theorem i_P {d:Nat} (hd:d=2\/d=3) {M:LM} (hM:Sq d M) {ts:List Int} (ht:ts.length=d) {w:Int} (hw:0 < w):c_E d M (redT w ts)=c_E d M ts:=by
 have l1:=e_C hM ht;have l2:(farT d M (redT w ts)).length=d:=e_C hM (by rw [c_K]; exact ht);have c:=λ i x y=>l_M hd hM ht hw (i:=i) (x:=x) (y:=y);have u0:=(d_H ts hw).1;unfold c_E;refine decide_eq_decide.mpr ?_;generalize farT d M ts=F at l1 c ⊢;have e:farT d M (redT w ts)=List.replicate d 0 ↔ F=List.replicate d 0:=by
  generalize farT d M (redT w ts)=G at l2 c;constructor
  ·intro z;refine List.eq_replicate_iff.mpr ⟨l1,λ x hx=>?_⟩;obtain ⟨i,hi,rfl⟩:=yF hx;have:=c i F[i] 0 (zqd hi) (by rw [z,List.getElem?_replicate,if_pos (by omega)]);rw [Int.zero_mul] at this;rcases Int.mul_eq_zero.mp this with q | q
   ·exact q
   ·omega
  ·intro z;refine List.eq_replicate_iff.mpr ⟨l2,λ x hx=>?_⟩;obtain ⟨i,hi,rfl⟩:=yF hx;have:=c i 0 G[i] (by rw [z,List.getElem?_replicate,if_pos (by omega)]) (zqd hi);rw [Int.zero_mul] at this;rcases Int.mul_eq_zero.mp this.symm with q | q
   ·exact q
   ·omega
 exact e
theorem i_Q {d:Nat} (hd:d=2\/d=3) {M:LM} (hM:Sq d M) {ts:List Int} (ht:ts.length=d) {w:Int} (hw:0 < w) (hs:spn d M≠0) :
  redT (redU w ts*spn d M) (farT d M (redT w ts))=redT (w*spn d M) (farT d M ts)/\redU (redU w ts*spn d M) (farT d M (redT w ts))=redU (w*spn d M) (farT d M ts):=by
 have u0:=(d_H ts hw).1;have sr:=e_t d M;refine h_Q (Int.mul_pos u0 (by omega)) (Int.mul_pos hw (by omega)) (by rw [e_C hM ht,e_C hM (by rw [c_K]; exact ht)]) λ i y x ey ex=>?_;have:=l_M hd hM ht hw ex ey
 calc y*(w*spn d M)=(y*w)*spn d M:=by grind
  _=(x*redU w ts)*spn d M:=by rw [this]
  _=x*(redU w ts*spn d M):=by grind
theorem q_M {d:Nat} {P:LM} (hP:Sq d P) {F:List Int} (hF:F.length=d) {w:Int} (hw:0 < w) :
  redT (redU w F) (mv P (redT w F))=redT w (mv P F)/\redU (redU w F) (mv P (redT w F))=redU w (mv P F):=by
 have u0:=(d_H F hw).1;refine h_Q u0 hw (by rw [b_H hP,b_H hP]) λ i x y ex ey=>?_;obtain ⟨r,er,rfl⟩:=j_s ex;obtain ⟨r',er',rfl⟩:=j_s ey;rw [er] at er';cases er';exact (e_s r F (redT w F) (by rw [c_K]) λ i x y q1 q2=>c_t (by omega) q1 q2).symm
theorem k_Z {d:Nat} (hd:d=2\/d=3) {P P':LM} (h:Chg d P P') {v:List Int} (hv:v.length=d):mv P v=List.replicate d 0 ↔ v=List.replicate d 0:=by
 constructor
 ·intro e;rw [← l_L hd h hv,e,g_e hd h.q]
 ·intro e;rw [e,g_e hd h.p]
theorem l_N {d:Nat} (hd:d=2\/d=3) {P P' M:LM} (h:Chg d P P') (hM:Sq d M) {ts S:List Int} (ht:ts.length=d) (hS:S.length=d) (hs:spn d M≠0):farT d (cjM d P P' M) (cjT d P P' M ts S)=mv P (farT d M ts):=by
 unfold farT;rw [c_J hd hM (h.conj M)];exact r_W hd h hM ht hS (r_X hd hM hs)
theorem p_c {d:Nat} (hd:d=2\/d=3) {P P' M:LM} (h:Chg d P P') (hM:Sq d M) {ts S:List Int} (ht:ts.length=d) (hS:S.length=d) {w:Int} (hw:0 < w):g_L d M (redT w ts) (cjM d P P' M) (redT w (cjT d P P' M ts S)):=by
 have hc:=h.conj M;refine ⟨c_J hd hM hc,h_V hd hM hc,c_J hd (j_q hM) (h_U hd hM hc),λ z=>?_⟩;rw [i_P hd hM ht hw,i_P hd (e_G h M) (f_I h hS) hw];unfold c_E;rw [l_N hd h hM ht hS z];exact decide_eq_decide.mpr (k_Z hd h (e_C hM ht))
theorem p_d {d:Nat} (hd:d=2\/d=3) {P P' M:LM} (h:Chg d P P') (hM:Sq d M) {ts S:List Int} (ht:ts.length=d) (hS:S.length=d) {w:Int} (hw:0 < w) (hs:spn d M≠0) :
  redT (redU (redU w ts*spn d M) (farT d M (redT w ts))) (mv P (redT (redU w ts*spn d M) (farT d M (redT w ts))))=redT (redU w (cjT d P P' M ts S)*spn d (cjM d P P' M)) (farT d (cjM d P P' M) (redT w (cjT d P P' M ts S))) /\
  redU (redU (redU w ts*spn d M) (farT d M (redT w ts))) (mv P (redT (redU w ts*spn d M) (farT d M (redT w ts))))=redU (redU w (cjT d P P' M ts S)*spn d (cjM d P P' M)) (farT d (cjM d P P' M) (redT w (cjT d P P' M ts S))):=by
 have hs':spn d (cjM d P P' M)≠0:=by rw [c_J hd hM (h.conj M)]; exact hs
 have e1:=i_Q hd hM ht hw hs;have e2:=i_Q hd (e_G h M) (f_I (M:=M) (ts:=ts) h hS) hw hs';have sr:=e_t d M;have e3:=q_M h.p (e_C hM ht) (Int.mul_pos hw (show 0 < spn d M by omega));rw [e1.1,e1.2,e2.1,e2.2,e3.1,e3.2,l_N hd h hM ht hS hs,c_J hd hM (h.conj M)];exact ⟨rfl,rfl⟩
theorem q_N {r:List Int}:∀ {v w:List Int},v.length=w.length->dotI r (va v w)=dotI r v+dotI r w:=by
 induction r with
 | nil=>intro v w _; simp [dotI]
 | cons a r ih =>
  intro v w hl
  match v,w,hl with
  | [],[],_=>simp [dotI,va]
  | x :: v,y :: w,hl =>
   have:=ih (v:=v) (w:=w) (by simpa using hl);unfold dotI va at this ⊢;simp only [List.zipWith_cons_cons,List.sum_cons];rw [this];grind
theorem r_Y {d:Nat} (hd:d=2\/d=3) {M:LM} (hM:Sq d M) {r v:List Int} (hr:r.length=d) (hv:v.length=d) (h:∀ k,k < d->dotI r (colI k M)=r.getD k 0):dotI r (mv M v)=dotI r v:=by
 rcases hd with rfl | rfl
 ·obtain ⟨a,b,c,e,rfl⟩:=sq2 hM;obtain ⟨x,y,rfl⟩:=v2 hv;obtain ⟨p,q,rfl⟩:=v2 hr;have h0:=h 0 (by decide);have h1:=h 1 (by decide);rw [mv2];simp [dotI,colI] at h0 h1 ⊢;grind
 ·obtain ⟨a,b,c,a',b',c',a'',b'',c'',rfl⟩:=sq3 hM;obtain ⟨x,y,z,rfl⟩:=v3 hv;obtain ⟨p,q,s,rfl⟩:=v3 hr;have h0:=h 0 (by decide);have h1:=h 1 (by decide);have h2:=h 2 (by decide);rw [mv3];simp [dotI,colI] at h0 h1 h2 ⊢;grind
theorem i_R (c a b:Int):smul c [a,b]=[c*a,c*b]:=rfl
theorem i_S (c a b e:Int):smul c [a,b,e]=[c*a,c*b,c*e]:=rfl
theorem g_h {d:Nat} (hd:d=2\/d=3) {A:LM} (hA:Sq d A) {v:List Int} (hv:v.length=d) (c:Int):mv A (smul c v)=smul c (mv A v):=by
 rcases hd with rfl | rfl
 ·obtain ⟨a,b,c,e,rfl⟩:=sq2 hA;obtain ⟨x,y,rfl⟩:=v2 hv;rw [i_R,mv2,mv2,i_R];simp only [List.cons.injEq,and_true];refine ⟨?_,?_⟩ <;> grind
 ·obtain ⟨a1,a2,a3,a4,a5,a6,a7,a8,a9,rfl⟩:=sq3 hA;obtain ⟨x,y,z,rfl⟩:=v3 hv;rw [i_S,mv3,mv3,i_S];simp only [List.cons.injEq,and_true];refine ⟨?_,?_,?_⟩ <;> grind
noncomputable def PlV (d:Nat) (M:LM) (ts:List Int) (w:Int) (ns:List Int) (w1:Int):Prop:=va (smul w (vs (mv M ns) ns)) (smul w1 ts)=List.replicate d 0
theorem g_W {d:Nat} (hd:d=2\/d=3) {M:LM} (hM:Sq d M) {ts ns:List Int} (ht:ts.length=d) (hn:ns.length=d) {w w1:Int}:PlV d M ts w ns w1 ↔ ∀ k,k < d->((mv M ns).getD k 0 - ns.getD k 0)*w+ts.getD k 0*w1=0:=by
 have l:(mv M ns).length=d:=b_H hM;unfold PlV;generalize mv M ns=A at l;rcases hd with rfl | rfl
 ·obtain ⟨a,b,rfl⟩:=v2 l;obtain ⟨x,y,rfl⟩:=v2 hn;obtain ⟨p,q,rfl⟩:=v2 ht;rw [vs2,i_R,i_R,va2];show [_,_]=[0,0] ↔ _;simp only [List.cons.injEq,and_true];constructor
  ·rintro ⟨h1,h2⟩ k hk
   match k,hk with
   | 0,_=>show (a - x)*w+p*w1=0; rw [← h1]; grind
   | 1,_=>show (b - y)*w+q*w1=0; rw [← h2]; grind
  ·intro h;have h0:(a - x)*w+p*w1=0:=h 0 (by decide);have h1:(b - y)*w+q*w1=0:=h 1 (by decide);exact ⟨by rw [← h0]; grind,by rw [← h1]; grind⟩
 ·obtain ⟨a,b,c,rfl⟩:=v3 l;obtain ⟨x,y,z,rfl⟩:=v3 hn;obtain ⟨p,q,r,rfl⟩:=v3 ht;rw [vs3,i_S,i_S,va3];show [_,_,_]=[0,0,0] ↔ _;simp only [List.cons.injEq,and_true];constructor
  ·rintro ⟨h1,h2,h3⟩ k hk
   match k,hk with
   | 0,_=>show (a - x)*w+p*w1=0; rw [← h1]; grind
   | 1,_=>show (b - y)*w+q*w1=0; rw [← h2]; grind
   | 2,_=>show (c - z)*w+r*w1=0; rw [← h3]; grind
  ·intro h;have h0:(a - x)*w+p*w1=0:=h 0 (by decide);have h1:(b - y)*w+q*w1=0:=h 1 (by decide);have h2:(c - z)*w+r*w1=0:=h 2 (by decide);exact ⟨by rw [← h0]; grind,by rw [← h1]; grind,by rw [← h2]; grind⟩
theorem r_Z {d:Nat} (hd:d=2\/d=3) {M:LM} (hM:Sq d M) {ts ns:List Int} (ht:ts.length=d) (hn:ns.length=d) {w w1:Int} (hw:0 < w):PlV d M (redT w ts) (redU w ts) ns w1 ↔ PlV d M ts w ns w1:=by
 have u0:=(d_H ts hw).1;rw [g_W hd hM (by rw [c_K]; exact ht) hn,g_W hd hM ht hn];have c:∀ k,k < d->ts.getD k 0*redU w ts=(redT w ts).getD k 0*w:=λ k hk=>by
  have e1:ts[k]?=some (ts.getD k 0):=by rw [zqc,zqd (by omega)]; rfl
  have e2:(redT w ts)[k]?=some ((redT w ts).getD k 0):=by rw [zqc,zqd (by rw [c_K]; omega)]; rfl
  exact c_t (by omega) e1 e2
 refine forall_congr' λ k=>forall_congr' λ hk=>?_;have:=c k hk;generalize (mv M ns).getD k 0 - ns.getD k 0=A;generalize ts.getD k 0=x at this ⊢;generalize (redT w ts).getD k 0=y at this ⊢;generalize redU w ts=u at this u0 ⊢;constructor
 ·intro h;have e:u*(A*w+x*w1)=0:=by
   calc u*(A*w+x*w1)=A*u*w+(x*u)*w1:=by grind
    _=A*u*w+(y*w)*w1:=by rw [this]
    _=w*(A*u+y*w1):=by grind
    _=0:=by rw [h,Int.mul_zero]
  rcases Int.mul_eq_zero.mp e with z | z
  ·omega
  ·exact z
 ·intro h;have e:w*(A*u+y*w1)=0:=by
   calc w*(A*u+y*w1)=A*u*w+(y*w)*w1:=by grind
    _=A*u*w+(x*u)*w1:=by rw [this]
    _=u*(A*w+x*w1):=by grind
    _=0:=by rw [h,Int.mul_zero]
  rcases Int.mul_eq_zero.mp e with z | z
  ·omega
  ·exact z
theorem s_W {d:Nat} (hd:d=2\/d=3) {P P' M:LM} (h:Chg d P P') (hM:Sq d M) {ts S ns:List Int} (ht:ts.length=d) (hS:S.length=d) (hn:ns.length=d) {w w1:Int} (p:PlV d M ts w ns w1) :
  PlV d (cjM d P P' M) (cjT d P P' M ts S) w (va (smul w (mv P ns)) (smul w1 S)) (w1*w):=by
 have p':=congrArg (mv P) p;have l1:(mv M ns).length=d:=b_H hM;rw [g_e hd h.p,g_z hd h.p (by rw [c_Y]; exact h_X l1 hn) (by rw [c_Y]; exact ht),g_h hd h.p (h_X l1 hn),g_h hd h.p ht,k_Y hd h.p l1 hn] at p';unfold PlV cjT;have lP:∀ v,(mv P v).length=d:=λ v=>b_H h.p;have sc:=e_G h M;rw [g_z hd sc (by rw [c_Y]; exact lP _) (by rw [c_Y]; exact hS),g_h hd sc (lP _),g_h hd sc hS,r_p hd h hM hn];have lD:(mv (cjM d P P' M) S).length=d:=b_H sc;have lA:=lP (mv M ns);have lB:=lP ns;have lC:=lP ts;generalize mv P (mv M ns)=A at p' lA ⊢;generalize mv P ns=B at p' lB ⊢;generalize mv P ts=C at p' lC ⊢;generalize mv (cjM d P P' M) S=D at lD ⊢;rcases hd with rfl | rfl
 ·obtain ⟨a,b,rfl⟩:=v2 lA;obtain ⟨a1,b1,rfl⟩:=v2 lB;obtain ⟨a2,b2,rfl⟩:=v2 lC;obtain ⟨a3,b3,rfl⟩:=v2 lD;obtain ⟨a4,b4,rfl⟩:=v2 hS;simp only [vs2,i_R,va2] at p' ⊢
  change [_,_]=[0,0] at p'
  show [_,_]=[0,0];simp only [List.cons.injEq,and_true] at p' ⊢;obtain ⟨q1,q2⟩:=p';exact ⟨by grind,by grind⟩
 ·obtain ⟨a,b,c,rfl⟩:=v3 lA;obtain ⟨a1,b1,c1,rfl⟩:=v3 lB;obtain ⟨a2,b2,c2,rfl⟩:=v3 lC;obtain ⟨a3,b3,c3,rfl⟩:=v3 lD;obtain ⟨a4,b4,c4,rfl⟩:=v3 hS;simp only [vs3,i_S,va3] at p' ⊢
  change [_,_,_]=[0,0,0] at p'
  show [_,_,_]=[0,0,0];simp only [List.cons.injEq,and_true] at p' ⊢;obtain ⟨q1,q2,q3⟩:=p';exact ⟨by grind,by grind,by grind⟩
theorem h_Y {c:Int}:∀ {r v:List Int},dotI r (smul c v)=c*dotI r v
 | [],v=>by simp [dotI]
 | _ :: _,[]=>by simp [dotI,smul]
 | a :: r,x :: v=>by
  have:=h_Y (c:=c) (r:=r) (v:=v);unfold dotI smul at this ⊢;simp only [List.map_cons,List.zipWith_cons_cons,List.sum_cons];rw [this];grind
theorem q_O {r:List Int}:∀ {v w:List Int},v.length=w.length->dotI r (vs v w)=dotI r v - dotI r w:=by
 induction r with
 | nil=>intro v w _; simp [dotI]
 | cons a r ih =>
  intro v w hl
  match v,w,hl with
  | [],[],_=>simp [dotI,vs]
  | x :: v,y :: w,hl =>
   have:=ih (v:=v) (w:=w) (by simpa using hl);unfold dotI vs at this ⊢;simp only [List.zipWith_cons_cons,List.sum_cons];rw [this];grind
theorem h_Z:∀ (ns:List Int) (d:Nat),dotI ns (List.replicate d 0)=0
 | [],_=>rfl
 | _ :: _,0=>rfl
 | n :: ns,d+1=>by
  have:=h_Z ns d;unfold dotI at this ⊢;rw [List.replicate_succ,List.zipWith_cons_cons,List.sum_cons,this,Int.mul_zero];rfl
theorem s_z {d:Nat} (hd:d=2\/d=3) {M:LM} (hM:Sq d M) {ts ns r:List Int} (ht:ts.length=d) (hn:ns.length=d) (hr:r.length=d) {w w1:Int} (h1:w1≠0) (p:PlV d M ts w ns w1) (h:∀ k,k < d->dotI r (colI k M)=r.getD k 0):dotI r ts=0:=by
 have e:=congrArg (dotI r) p;have l:(mv M ns).length=d:=b_H hM;rw [h_Z,q_N (by rw [c_Y,c_Y,h_X l hn,ht]),h_Y,h_Y,q_O (by rw [l,hn]),r_Y hd hM hr hn h,Int.sub_self,Int.mul_zero,Int.zero_add] at e;rcases Int.mul_eq_zero.mp e with z | z
 ·exact yJ z h1
 ·exact z
theorem m_R {d:Nat} (hd:d=2\/d=3) {P P' M:LM} (h:Chg d P P') (hM:Sq d M) {ts S:List Int} (ht:ts.length=d) (hS:S.length=d):cjT d P' P (cjM d P P' M) (cjT d P P' M ts S) (smul (-1) (mv P' S))=ts:=by
 have e:=k_c hd h hM ht hS;have l:(mv P' S).length=d:=b_H h.q;unfold cjT at e ⊢;rw [e,j_t hd h hM,g_h hd hM l];have l2:(mv M (mv P' S)).length=d:=b_H hM;generalize mv P' S=v at l l2;generalize mv M v=W at l2;rcases hd with rfl | rfl
 ·obtain ⟨a,b,rfl⟩:=v2 l;obtain ⟨a1,b1,rfl⟩:=v2 l2;obtain ⟨a2,b2,rfl⟩:=v2 ht;simp only [vs2,i_R,va2,List.cons.injEq,and_true];exact ⟨by omega,by omega⟩
 ·obtain ⟨a,b,c,rfl⟩:=v3 l;obtain ⟨a1,b1,c1,rfl⟩:=v3 l2;obtain ⟨a2,b2,c2,rfl⟩:=v3 ht;simp only [vs3,i_S,va3,List.cons.injEq,and_true];exact ⟨by omega,by omega,by omega⟩
theorem q_P {r ts:List Int} {w:Int} (hw:0 < w) (h:dotI r ts=0):dotI r (redT w ts)=0:=by
 have e:=e_s (c:=redU w ts) (k:=w) r ts (redT w ts) (by rw [c_K]) λ i x y q1 q2=>c_t (by omega) q1 q2;rw [h,Int.zero_mul] at e;rcases Int.mul_eq_zero.mp e.symm with z | z
 ·exact z
 ·omega
theorem k_d {d:Nat} (hd:d=2\/d=3) {P P' M:LM} (h:Chg d P P') (hM:Sq d M) {ts S ns r:List Int} (ht:ts.length=d) (hS:S.length=d) (hn:ns.length=d) (hr:r.length=d) {w w1:Int} (hw:0 < w) (h1:0 < w1) (p:PlV d M (redT w ts) (redU w ts) ns w1) (q:∀ k,k < d->dotI r (colI k (cjM d P P' M))=r.getD k 0):dotI r (redT w (cjT d P P' M ts S))=0 :=
 q_P hw (s_z hd (e_G h M) (f_I h hS) (e_B (by rw [c_Y]; exact b_H h.p) (by rw [c_Y]; exact hS)) hr (Int.ne_of_gt (Int.mul_pos h1 hw)) (s_W hd h hM ht hS hn ((r_Z hd hM ht hn hw).mp p)) q)
theorem p_e {d:Nat} (hd:d=2\/d=3) {P P' M:LM} (h:Chg d P P') (hM:Sq d M) {ts S ns r:List Int} (ht:ts.length=d) (hS:S.length=d) (hn:ns.length=d) (hr:r.length=d) {w w1:Int} (hw:0 < w) (h1:0 < w1) (p:PlV d (cjM d P P' M) (redT w (cjT d P P' M ts S)) (redU w (cjT d P P' M ts S)) ns w1) (q:∀ k,k < d->dotI r (colI k M)=r.getD k 0):dotI r (redT w ts)=0:=by
 have l:(smul (-1) (mv P' S)).length=d:=by rw [c_Y]; exact b_H h.q
 have:=k_d hd h.symm (e_G h M) (S:=smul (-1) (mv P' S)) (r:=r) (f_I (M:=M) (ts:=ts) h hS) l hn hr hw h1 p (by rw [j_t hd h hM]; exact q);rw [m_R hd h hM ht hS] at this;exact this
noncomputable def stM (d i j:Nat) (m:Int):LM:=(List.range d).map λ a=>(List.range d).map λ b=>if a=b then 1 else if a=i/\b=j then m else 0
noncomputable def vst (i j:Nat) (m:Int) (v:List Int):List Int:=v.set i (v.getD i 0+m*v.getD j 0)
theorem g_A {d i j:Nat} {m:Int}:Sq d (stM d i j m):=⟨by simp [stM],λ r hr=>by
 obtain ⟨a,_,rfl⟩:=List.mem_map.mp hr;simp⟩
theorem st3 {i j:Nat} {m:Int} {F:Int->LM} (e:∀ m,stM 3 i j m=F m) (h1:∀ m:Int,mulM 3 (F (-m)) (F m)=idM 3) (h2:∀ x y z:Int,mv (F m) [x,y,z]=vst i j m [x,y,z]) (h3:∀ a b c d e f g h k:Int,d_M 3 i j m [[a,b,c],[d,e,f],[g,h,k]]=mulM 3 (mulM 3 (F m) [[a,b,c],[d,e,f],[g,h,k]]) (F (-m))) :
  Chg 3 (stM 3 i j m) (stM 3 i j (-m))/\(∀ v:List Int,v.length=3->mv (stM 3 i j m) v=vst i j m v)/\∀ A,Sq 3 A->d_M 3 i j m A=cjM 3 (stM 3 i j m) (stM 3 i j (-m)) A:=by
 refine ⟨⟨g_A,g_A,by rw [e,e]; exact h1 m,?_⟩,λ v hv=>?_,λ A hA=>?_⟩
 ·have:=h1 (-m);rw [Int.neg_neg] at this;rw [e,e]; exact this
 ·obtain ⟨x,y,z,rfl⟩:=v3 hv;rw [e]; exact h2 x y z
 ·obtain ⟨a,b,c,d,e',f,g,h,k,rfl⟩:=sq3 hA;unfold cjM;rw [e,e]; exact h3 ..
theorem p_f {d i j:Nat} {m:Int} (hd:d=2\/d=3) (hi:i < d) (hj:j < d) (hij:i≠j):Chg d (stM d i j m) (stM d i j (-m))/\(∀ v:List Int,v.length=d->mv (stM d i j m) v=vst i j m v)/\∀ A,Sq d A->d_M d i j m A=cjM d (stM d i j m) (stM d i j (-m)) A:=by
 rcases hd with e | e <;> subst e
 ·rcases (show (i=0/\j=1)\/(i=1/\j=0) by omega) with ⟨e1,e2⟩ | ⟨e1,e2⟩ <;> subst e1 e2
  ·have e:∀ m:Int,stM 2 0 1 m=[[1,m],[0,1]]:=λ m=>rfl;refine ⟨⟨g_A,g_A,by rw [e,e,mul2,id2]; simp; omega,by rw [e,e,mul2,id2]; simp; omega⟩,λ v hv=>?_,λ A hA=>?_⟩
   ·obtain ⟨x,y,rfl⟩:=v2 hv;rw [e,mv2]; simp [vst]
   ·obtain ⟨a,b,c,d,rfl⟩:=sq2 hA;unfold cjM;rw [e,e,mul2,mul2];simp [d_M,colT,colO,mixI,List.range,List.range.loop];grind
  ·have e:∀ m:Int,stM 2 1 0 m=[[1,0],[m,1]]:=λ m=>rfl;refine ⟨⟨g_A,g_A,by rw [e,e,mul2,id2]; simp; omega,by rw [e,e,mul2,id2]; simp; omega⟩,λ v hv=>?_,λ A hA=>?_⟩
   ·obtain ⟨x,y,rfl⟩:=v2 hv;rw [e,mv2]; simp [vst]; omega
   ·obtain ⟨a,b,c,d,rfl⟩:=sq2 hA;unfold cjM;rw [e,e,mul2,mul2];simp [d_M,colT,colO,mixI,List.range,List.range.loop];grind
 ·rcases (show (i=0/\j=1)\/(i=0/\j=2)\/(i=1/\j=0)\/(i=1/\j=2)\/(i=2/\j=0)\/(i=2/\j=1) by omega) with ⟨e1,e2⟩ | ⟨e1,e2⟩ | ⟨e1,e2⟩ | ⟨e1,e2⟩ | ⟨e1,e2⟩ | ⟨e1,e2⟩ <;> subst e1 e2
  ·exact st3 (F:=λ m=>[[1,m,0],[0,1,0],[0,0,1]]) (λ _=>rfl) (λ _=>by rw [mul3,id3]; simp; try omega) (λ _ _ _=>by rw [mv3]; simp [vst]; try omega) λ _ _ _ _ _ _ _ _ _=>by rw [mul3,mul3]; simp [d_M,colT,colO,mixI,List.range,List.range.loop]; grind
  ·exact st3 (F:=λ m=>[[1,0,m],[0,1,0],[0,0,1]]) (λ _=>rfl) (λ _=>by rw [mul3,id3]; simp; try omega) (λ _ _ _=>by rw [mv3]; simp [vst]; try omega) λ _ _ _ _ _ _ _ _ _=>by rw [mul3,mul3]; simp [d_M,colT,colO,mixI,List.range,List.range.loop]; grind
  ·exact st3 (F:=λ m=>[[1,0,0],[m,1,0],[0,0,1]]) (λ _=>rfl) (λ _=>by rw [mul3,id3]; simp; try omega) (λ _ _ _=>by rw [mv3]; simp [vst]; try omega) λ _ _ _ _ _ _ _ _ _=>by rw [mul3,mul3]; simp [d_M,colT,colO,mixI,List.range,List.range.loop]; grind
  ·exact st3 (F:=λ m=>[[1,0,0],[0,1,m],[0,0,1]]) (λ _=>rfl) (λ _=>by rw [mul3,id3]; simp; try omega) (λ _ _ _=>by rw [mv3]; simp [vst]; try omega) λ _ _ _ _ _ _ _ _ _=>by rw [mul3,mul3]; simp [d_M,colT,colO,mixI,List.range,List.range.loop]; grind
  ·exact st3 (F:=λ m=>[[1,0,0],[0,1,0],[m,0,1]]) (λ _=>rfl) (λ _=>by rw [mul3,id3]; simp; try omega) (λ _ _ _=>by rw [mv3]; simp [vst]; try omega) λ _ _ _ _ _ _ _ _ _=>by rw [mul3,mul3]; simp [d_M,colT,colO,mixI,List.range,List.range.loop]; grind
  ·exact st3 (F:=λ m=>[[1,0,0],[0,1,0],[0,m,1]]) (λ _=>rfl) (λ _=>by rw [mul3,id3]; simp; try omega) (λ _ _ _=>by rw [mv3]; simp [vst]; try omega) λ _ _ _ _ _ _ _ _ _=>by rw [mul3,mul3]; simp [d_M,colT,colO,mixI,List.range,List.range.loop]; grind
noncomputable def trM (d:Nat):LM:=(List.range d).map λ a=>(List.range d).map λ b=>if a=b then (if a=0 then -1 else 1) else 0
noncomputable def vtr (v:List Int):List Int:=v.set 0 (-v.getD 0 0)
noncomputable def l_O (A:LM):LM:=(A.set 0 ((A.getD 0 []).map λ n=>-n)).map vtr
theorem p_g {d:Nat} (hd:d=2\/d=3):Chg d (trM d) (trM d)/\(∀ v:List Int,v.length=d->mv (trM d) v=vtr v)/\∀ A,Sq d A->l_O A=cjM d (trM d) (trM d) A:=by
 rcases hd with e | e <;> subst e
 ·have e:trM 2=[[-1,0],[0,1]]:=rfl;have s:Sq 2 (trM 2):=⟨rfl,by rw [e]; simp⟩;refine ⟨⟨s,s,by rw [e,mul2,id2]; simp,by rw [e,mul2,id2]; simp⟩,λ v hv=>?_,λ A hA=>?_⟩
  ·obtain ⟨x,y,rfl⟩:=v2 hv;rw [e,mv2]; simp [vtr]
  ·obtain ⟨a,b,c,d,rfl⟩:=sq2 hA;unfold cjM;rw [e,mul2,mul2];simp [l_O,vtr]
 ·have e:trM 3=[[-1,0,0],[0,1,0],[0,0,1]]:=rfl;have s:Sq 3 (trM 3):=⟨rfl,by rw [e]; simp⟩;refine ⟨⟨s,s,by rw [e,mul3,id3]; simp,by rw [e,mul3,id3]; simp⟩,λ v hv=>?_,λ A hA=>?_⟩
  ·obtain ⟨x,y,z,rfl⟩:=v3 hv;rw [e,mv3]; simp [vtr]
  ·obtain ⟨a,b,c,d,e',f,g,h,k,rfl⟩:=sq3 hA;unfold cjM;rw [e,mul3,mul3];simp [l_O,vtr]
structure Stp where
 i:Nat
 j:Nat
 m:Int
structure Stp.Ok (d:Nat) (s:Stp):Prop where
 hi:s.i < d
 hj:s.j < d
 ne:s.i≠s.j
 m3:s.m.natAbs<=3
noncomputable def chP (d:Nat) (tn:Bool):List Stp->LM
 | []=>if tn=true then trM d else idM d
 | s :: L=>mulM d (stM d s.i s.j s.m) (chP d tn L)
noncomputable def chQ (d:Nat) (tn:Bool):List Stp->LM
 | []=>if tn=true then trM d else idM d
 | s :: L=>mulM d (chQ d tn L) (stM d s.i s.j (-s.m))
theorem k_e {d:Nat} (hd:d=2\/d=3) {tn:Bool}:∀ {L:List Stp},(∀ s∈L,s.Ok d)->Chg d (chP d tn L) (chQ d tn L)
 | [],_=>by
  unfold chP chQ;cases tn
  ·exact Chg.id hd
  ·exact (p_g hd).1
 | s :: L,h=>by
  have o:=h s (zU ..);exact (k_e hd λ z hz=>h z (zN _ hz)).then hd (p_f hd o.hi o.hj o.ne).1
theorem q_Q {d:Nat} (hd:d=2\/d=3) {tn:Bool} {L:List Stp} (h:∀ s∈L,s.Ok d) {s:Stp} (o:s.Ok d) {A:LM} (hA:Sq d A):d_M d s.i s.j s.m (cjM d (chP d tn L) (chQ d tn L) A)=cjM d (chP d tn (s :: L)) (chQ d tn (s :: L)) A:=by
 have g:=(p_f (m:=s.m) hd o.hi o.hj o.ne);rw [g.2.2 _ (e_G (k_e hd h) A),l_K hd (k_e hd h) g.1 hA];rfl
noncomputable def k_f (d:Nat) (s a:Int):List Int:=(List.range d).map λ (j:Nat)=>s*(if a=(j:Int) then 1 else 0)
noncomputable def exs (d:Nat):Nat->List (List Int × LM)
 | 0=>[((List.range d).map λ (i:Nat)=>(i:Int),[])]
 | k+1=>(exs d k).flatMap λ p=>(List.range p.1.length).flatMap λ i=>[(p.1.eraseIdx i,p.2++[k_f d 1 (p.1.getD i 0)]),(p.1.eraseIdx i,p.2++[k_f d (-1) (p.1.getD i 0)])]
noncomputable def exl (d:Nat):List LM:=(exs d d).map Prod.snd
noncomputable def sqB (d:Nat) (N:LM):Bool:=N.length == d && N.all λ r=>r.length == d && r.all λ x=>decide (x.natAbs < 4)
noncomputable def g_M (d:Nat) (N:LM):Bool:=o_Y d N && ((decide (detM d N=1) || decide (detM d N=-1)) && (!decide (spn d N=0) || decide (spn d (negM N)=0)))
noncomputable def BsM (fl:Bool) (d:Nat) (N:LM):Prop:=if fl=true then N∈exl d else N∈menu/\N.length=d
noncomputable def l_a:List LM:=e_F++e_F.map negM
theorem i_T:∀ M∈g_d,M.length=2:=by decide
theorem g_B:∀ M∈e_F,M.length=3:=by decide
theorem j_u {M:LM} (h:M∈menu):(M.length=2/\M∈g_d)\/(M.length=3/\M∈l_a):=by
 unfold menu at h;rw [List.append_assoc] at h;rcases List.mem_append.mp h with h | h
 ·exact .inl ⟨i_T M h,h⟩
 ·refine .inr ⟨?_,h⟩;rcases List.mem_append.mp h with h | h
  ·exact g_B M h
  ·obtain ⟨N,hN,rfl⟩:=List.mem_map.mp h;unfold negM;rw [zqe];exact g_B N hN
theorem m_S:(g_d.all λ A=>g_d.all λ B=>g_M 2 (mulM 2 B A))=true:=by decide +kernel
theorem m_T:(l_a.all λ A=>l_a.all λ B=>g_M 3 (mulM 3 B A))=true:=by decide +kernel
theorem p_h:((exl 2).all λ A=>sqB 2 A && g_M 2 A)=true:=by decide +kernel
theorem p_i:((exl 3).all λ A=>sqB 3 A && g_M 3 A)=true:=by decide +kernel
theorem p_j:((exl 2).all λ A=>(exl 2).all λ B=>(exl 2).contains (mulM 2 B A))=true:=by decide +kernel
theorem p_k:((exl 3).all λ A=>(exl 3).all λ B=>(exl 3).contains (mulM 3 B A))=true:=by decide +kernel
theorem l_P {d:Nat}:∀ k,∀ p∈exs d k,p.1.length+k=d
 | 0,p,h=>by
  rw [List.mem_singleton.mp h];simp
 | k+1,p,h=>by
  obtain ⟨q,hq,h⟩:=List.mem_flatMap.mp h;obtain ⟨i,hi,h⟩:=List.mem_flatMap.mp h;have:=l_P k q hq;have hi:=List.mem_range.mp hi;have e:p.1=q.1.eraseIdx i:=by
   rcases List.mem_cons.mp h with h | h
   ·rw [h]
   ·rw [List.mem_singleton.mp h]
  rw [e,List.length_eraseIdx_of_lt hi];omega
theorem p_l {d k:Nat} {L:List Int} {R:LM} (h:(L,R)∈exs d k) {i:Nat} (hi:i < L.length) {s:Int} (hs:s=1\/s=-1):(L.eraseIdx i,R++[k_f d s (L.getD i 0)])∈exs d (k+1):=by
 refine List.mem_flatMap.mpr ⟨(L,R),h,List.mem_flatMap.mpr ⟨i,List.mem_range.mpr hi,?_⟩⟩;rcases hs with rfl | rfl
 ·exact zU ..
 ·exact zN _ (zU ..)
theorem s_A {d:Nat} {N:LM} (h:sqB d N=true):Sq d N/\b_B 2 N:=by
 unfold sqB at h;rw [Bool.and_eq_true,List.all_eq_true] at h;obtain ⟨h1,h2⟩:=h;refine ⟨⟨by simpa using h1,λ r hr=>?_⟩,λ r hr x hx=>?_⟩
 ·have:=h2 r hr;rw [Bool.and_eq_true] at this;simpa using this.1
 ·have:=h2 r hr;rw [Bool.and_eq_true,List.all_eq_true] at this;exact zY (this.2 x hx)
theorem l_Q {d:Nat} (hd:d=2\/d=3) {A:LM} (h:A∈exl d):sqB d A=true/\g_M d A=true:=by
 rcases hd with rfl | rfl
 ·exact (Bool.and_eq_true _ _).mp (List.all_eq_true.mp p_h A h)
 ·exact (Bool.and_eq_true _ _).mp (List.all_eq_true.mp p_i A h)
theorem q_R {d:Nat} (hd:d=2\/d=3) {A B:LM} (h:A∈exl d) (g:B∈exl d):mulM d B A∈exl d:=by
 rcases hd with rfl | rfl
 ·exact List.contains_iff_mem.mp (List.all_eq_true.mp (List.all_eq_true.mp p_j A h) B g)
 ·exact List.contains_iff_mem.mp (List.all_eq_true.mp (List.all_eq_true.mp p_k A h) B g)
theorem l_b {fl:Bool} {d:Nat} (hd:d=2\/d=3) {N:LM} (h:BsM fl d N):Sq d N/\b_B 2 N:=by
 unfold BsM at h;split at h
 ·exact s_A (l_Q hd h).1
 ·obtain ⟨h1,rfl⟩:=h;exact (j_m h1).2
theorem p_m {fl:Bool} {d:Nat} (hd:d=2\/d=3) {A B:LM} (h:BsM fl d A) (g:BsM fl d B):g_M d (mulM d B A)=true:=by
 unfold BsM at h g;split at h
 ·rename_i e;rw [if_pos e] at g;exact (l_Q hd (q_R hd h g)).2
 ·rename_i e;rw [if_neg e] at g;obtain ⟨h1,h2⟩:=h;obtain ⟨g1,g2⟩:=g;rcases j_u h1 with ⟨l1,m1⟩ | ⟨l1,m1⟩
  ·rcases j_u g1 with ⟨l2,m2⟩ | ⟨l2,_⟩
   ·rw [show d=2 by omega];exact List.all_eq_true.mp (List.all_eq_true.mp m_S A m1) B m2
   ·omega
  ·rcases j_u g1 with ⟨l2,_⟩ | ⟨l2,m2⟩
   ·omega
   ·rw [show d=3 by omega];exact List.all_eq_true.mp (List.all_eq_true.mp m_T A m1) B m2
noncomputable def i_a (d:Nat) (M:LM):Prop:=∃ N,Sq d N/\g_M d N=true/\Conj d N M
theorem i_a.rows {d:Nat} (hd:d=2\/d=3) {M:LM} (h:i_a d M):Sq d M/\Nice d M/\(detM d M=1\/detM d M=-1)/\(spn d M=0->spn d (negM M)=0):=by
 obtain ⟨N,sN,hg,hc⟩:=h;unfold g_M at hg;rw [Bool.and_eq_true,Bool.and_eq_true] at hg;obtain ⟨g1,g2,g3⟩:=hg;refine ⟨hc.sq,p_b hd sN g1 hc,?_,λ z=>?_⟩
 ·rw [h_V hd sN hc];rcases (Bool.or_eq_true _ _).mp g2 with q | q
  ·exact .inl (zY q)
  ·exact .inr (zY q)
 ·rw [c_J hd sN hc] at z;rw [c_J hd (j_q sN) (h_U hd sN hc)];rw [zW z] at g3;exact zY g3
theorem p_n {d:Nat} (hd:d=2\/d=3) {M:LM} (h:i_a d M) {ts:List Int} (ht:ts.length=d) {w:Int} (hw:0 < w) (h2:w < 2 ^ 71) (b1:b_B 1700 M) (b2:c_a 1700 ts):Kd d M (redT w ts) (redU w ts):=by
 obtain ⟨sM,n,dt,en⟩:=h.rows hd;have hu:=d_H ts hw;exact ⟨hd,⟨sM,by rw [c_K]; exact ht⟩,b1,f_G (by omega) b2,hu.1,by omega,j_l (by omega),dt,n,en⟩
theorem s_B {d:Nat} (hd:d=2\/d=3) {P P' A B:LM} (h:Chg d P P') (hA:Sq d A) (hB:Sq d B):mulM d (cjM d P P' B) (cjM d P P' A)=cjM d P P' (mulM d B A):=by
 unfold cjM;rw [mul_assoc hd h.p.mul h.q h.p.mul.mul,mul_assoc hd h.p hA h.q,← mul_assoc hd h.q h.p hA.mul,h.l,(c_m hd hA.mul).1,← mul_assoc hd h.p.mul hA h.q,mul_assoc hd h.p hB hA]
theorem p_o {fl:Bool} {d:Nat} (hd:d=2\/d=3) {P P' A B:LM} (c:Chg d P P') (h:BsM fl d A) (g:BsM fl d B):i_a d (mulM d (cjM d P P' B) (cjM d P P' A)):=by
 have sA:=(l_b hd h).1;have sB:=(l_b hd g).1;exact ⟨mulM d B A,sB.mul,p_m hd h g,by rw [s_B hd c sA sB]; exact c.conj _⟩
theorem m_U {a b:Int} (h:a*b=1\/a*b=-1):b=1\/b=-1:=by
 have e:a.natAbs*b.natAbs=1:=by
  rw [← yE];rcases h with h | h <;> rw [h] <;> rfl
 have:=Nat.eq_one_of_mul_eq_one_left e;omega
theorem p_p {d:Nat} (hd:d=2\/d=3) {A B:LM} (sA:Sq d A) (sB:Sq d B) (h:i_a d (mulM d B A)):Chg d A (invM d A):=by
 have dt:=(h.rows hd).2.2.1;rw [g_f hd sA sB] at dt;have m:=q_L hd sA (m_U dt);exact ⟨sA,r_V,m.1,m.2⟩
theorem i_U {d:Nat} (hd:d=2\/d=3) {A B:LM} (sB:Sq d B) (c:Chg d A (invM d A)):cjM d A (invM d A) (mulM d B A)=mulM d A B:=by
 unfold cjM;rw [mul_assoc hd c.p sB.mul c.q,mul_assoc hd sB c.p c.q,c.r,(c_m hd sB).2]
theorem s_X {d:Nat} {x y z:List Int} (hx:x.length=d) (hy:y.length=d) (hz:z.length=d):vs (va (va x y) z) x=va y z:=by
 subst hx;refine List.ext_getElem? λ k=>?_
 by_cases hk:k < x.length
 ·unfold vs va;rw [List.getElem?_zipWith,List.getElem?_zipWith,List.getElem?_zipWith,List.getElem?_zipWith,getD_at (k:=k) hk,getD_at (k:=k) (ns:=y) (by omega),getD_at (k:=k) (ns:=z) (by omega)];show some (_:Int)=some _;congr 1;omega
 ·rw [List.getElem?_eq_none (by rw [h_X (e_B (e_B rfl hy) hz) rfl]; omega),List.getElem?_eq_none (by rw [e_B hy hz]; omega)]
theorem m_V {d:Nat} (hd:d=2\/d=3) {A B:LM} (sB:Sq d B) (c:Chg d A (invM d A)) {a b:List Int} (ha:a.length=d) (hb:b.length=d):cjT d A (invM d A) (mulM d B A) (va (mv B a) b) a=va (mv A b) a:=by
 unfold cjT;rw [i_U hd sB c,e_l hd c.p sB ha,g_z hd c.p (b_H sB) hb];exact s_X (b_H c.p) (b_H c.p) ha
noncomputable def midI (d:Nat) (M:LM):Int:=((List.range d).map λ k=>(M.getD k []).getD k 0).sum
theorem p_q {d:Nat} (hd:d=2\/d=3) {A B:LM} (sA:Sq d A) (sB:Sq d B):midI d (mulM d B A)=midI d (mulM d A B):=by
 rcases hd with rfl | rfl
 ·obtain ⟨a,b,c,e,rfl⟩:=sq2 sA;obtain ⟨x,y,z,w,rfl⟩:=sq2 sB;simp [midI,mulM,dotI,colI,List.range_succ];grind
 ·obtain ⟨a1,a2,a3,a4,a5,a6,a7,a8,a9,rfl⟩:=sq3 sA;obtain ⟨b1,b2,b3,b4,b5,b6,b7,b8,b9,rfl⟩:=sq3 sB;simp [midI,mulM,dotI,colI,List.range_succ];grind
noncomputable def digs (b:Int):Nat->Int->List Int
 | 0,_=>[]
 | k+1,x=>if 0 < x then x.fmod b :: digs b k (x.fdiv b) else []
theorem k_g (b:Int):∀ k x,(digs b k x).length<=k
 | 0,_=>zL _
 | k+1,x=>by
  unfold digs;split
  ·exact Nat.succ_le_succ (k_g b k _)
  ·exact Nat.zero_le _
noncomputable def cutI (ns:List Int):List Int:=(ns.drop (HT.sIx ns.length 0 (some 10))).take (HT.sIx ns.length ns.length (some 30) - HT.sIx ns.length 0 (some 10))
noncomputable def c_Z (ns:List Int) (d:Nat):List Int:=if ns.getD 10 0 < 10 ^ Int.toNat 18 then cutI ns else digs ((d:Int)*((d:Int) - 1)*7) 20 (ns.getD 10 0 - 10 ^ Int.toNat 18)
theorem p_r (ns:List Int) (d:Nat):(c_Z ns d).length<=20:=by
 unfold c_Z;split
 ·unfold cutI;rw [List.length_take,show ((10:Int))=((10:Nat):Int) from rfl,show ((30:Int))=((30:Nat):Int) from rfl,HT.sIx_nat,HT.sIx_nat];omega
 ·exact k_g _ _ _
noncomputable def d_A (d:Nat) (c:Int):Stp:=⟨(c.fmod d).toNat,(((c.fmod d)+1+(c.fdiv d).fmod ((d:Int) - 1)).fmod d).toNat,(c.fdiv ((d:Int)*((d:Int) - 1))+3).fmod 7 - 3⟩
theorem i_b {d:Nat} (hd:d=2\/d=3) (c:Int):(d_A d c).Ok d:=by
 have fm:∀ (x y:Int),0 < y->0<=x.fmod y/\x.fmod y < y:=λ x y h=>⟨Int.fmod_nonneg_of_pos x h,Int.fmod_lt_of_pos x h⟩;have f1:=fm c d (by omega);have f2:=fm (c.fdiv d) ((d:Int) - 1) (by omega);have f3:=fm (c.fmod d+1+(c.fdiv d).fmod ((d:Int) - 1)) d (by omega);have f4:=fm (c.fdiv ((d:Int)*((d:Int) - 1))+3) 7 (by decide);have ne:c.fmod d≠(c.fmod d+1+(c.fdiv d).fmod ((d:Int) - 1)).fmod d:=by
  generalize c.fmod d=i at f1 f3;generalize (c.fdiv d).fmod ((d:Int) - 1)=z at f2 f3;rw [Int.fmod_eq_emod_of_nonneg _ (by omega)] at f3 ⊢;rcases hd with e | e <;> subst e <;> omega
 refine ⟨?_,?_,?_,?_⟩
 ·show (c.fmod d).toNat < d; omega
 ·show ((c.fmod d+1+(c.fdiv d).fmod ((d:Int) - 1)).fmod d).toNat < d; omega
 ·show (c.fmod d).toNat≠((c.fmod d+1+(c.fdiv d).fmod ((d:Int) - 1)).fmod d).toNat; omega
 ·show ((c.fdiv ((d:Int)*((d:Int) - 1))+3).fmod 7 - 3).natAbs<=3; omega
noncomputable def stL (ns:List Int) (d:Nat):List Stp:=((c_Z ns d).map (d_A d)).reverse
theorem s_C (ns:List Int) {d:Nat} (hd:d=2\/d=3):∀ s∈stL ns d,s.Ok d:=λ s hs=>by
 obtain ⟨c,_,rfl⟩:=List.mem_map.mp (List.mem_reverse.mp hs);exact i_b hd c
noncomputable def exF (ns:List Int):Bool:=decide (((ns.getD 0 0).fdiv 2).fmod 2=1)
theorem d_X {t:Adr} {C:Addr} {p:Addr->Prop} (h:b_F t C) (h0:p t.a_1r) (h1:p t.a_21) (h2:p t.a_22) (h3:p t.a_1w) (h4:p t.a_1q) (h5:p t.a_1t) (h6:p t.a_1s) (h7:p t.a_1v) (h8:p t.a_1g):p C:=by
 obtain ⟨i,hi,e⟩:=h
 match i,hi,e with
 | 0,_,e=>cases e; exact h0
 | 1,_,e=>cases e; exact h1
 | 2,_,e=>cases e; exact h2
 | 3,_,e=>cases e; exact h3
 | 4,_,e=>cases e; exact h4
 | 5,_,e=>cases e; exact h5
 | 6,_,e=>cases e; exact h6
 | 7,_,e=>cases e; exact h7
 | 8,_,e=>cases e; exact h8
theorem i_V (T:Txt K mg t) {C:Addr} (h:b_F t C):Cls K C:=d_X (p:=λ C=>Cls K C) h T.cl_1r T.cl_21 T.cl_22 T.cl_1w T.cl_1q T.cl_1t T.cl_1s T.cl_1v T.cl_1g
theorem k_h (T:Txt K mg t) {C:Addr} (h:b_F t C):e_w K C "one" := d_X (p:=λ C=>e_w K C "one") h T.no_1r T.no_21 T.no_22 T.no_1w T.no_1q T.no_1t T.no_1s T.no_1v T.no_1g
theorem k_i (T:Txt K mg t) {C:Addr} {i j:Nat} (hi:i < 9) (hj:j < 9) (h1:(e_U t)[i]?=some C) (h2:(e_U t)[j]?=some C):i=j:=by
 have nd:(e_U t).Nodup:=T.nn;obtain ⟨a,e1⟩:=zqa h1;obtain ⟨b,e2⟩:=zqa h2;exact (List.getElem_inj nd).mp (e1.trans e2.symm)
theorem m_W {T:Txt K mg t} (F:∀ C,b_F t C->FnOk P w K mg base CX0 6 t.a_a t.d_a pL' (sp_a K t C)):∀ C,b_F t C->e_a P w K mg base 6 "fold" (sp_a K t) C:=λ C h=>d_X (p:=λ C=>b_F t C->e_a P w K mg base 6 "fold" (sp_a K t) C) h (λ h=>⟨T.cl_1r,_,_,_,T.h_12,F _ h,T.b_a⟩) (λ h=>⟨T.cl_21,_,_,_,T.h_1j,F _ h,T.b_a⟩) (λ h=>⟨T.cl_22,_,_,_,T.h_1k,F _ h,T.b_a⟩) (λ h=>⟨T.cl_1w,_,_,_,T.h_17,F _ h,T.b_a⟩) (λ h=>⟨T.cl_1q,_,_,_,T.h_o,F _ h,T.b_a⟩) (λ h=>⟨T.cl_1t,_,_,_,T.h_18,F _ h,T.b_a⟩) (λ h=>⟨T.cl_1s,_,_,_,T.h_19,F _ h,T.b_a⟩) (λ h=>⟨T.cl_1v,_,_,_,T.h_1a,F _ h,T.b_a⟩) (λ h=>⟨T.cl_1g,_,_,_,T.h_f,F _ h,T.b_a⟩) h
theorem l_c {T:Txt K mg t} (F:∀ C,b_F t C->FnOk P w K mg base CX0 12 t.a_4 t.d_4 pL' (sp_4 K t C)):∀ C,b_F t C->e_a P w K mg base 12 "slide" (sp_4 K t) C:=λ C h=>d_X (p:=λ C=>b_F t C->e_a P w K mg base 12 "slide" (sp_4 K t) C) h (λ h=>⟨T.cl_1r,_,_,_,T.h_l,F _ h,T.b_4⟩) (λ h=>⟨T.cl_21,_,_,_,T.h_14,F _ h,T.b_4⟩) (λ h=>⟨T.cl_22,_,_,_,T.h_16,F _ h,T.b_4⟩) (λ h=>⟨T.cl_1w,_,_,_,T.h_n,F _ h,T.b_4⟩) (λ h=>⟨T.cl_1q,_,_,_,T.h_e,F _ h,T.b_4⟩) (λ h=>⟨T.cl_1t,_,_,_,T.h_q,F _ h,T.b_4⟩) (λ h=>⟨T.cl_1s,_,_,_,T.h_s,F _ h,T.b_4⟩) (λ h=>⟨T.cl_1v,_,_,_,T.h_u,F _ h,T.b_4⟩) (λ h=>⟨T.cl_1g,_,_,_,T.h_9,F _ h,T.b_4⟩) h
theorem l_d {T:Txt K mg t} (F:∀ C,b_F t C->FnOk P w K mg base CX0 13 t.a_6 t.d_6 pL' (sp_6 K t C)):∀ C,b_F t C->e_a P w K mg base 13 "order" (sp_6 K t) C:=λ C h=>d_X (p:=λ C=>b_F t C->e_a P w K mg base 13 "order" (sp_6 K t) C) h (λ h=>⟨T.cl_1r,_,_,_,T.h_k,F _ h,T.b_6⟩) (λ h=>⟨T.cl_21,_,_,_,T.h_13,F _ h,T.b_6⟩) (λ h=>⟨T.cl_22,_,_,_,T.h_15,F _ h,T.b_6⟩) (λ h=>⟨T.cl_1w,_,_,_,T.h_m,F _ h,T.b_6⟩) (λ h=>⟨T.cl_1q,_,_,_,T.h_d,F _ h,T.b_6⟩) (λ h=>⟨T.cl_1t,_,_,_,T.h_p,F _ h,T.b_6⟩) (λ h=>⟨T.cl_1s,_,_,_,T.h_r,F _ h,T.b_6⟩) (λ h=>⟨T.cl_1v,_,_,_,T.h_t,F _ h,T.b_6⟩) (λ h=>⟨T.cl_1g,_,_,_,T.h_8,F _ h,T.b_6⟩) h
theorem m_X {w:Int} {S:List Int} {d:Nat} (hw:0 < w) (hl:S.length=d):(redT w S).any (λ n=>n != 0)=false ↔ S=List.replicate d 0:=by
 constructor
 ·intro h;refine List.eq_replicate_iff.mpr ⟨hl,λ x hx=>?_⟩;obtain ⟨i,hi,rfl⟩:=yF hx;have hr:i < (redT w S).length:=by unfold redT; rw [zqe]; exact hi
  have e:=c_t (u:=w) (ns:=S) (by omega) (i:=i) (x:=S[i]) (y:=(redT w S)[i]) (by simp [hi]) (by simp [hr]);have z:=List.any_eq_false.mp h _ (yA hr);have z0:(redT w S)[i]=0:=by simpa using z
  rw [z0,Int.zero_mul] at e;have up:=d_H S hw;rcases Int.mul_eq_zero.mp e with q | q
  ·exact q
  ·omega
 ·intro h;rw [h,(h_T hw d).1];refine List.any_eq_false.mpr λ x hx=>?_;rw [List.eq_of_mem_replicate hx]
  decide
theorem g_C {d:Nat} {M:LM} {ts:List Int} {u:Int} (kd:Kd d M ts u) (z:spn d M≠0):(!(((redT (u*spn d M) (farT d M ts)).map λ n=>n != 0).any id))=c_E d M ts:=by
 have sr:=e_t d M;have hw:0 < u*spn d M:=Int.mul_pos kd.pos (by omega);have hl:(farT d M ts).length=d:=(d_W (x:=(M,ts)) kd.af _).len;have k:=m_X hw hl;unfold c_E;rw [List.any_map];show (!((redT (u*spn d M) (farT d M ts)).any λ n=>n != 0))=_;cases e:(redT (u*spn d M) (farT d M ts)).any λ n=>n != 0 with
 | false=>rw [zW (k.mp e)]; rfl
 | true=>rw [zX (λ q=>by rw [k.mpr q] at e; cases e)]; rfl
theorem g_D {H:Hp} {x dx:Addr} {o o':HO} {q:HO} (h1:H x=none) (h2:H dx=none) (h3:dx≠x):Same H (upd (upd (upd H dx q) x o) x o'):=λ b u e=>by
 have b1:b≠x:=a_J e h1;have b2:b≠dx:=a_J e h2;rw [a_H b1,a_H b1,a_H b2];exact e
noncomputable def sp_b:Sp:=λ vs H Q _=>∃ (c b:Int) (m:Nat),vs=[.int c,.int b,.int m]/\2<=b/\b<=1000/\m<=40/\∀ r H',Same H H'->H' r=some (.lst ((digs b m (c - 10 ^ Int.toNat 18)).map V.int))->Q (.ref r) H'
noncomputable def sp_c:Sp:=λ vs H Q _=>∃ (c:Int) (d:Nat),vs=[.int c,.int d]/\(d=2\/d=3)/\∀ r H' N,Same H H'->MatL H' r N->N∈exl d->Q (.ref r) H'
noncomputable def sp_n:Sp:=λ vs H Q _=>∃ (a:Addr) (A:LM) (c:Int) (d B:Nat),vs=[.ref a,.int c]/\MatL H a A/\Sq d A/\(d=2\/d=3)/\b_B B A/\B<=1000 /\
 ∀ r H',Same H H'->MatL H' r (d_M d (d_A d c).i (d_A d c).j (d_A d c).m A)->b_B (B+4) (d_M d (d_A d c).i (d_A d c).j (d_A d c).m A)->Q (.ref r) H'
noncomputable def sp_e (K:Frag):Sp:=λ vs H Q _=>∃ (a:Addr) (ns:List Int) (d:Nat),vs=[.ref a,.int d]/\SqL K H a (ns.map V.int)/\(d=2\/d=3)/\∀ r H',Same H H'->H' r=some (.lst ((c_Z ns d).map V.int))->Q (.ref r) H'
noncomputable def cjL (ns:List Int) (d:Nat) (N:LM):LM:=cjM d (chP d false (stL ns d)) (chQ d false (stL ns d)) N
noncomputable def sp_w (K:Frag):Sp:=λ vs H Q _=>∃ (a:Addr) (ns:List Int) (k d:Nat) (e:Int),vs=[.ref a,.int k,.int e]/\SqL K H a (ns.map V.int)/\(d=2\/d=3)/\(d:Int)=2+e /\
 ∀ r H' N,Same H H'->MatL H' r (cjL ns d N)->BsM (exF ns) d N->b_B 82 (cjL ns d N)->Q (.ref r) H'
noncomputable def sp_u (K:Frag):Sp:=λ vs H Q _=>∃ (a:Addr) (ns:List Int) (k d:Nat),vs=[.ref a,.int k,.int d]/\SqL K H a (ns.map V.int)/\(d=2\/d=3)/\∀ r p H' ts u,Same H H'->H' r=some (.tup [.ref p,.int u])->H' p=some (.lst (ts.map V.int))->ts.length=d->c_a 70 ts->0 < u->u<=12->Q (.ref r) H'
noncomputable def sp_h (K:Frag):Sp:=λ vs H Q _=>∃ (a b c e:Addr) (A B:LM) (ts ss:List Int) (d:Nat),vs=[.ref a,.ref b,.ref c,.ref e]/\MatL H a A/\H b=some (.lst (ts.map V.int))/\MatL H c B/\H e=some (.lst (ss.map V.int))/\Sq d A/\Sq d B/\(d=2\/d=3)/\ts.length=d/\ss.length=d/\b_B 82 A/\b_B 82 B/\c_a 80 ts /\
 ∀ r m s H',Same H H'->H' r=some (.tup [.ref m,.ref s])->MatL H' m (mulM d B A)->H' s=some (.lst ((va (mv B ts) ss).map V.int))->Q (.ref r) H'
noncomputable def sp_y (K:Frag):Sp:=λ vs H Q _=>∃ (b1 b2 b3:Bool) (a b:Addr) (A:LM) (ts:List Int) (u:Int) (d:Nat),vs=[.ref a,.ref b,.int u]/\MatB b1 b2 K H a A/\SqB b3 K H b (ts.map V.int)/\Sq d A/\d<=4/\ts.length<=100/\0 < u/\c_V u/\∀ q H',Same H H'->b_Z K H' q A (redT u ts) (redU u ts)->Q (.ref q) H'
noncomputable def sp_1f (K:Frag) (t:Adr):Sp:=λ vs H Q _=>∃ (a b C C' p p':Addr) (M M':LM) (ts ts':List Int) (u u':Int) (d:Nat),vs=[.ref a,.ref b]/\(e_U t)[wix d M ts]?=some C/\(e_U t)[wix d M' ts']?=some C'/\d_F K H a C p M ts u d/\d_F K H b C' p' M' ts' u' d/\g_L d M ts M' ts'/\∀ H',Same H H'->Q (.bl true) H'
noncomputable def sp_v:Sp:=λ vs H Q _=>∃ (a:Addr) (A:LM) (d:Nat),vs=[.ref a]/\MatL H a A/\Sq d A/\(d=2\/d=3)/\∀ H',Same H H'->Q (.bl (decide (A=idM d))) H'
noncomputable def sp_s:Sp:=λ vs H Q _=>∃ (a:Addr) (A:LM) (d:Nat),vs=[.ref a,.int (spn d A)]/\MatL H a A/\Sq d A/\(d=2\/d=3)/\b_B 200 A/\∀ H',Same H H'->Q (.bl true) H'
noncomputable def sp_j:Sp:=λ vs H Q _=>∃ (a:Addr) (A:LM) (d:Nat),vs=[.ref a]/\MatL H a A/\Sq d A/\(d=2\/d=3)/\∀ H',Same H H'->Q (.int (midI d A)) H'
noncomputable def b_O (x y:List Int) (q:Int):List Int:=List.zipWith (λ a b=>a - q*b) x y
theorem f_J {x y:List Int} {q:Int} (h:x.length=y.length):(b_O x y q).length=x.length:=by
 unfold b_O;rw [List.length_zipWith];omega
theorem i_c (q:Int):∀ (x y c:List Int),x.length=y.length->dotI (b_O x y q) c=dotI x c - q*dotI y c
 | [],[],c,_=>by simp [b_O,dotI]
 | a :: x,b :: y,[],_=>by simp [b_O,dotI]
 | a :: x,b :: y,e :: c,h=>by
  have ih:=i_c q x y c (by simpa using h);have e1:b_O (a :: x) (b :: y) q=(a - q*b) :: b_O x y q:=rfl;rw [e1];simp only [dotI] at ih ⊢;simp only [List.zipWith_cons_cons,List.sum_cons] at ih ⊢;rw [ih];grind
 | [],b :: y,c,h=>by simp at h
 | a :: x,[],c,h=>by simp at h
noncomputable def rowT (cs:LM) (r:List Int):List Int:=cs.map λ c=>dotI r c
theorem m_Y {cs:LM} {x y:List Int} {q:Int} (h:x.length=y.length):rowT cs (b_O x y q)=b_O (rowT cs x) (rowT cs y) q:=by
 unfold rowT b_O;rw [List.zipWith_map_left,List.zipWith_map_right];refine yG (by simp) λ i h1 h2=>?_;simp only [List.getElem_map,List.getElem_zipWith];exact i_c q x y _ h
theorem k_j {B:Nat} {x y m:Int} (hx:x.natAbs < 2 ^ B) (hy:y.natAbs < 2 ^ B) (hm:m.natAbs<=3):(x+m*y).natAbs < 2 ^ (B+2)/\(x - m*y).natAbs < 2 ^ (B+2):=by
 have h1:=Nat.mul_le_mul hm (Nat.le_of_lt_succ (Nat.lt_succ_of_lt hy));have h2:m.natAbs*y.natAbs < 3*2 ^ B\/m.natAbs*y.natAbs=0:=by
  by_cases z:m.natAbs=0
  ·right; rw [z,Nat.zero_mul]
  ·left; exact zI (Nat.mul_lt_mul_of_pos_left hy (Nat.pos_of_ne_zero z)) (zK _ hm)
 have h3:=yE m y;have a1:=Int.natAbs_add_le x (m*y);have a2:=Int.natAbs_sub_le x (m*y);have e:2 ^ (B+2)=4*2 ^ B:=by rw [Nat.pow_add]; omega
 have hp:=Nat.two_pow_pos B;rcases h2 with h2 | h2 <;> constructor <;> omega
theorem m_Z {d k B:Nat} {x y:List Int} {m:Int} (hx:x.length=d) (hy:y.length=d) (bx:∀ z∈x,z.natAbs < 2 ^ B) (by':∀ z∈y,z.natAbs < 2 ^ B) (hm:m.natAbs<=3):∀ z∈mixI d x y m k,z.natAbs < 2 ^ (B+2):=λ z hz=>by
 obtain ⟨t,ht,rfl⟩:=List.mem_map.mp hz;have htd:=List.mem_range.mp ht;have h1:=bx _ (L2.getD_mem (show t < x.length by omega));have h2:=by' _ (L2.getD_mem (show t < y.length by omega));split
 ·exact (k_j h1 h2 hm).1
 ·exact zI h1 (zM (by decide) (by omega))
theorem l_e {d i j B:Nat} {m:Int} {R:LM} (sR:Sq d R) (hi:i < d) (hj:j < d) (bR:b_B (B+2) R) (hm:m.natAbs<=3):b_B (B+4) (colT d i j m R d):=λ r hr x hx=>by
 obtain ⟨s,hs,rfl⟩:=List.mem_map.mp hr;have hsd:=List.mem_range.mp hs;rw [if_pos hsd] at hx;have hm':R.getD s []∈R:=by rw [show R.getD s []=R[s]'(by have:=sR.1; omega) by have:=sR.1; simp [show s < R.length by omega]]; exact yA _
 have hl:=sR.2 _ hm';rcases List.mem_or_eq_of_mem_set hx with h | h
 ·exact zI (bR _ hm' x h) (zM (by decide) (by omega))
 ·rw [h];exact (k_j (bR _ hm' _ (L2.getD_mem (by omega))) (bR _ hm' _ (L2.getD_mem (by omega))) hm).2
theorem k_k {a b q:Int} (hb:b≠0) (h:b.natAbs<=a.natAbs) (hr:2*(a - q*b).natAbs<=b.natAbs):4*((1+q.natAbs)*(a - q*b).natAbs)<=5*a.natAbs:=by
 have hbp:0 < b.natAbs:=Int.natAbs_pos.mpr hb;have h1:q.natAbs*b.natAbs<=a.natAbs+(a - q*b).natAbs:=by
  rw [← yE];have:=Int.natAbs_sub_le a (a - q*b);have e:a - (a - q*b)=q*b:=by omega
  rw [e] at this;exact this
 generalize (a - q*b).natAbs=r at *;generalize q.natAbs=Q at *
 generalize a.natAbs=A at *;generalize b.natAbs=B at *
 have h2:2*(Q*r)<=Q*B:=by
  have:=Nat.mul_le_mul_left Q hr;rw [Nat.mul_left_comm] at this;exact this
 rw [Nat.add_mul,Nat.one_mul];omega
theorem p_s {A Q r:Nat} (h:4*((1+Q)*r)<=5*A) (h2:2*r<=A):(1+Q) ^ 3*r ^ 4<=A ^ 4:=by
 have e1:(1+Q) ^ 3*r ^ 4=((1+Q)*r) ^ 3*r:=by rw [Nat.mul_pow,Nat.pow_succ r 3,Nat.mul_assoc]
 rw [e1];generalize (1+Q)*r=u at h;have e2:128*(u ^ 3*r)=(4*u) ^ 3*(2*r):=by grind
 have e3:(4*u) ^ 3*(2*r)<=(5*A) ^ 3*A:=Nat.mul_le_mul (Nat.pow_le_pow_left h 3) h2;have e4:(5*A) ^ 3*A=125*A ^ 4:=by grind
 omega
theorem p_t {A Q B:Nat} (h:Q*B=A) (hB:1<=B) (hA:1<=A):(1+Q) ^ 3<=8*A ^ 4:=by
 have h1:Q<=A:=by rw [← h]; exact Nat.le_mul_of_pos_right Q hB
 have h2:(1+Q) ^ 3<=(2*A) ^ 3:=Nat.pow_le_pow_left (by omega) 3;have h3:(2*A) ^ 3=8*A ^ 3:=by grind
 have h4:A ^ 3<=A ^ 4:=zM hA (by decide);omega
noncomputable def wt (v:Int):Nat:=if v=0 then 1 else 8*v.natAbs ^ 4
theorem l_f (v:Int):1<=wt v:=by
 unfold wt;split
 ·omega
 ·rename_i h;have:0 < v.natAbs ^ 4:=Nat.pow_pos (Int.natAbs_pos.mpr h);omega
theorem l_R {a b q:Int} (hb:b≠0) (h:b.natAbs<=a.natAbs) (hr:2*(a - q*b).natAbs<=b.natAbs):(1+q.natAbs) ^ 3*wt (a - q*b)<=wt a:=by
 have hbp:1<=b.natAbs:=Int.natAbs_pos.mpr hb;have ha:a≠0:=λ e=>by rw [e] at h; simp at h; omega
 have gs:=k_k hb h hr;unfold wt;rw [if_neg ha];split
 ·rename_i z;rw [Nat.mul_one];refine p_t (B:=b.natAbs) ?_ hbp (by omega);rw [← yE];have:q*b=a:=by omega
  rw [this]
 ·have:=p_s gs (by omega);rw [Nat.mul_left_comm];exact Nat.mul_le_mul_left 8 this
theorem q_S {a b q:Int} (hb:b≠0) (h:b.natAbs<=a.natAbs) (hr:2*(a - q*b).natAbs<=b.natAbs):1<=q.natAbs:=by
 have hbp:1<=b.natAbs:=Int.natAbs_pos.mpr hb;refine Nat.pos_of_ne_zero λ z=>?_;have:q=0:=Int.natAbs_eq_zero.mp z;rw [this,Int.zero_mul,Int.sub_zero] at hr;omega
theorem q_T {a b q:Int} (hb:b≠0) (h:b.natAbs<=a.natAbs) (hr:2*(a - q*b).natAbs<=b.natAbs):wt (a - q*b) < wt a:=by
 have h1:=l_R hb h hr;have h2:=q_S hb h hr;have h3:2 ^ 3<=(1+q.natAbs) ^ 3:=Nat.pow_le_pow_left (by omega) 3;have h4:=zK (wt (a - q*b)) h3;have h5:=l_f (a - q*b);omega
noncomputable def c_G:List Nat->Nat
 | []=>1
 | x :: r=>x*c_G r
theorem i_W:∀ (xs:List Nat) (i:Nat) (x y c:Nat),xs[i]?=some x->c*y<=x->c*c_G (xs.set i y)<=c_G xs
 | [],i,x,y,c,h,_=>by simp at h
 | z :: r,0,x,y,c,h,hc=>by
  obtain rfl:z=x:=by simpa using h
  show c*(y*c_G r)<=z*c_G r;rw [← Nat.mul_assoc];exact zK _ hc
 | z :: r,i+1,x,y,c,h,hc=>by
  have ih:=i_W r i x y c (by simpa using h) hc;show c*(z*c_G (r.set i y))<=z*c_G r;rw [Nat.mul_left_comm];exact Nat.mul_le_mul_left _ ih
theorem g_E:∀ (xs:List Nat),(∀ x∈xs,1<=x)->1<=c_G xs
 | [],_=>zL 1
 | x :: r,h=>Nat.mul_pos (h x (zU ..)) (g_E r λ z hz=>h z (zN _ hz))
theorem g_i:∀ (xs:List Nat) (i:Nat) (x y:Nat),(∀ z∈xs,1<=z)->xs[i]?=some x->y < x->c_G (xs.set i y) < c_G xs
 | [],i,x,y,_,h,_=>by simp at h
 | z :: r,0,x,y,hp,h,hc=>by
  obtain rfl:z=x:=by simpa using h
  exact Nat.mul_lt_mul_of_pos_right hc (g_E r λ z hz=>hp z (zN _ hz))
 | z :: r,i+1,x,y,hp,h,hc=>by
  have ih:=g_i r i x y (λ z hz=>hp z (zN _ hz)) (by simpa using h) hc;exact Nat.mul_lt_mul_of_pos_left ih (hp z (zU ..))
noncomputable def colW (k top:Nat) (L:LM):List Nat:=(L.drop top).map λ r=>wt (r.getD k 0)
noncomputable def BdM (M:Nat) (L:LM):Prop:=∀ r∈L,∀ x∈r,x.natAbs<=M
theorem l_S {M:Nat} {x y:List Int} {q:Int} (hx:∀ z∈x,z.natAbs<=M) (hy:∀ z∈y,z.natAbs<=M):∀ z∈b_O x y q,z.natAbs<=(1+q.natAbs)*M:=λ z hz=>by
 unfold b_O at hz;obtain ⟨i,hi,rfl⟩:=yF hz;rw [List.getElem_zipWith];rw [List.length_zipWith] at hi;have h1:=hx _ (yA (show i < x.length by omega));have h2:=hy _ (yA (show i < y.length by omega));have h3:=Int.natAbs_sub_le (x[i]'(by omega)) (q*y[i]'(by omega));rw [yE] at h3;have h4:=Nat.mul_le_mul_left q.natAbs h2;rw [Nat.add_mul,Nat.one_mul];omega
theorem g_X {M i:Nat} {L:LM} {x y:List Int} {q:Int} (h:BdM M L) (hx:x∈L) (hy:y∈L):BdM ((1+q.natAbs)*M) (L.set i (b_O x y q)):=λ r hr z hz=>by
 rcases List.mem_or_eq_of_mem_set hr with e | e
 ·refine zS (h r e z hz) ?_;rw [Nat.add_mul,Nat.one_mul];omega
 ·rw [e] at hz;exact l_S (h x hx) (h y hy) z hz
theorem k_l {k top i:Nat} {L:LM} {r:List Int} (h:top<=i):colW k top (L.set i r)=(colW k top L).set (i - top) (wt (r.getD k 0)):=by
 unfold colW;rw [List.drop_set,if_neg (by omega),List.map_set]
theorem g_j {x y:List Int} {q:Int} {k:Nat} (hx:k < x.length) (hy:k < y.length):(b_O x y q).getD k 0=x.getD k 0 - q*y.getD k 0:=by
 unfold b_O;simp [zqc,List.getElem?_zipWith,hx,hy]
theorem k_m {c:Nat}:∀ (xs:List Nat),(∀ x∈xs,x<=c)->c_G xs<=c ^ xs.length
 | [],_=>by simp [c_G]
 | x :: r,h=>by
  show x*c_G r<=c ^ (r.length+1);rw [Nat.pow_succ,Nat.mul_comm (c ^ r.length)];exact Nat.mul_le_mul (h x (zU ..)) (k_m r λ z hz=>h z (zN _ hz))
theorem s_Y {M:Nat} {v:Int} (hM:1<=M) (h:v.natAbs<=M):wt v<=8*M ^ 4:=by
 have h1:1<=M ^ 4:=Nat.pow_pos hM;unfold wt;split
 ·omega
 ·exact Nat.mul_le_mul_left 8 (Nat.pow_le_pow_left h 4)
theorem k_n {a b:Int} (hb:0 < b):2*(a - ((2*a+b).fdiv (2*b))*b).natAbs<=b.natAbs:=by
 have h1:=Int.mul_fdiv_add_fmod (2*a+b) (2*b);have h2:=Int.fmod_nonneg_of_pos (2*a+b) (show 0 < 2*b by omega);have h3:=Int.fmod_lt_of_pos (2*a+b) (show 0 < 2*b by omega);generalize (2*a+b).fdiv (2*b)=q at *
 generalize (2*a+b).fmod (2*b)=r at *;have e:2*b*q=2*(q*b):=by grind
 rw [e] at h1;omega
theorem q_U {a b:Int} (hb:b≠0):2*(a - ((2*a+b).fdiv (2*b))*b).natAbs<=b.natAbs:=by
 rcases Int.lt_or_gt_of_ne hb with h | h
 ·have k:=k_n (a:=-a) (b:=-b) (by omega);have e:(2*-a+-b).fdiv (2*-b)=(2*a+b).fdiv (2*b):=by
   rw [show 2*-a+-b=-(2*a+b) by omega,show 2*-b=-(2*b) by omega,Int.neg_fdiv_neg]
  rw [e] at k;generalize (2*a+b).fdiv (2*b)=q at *
  rw [show -a - q*-b=-(a - q*b) by grind,Int.natAbs_neg,Int.natAbs_neg] at k;exact k
 ·exact k_n h
noncomputable def noE:Expr:=.Name "" ⟨0,0,0,0⟩
noncomputable def retE:Stmt->Expr
 | .Return (some e) _=>e
 | _=>noE
noncomputable def argE (i:Nat):Expr->Expr
 | .Call _ as _ _=>as.getD i noE
 | _=>noE
noncomputable def kwE:Expr->Expr
 | .Call _ _ (k :: _) _=>k.value
 | _=>noE
noncomputable def lamP:Expr->Arguments
 | .Lambda p _ _ _=>p
 | _=>⟨[],[],none,[],[],none,[]⟩
noncomputable def lamB:Expr->Expr
 | .Lambda _ b _ _=>b
 | _=>noE
noncomputable def lamS:Expr->Scope
 | .Lambda _ _ s _=>s
 | _=>a_D (.Pass ⟨0,0,0,0⟩)
noncomputable def j_v:Expr->Pos
 | .Lambda _ _ _ p=>p
 | _=>⟨0,0,0,0⟩
noncomputable def d_z:Expr:=argE 2 (retE ((b_L s_24).getD 0 (.Pass ⟨0,0,0,0⟩)))
noncomputable def i_d:Expr:=kwE (retE ((b_L s_2).getD 2 (.Pass ⟨0,0,0,0⟩)))
structure TT (K:Frag) (t:Adr) (H:Hp):Prop where
 r:e_q H (tabP K t.a_2) (j_v i_d) "Steps.rising.<locals>.<lambda>"
 m:e_q H (tabP K t.a_24) (j_v d_z) "met.<locals>.<lambda>"
 ne:tabP K t.a_2≠tabP K t.a_24
noncomputable def Ev (K:Frag) (t:Adr) (S:List Addr) (H H':Hp):Prop:=(∀ b o,b ∉ S->(∀ ps,o≠.tbl ps)->H b=some o->H' b=some o)/\(TT K t H->TT K t H')
noncomputable def Bt (S:List Addr) (H H':Hp):Prop:=∀ b o,b ∉ S->H b=some o->H' b=some o
theorem j_w {S:List Addr} {H H':Hp} {P:Addr} {pos:Pos} {q:Str} (h:e_q H P pos q) (b:Bt S H H') (hS:∀ a∈S,H a=none\/(∃ zs,H a=some (.lst zs))\/∃ C dx fs,H a=some (.ins C dx fs)):e_q H' P pos q:=by
 have no:∀ {a:Addr} {o:HO},H a=some o->(∀ zs,o≠.lst zs)->(∀ C dx fs,o≠.ins C dx fs)->a ∉ S:=λ {a o} e n1 n2 z=>by
  rcases hS a z with w | ⟨zs,w⟩ | ⟨C,dx,fs,w⟩ <;> (rw [e] at w; cases w)
  ·exact n1 _ rfl
  ·exact n2 _ _ _ rfl
 rcases h with h | ⟨c,h1,h2⟩
 ·exact .inl (b _ _ (no h (λ _ z=>by cases z) λ _ _ _ z=>by cases z) h)
 ·refine .inr ⟨c,b _ _ (no h1 (λ _ z=>by cases z) λ _ _ _ z=>by cases z) h1,b _ _ (no h2 (λ _ z=>?_) λ _ _ _ z=>?_) h2⟩ <;> (unfold d_K at z; cases z)
theorem Bt.ev {K:Frag} {t:Adr} {S:List Addr} {H H':Hp} (b:Bt S H H') (hS:∀ a∈S,H a=none\/(∃ zs,H a=some (.lst zs))\/∃ C dx fs,H a=some (.ins C dx fs)):Ev K t S H H' :=
 ⟨λ a o h1 _ e=>b a o h1 e,λ T=>⟨j_w T.r b hS,j_w T.m b hS,T.ne⟩⟩
theorem q_V {S:List Addr} {H H':Hp} (s:Same H H'):Bt S H H':=λ a o _ e=>s a o e
theorem c_n {K:Frag} {t:Adr} {S:List Addr} {H H':Hp} (s:Same H H'):Ev K t S H H' :=
 have b:Bt [] H H':=q_V s
 ⟨λ a o _ _ e=>s a o e,λ T=>⟨j_w T.r b (λ a z=>nomatch z),j_w T.m b (λ a z=>nomatch z),T.ne⟩⟩
theorem Ev.trans {K:Frag} {t:Adr} {S:List Addr} {H H1 H2:Hp} (a:Ev K t S H H1) (b:Ev K t S H1 H2):Ev K t S H H2:=⟨λ c o h1 h2 e=>b.1 c o h1 h2 (a.1 c o h1 h2 e),λ T=>b.2 (a.2 T)⟩
theorem Ev.sub {K:Frag} {t:Adr} {S S':List Addr} {H H1:Hp} (a:Ev K t S H H1) (h:∀ x∈S,x∈S'):Ev K t S' H H1:=⟨λ c o h1 h2 e=>a.1 c o (λ z=>h1 (h c z)) h2 e,a.2⟩
theorem Ev.new {K:Frag} {t:Adr} {S:List Addr} {H H1 H2:Hp} (a:Ev K t [] H H1) (b:Ev K t S H1 H2) (h:∀ x∈S,H x=none):Ev K t [] H H2 :=
 ⟨λ c o _ h2 e=>b.1 c o (λ z=>by rw [h c z] at e; cases e) h2 (a.1 c o (λ z=>nomatch z) h2 e),λ T=>b.2 (a.2 T)⟩
theorem e_W {H:Hp} {l p:Addr} {qs:List Addr} {ns:List Int} (h:H l=some (.lst (qs.map V.ref))) (h1:qs≠[]) (h2:H p=some (.lst (ns.map V.int))):p≠l:=λ z=>by
 rw [z,h] at h2;cases qs with
 | nil=>exact h1 rfl
 | cons a r =>
  cases ns with
  | nil=>cases h2
  | cons n m=>cases h2
theorem g_Y {K:Frag} {t:Adr} {S:List Addr} {H H':Hp} {a:Addr} {A:LM} (h:MatL H a A) (e:Ev K t S H H') (ha:a ∉ S) (hr:∀ p∈S,∀ ns:List Int,H p≠some (.lst (ns.map V.int))):MatL H' a A:=by
 obtain ⟨ps,h1,h2,h3⟩:=h;refine ⟨ps,e.1 _ _ ha (λ _ z=>by cases z) h1,h2,λ i p r e1 e2=>?_⟩;obtain ⟨n1,n2⟩:=h3 i p r e1 e2;exact ⟨n1,e.1 _ _ (λ z=>hr p z r n2) (λ _ z=>by cases z) n2⟩
theorem p_u {b:Bool} {K:Frag} {t:Adr} {H H':Hp} {a:Addr} {xs:List V} (h:SqB b K H a xs) (e:Ev K t [] H H'):SqB b K H' a xs:=by
 cases b
 ·rcases h with (h | ⟨o,h⟩) | h
  ·exact .inl (.inl (e.1 _ _ (λ z=>nomatch z) (λ _ z=>by cases z) h))
  ·exact .inl (.inr ⟨o,e.1 _ _ (λ z=>nomatch z) (λ _ z=>by cases z) h⟩)
  ·exact .inr h
 ·rcases h with (h | ⟨o,h⟩) | h
  ·exact .inl (.inl (e.1 _ _ (λ z=>nomatch z) (λ _ z=>by cases z) h))
  ·exact .inl (.inr ⟨o,e.1 _ _ (λ z=>nomatch z) (λ _ z=>by cases z) h⟩)
  ·exact .inr h
theorem l_T {b1 b2:Bool} {K:Frag} {t:Adr} {H H':Hp} {a:Addr} {A:LM} (h:MatB b1 b2 K H a A) (e:Ev K t [] H H'):MatB b1 b2 K H' a A:=let ⟨ps,h1,h2,h3⟩:=h; ⟨ps,p_u h1 e,h2,λ i p r e1 e2=>p_u (h3 i p r e1 e2) e⟩
theorem k_o {K:Frag} {t:Adr} {H H':Hp} {p:Addr} {ns:List Int} {u:Int} (h:b_P H p ns u) (e:Ev K t [] H H'):b_P H' p ns u:=let ⟨x,h1,h2⟩:=h; ⟨x,e.1 _ _ (λ z=>nomatch z) (λ _ z=>by cases z) h1,e.1 _ _ (λ z=>nomatch z) (λ _ z=>by cases z) h2⟩
noncomputable def stF (l c:Addr):List (Str × V):=putF "columns" (.ref c) (putF "lines" (.ref l) [])
theorem c_f (l c:Addr):(stF l c).lookup ("lines" : Str)=some (.ref l):=by unfold stF; rw [c_k,if_neg (by decide),c_k,if_pos rfl]
theorem c_Q (l c:Addr):(stF l c).lookup ("columns" : Str)=some (.ref c):=by unfold stF; rw [c_k,if_pos rfl]
theorem i_e (l c:Addr) {m:Str} (h1:¬ m = "columns") (h2:¬ m = "lines"):(stF l c).lookup m=none:=by unfold stF; rw [c_k,if_neg h1,c_k,if_neg h2]; rfl
structure c_d (t:Adr) (H:Hp) (x l c:Addr) (L C:LM):Prop where
 ob:∃ dx,H x=some (.ins t.a_z dx (stF l c))
 li:MatL H l L
 co:MatL H c C
 ne:l≠c
 l0:L≠[]
 c0:C≠[]
noncomputable def at2 (L:LM) (i:Int) (k:Nat):Int:=(L.getD i.toNat []).getD k 0
noncomputable def g_k (L:LM) (top k:Nat):List Int:=((List.range (L.length - top)).map λ i=>((top+i:Nat):Int)).filter λ i=>decide (at2 L i k≠0)
noncomputable def p_v (L:LM) (top k:Nat) (ns:List Int):Prop:=ns.Perm (g_k L top k)/\ns.Pairwise λ a b=>(at2 L a k).natAbs<=(at2 L b k).natAbs
noncomputable def sp_1p:Sp:=λ vs H Q _=>∃ a b:Int,vs=[.int a,.int b]/\b≠0/\b.natAbs < 2 ^ 8980/\Q (.int ((2*a+b).fdiv (2*b))) H
noncomputable def sp_23 (K:Frag):Sp:=λ vs H Q _=>∃ (b1 b2:Bool) (a b:Addr) (xs ys:List Int) (q:Int),vs=[.ref a,.ref b,.int q]/\SqB b1 K H a (xs.map V.int)/\SqB b2 K H b (ys.map V.int)/\xs.length=ys.length/\xs.length<=1000/\(∀ y∈ys,IntMulOk q y) /\
 ∀ p H',Same H H'->H p=none->H' p=some (.lst ((b_O xs ys q).map V.int))->Q (.ref p) H'
noncomputable def sp_16:Sp:=λ vs H Q _=>∃ (l:Addr) (zs:List V) (i j:Nat) (x y:V),vs=[.ref l,.int i,.int j]/\H l=some (.lst zs)/\zs[i]?=some x/\zs[j]?=some y/\Q .non (upd H l (.lst ((zs.set i y).set j x)))
noncomputable def sp_i:Sp:=λ vs H Q _=>∃ (l:Addr) (L:LM) (i:Nat) (r:List Int),vs=[.ref l,.int i]/\MatL H l L/\L[i]?=some r/\r.length<=1000/\∀ H',Bt [l] H H'->MatL H' l (L.set i (r.map λ z=>-z))->Q .non H'
noncomputable def i_l (K:Frag) (t:Adr):Sp:=λ vs H Q _=>∃ (x dx a:Addr) (b1 b2:Bool) (A:LM) (d:Nat),vs=[.ref x,.ref a]/\H x=some (.ins t.a_z dx [])/\MatB b1 b2 K H a A/\1<=A.length/\A.length<=4/\(∀ r∈A,r.length=d)/\d<=4 /\
 ∀ l c H',Bt [x] H H'->c_d t H' x l c (List.zipWith (·++·) A (idM A.length)) (idM A.length)->H l=none->H c=none->Q .non H'
noncomputable def sp_m (t:Adr):Sp:=λ vs H Q _=>∃ (x l c:Addr) (L C:LM) (i j:Nat) (q:Int) (xi xj ci cj:List Int),vs=[.ref x,.int i,.int j,.int q]/\c_d t H x l c L C/\L[i]?=some xi/\L[j]?=some xj/\C[i]?=some ci/\C[j]?=some cj /\
 xi.length=xj.length/\xi.length<=1000/\ci.length=cj.length/\ci.length<=1000/\(∀ z∈xj,IntMulOk q z)/\(∀ z∈ci,IntMulOk (-q) z) /\
 ∀ H',Bt [l,c] H H'->c_d t H' x l c (L.set i (b_O xi xj q)) (C.set j (b_O cj ci (-q)))->Q .non H'
noncomputable def sp_2 (K:Frag) (t:Adr):Sp:=λ vs H Q _=>∃ (x l c:Addr) (L C:LM) (top k:Nat),vs=[.ref x,.int top,.int k]/\c_d t H x l c L C/\TT K t H/\top<=L.length/\L.length<=4/\(∀ r∈L,k < r.length) /\
 ∀ q (ns:List Int) H',Ev K t [] H H'->TT K t H'->H q=none->H' q=some (.lst (ns.map V.int))->p_v L top k ns->Q (.ref q) H'
noncomputable def Inj (d n:Nat) (L:LM):Prop:=∀ v:List Int,v.length=n->(∀ r∈L,dotI (r.drop d) v=0)->∀ x∈v,x=0
structure Mid (d n k top:Nat) (cs:LM) (B0 B1:Nat) (L0 L C:LM) (F:Nat):Prop where
 len:L.length=n
 wid:∀ r∈L,r.length=d+n
 lin:∀ r∈L,r.take d=rowT cs (r.drop d)
 inj:Inj d n L
 keep:∀ i,i < top->L[i]?=L0[i]?
 zero:∀ (i:Nat) r,top<=i->L[i]?=some r->∀ m,m < k->r.getD m 0=0
 clen:C.length=n
 cwid:∀ r∈C,r.length=n
 bs:∀ (i:Nat) r,top<=i->L[i]?=some r->∀ z∈r,z.natAbs<=F*2 ^ B0
 bl:BdM (F*2 ^ B1) L
 bc:BdM (F*2 ^ B1) C
 bk:∀ (i:Nat) r,top<=i->L[i]?=some r->(r.getD k 0).natAbs<=2 ^ B0
noncomputable def Pot (k top B0:Nat) (L:LM) (F:Nat):Prop:=F ^ 3*c_G (colW k top L)<=(2 ^ (4*B0+3)) ^ 3
theorem n_A {x y:List Int} {q:Int} {d:Nat}:(b_O x y q).take d=b_O (x.take d) (y.take d) q:=by unfold b_O; rw [List.take_zipWith]
theorem i_X {x y:List Int} {q:Int} {d:Nat}:(b_O x y q).drop d=b_O (x.drop d) (y.drop d) q:=by unfold b_O; rw [List.drop_zipWith]
theorem c_i {α:Type} {L:List α} {i:Nat} {r x:α} (h:x∈L.set i r):x=r\/x∈L:=by
 rcases List.mem_or_eq_of_mem_set h with h | h
 ·exact .inr h
 ·exact .inl h
theorem k_p {cs:LM} {d:Nat} {x y:List Int} {q:Int} (hl:x.length=y.length) (hx:x.take d=rowT cs (x.drop d)) (hy:y.take d=rowT cs (y.drop d)):(b_O x y q).take d=rowT cs ((b_O x y q).drop d):=by
 rw [n_A,i_X,hx,hy,m_Y (by rw [List.length_drop,List.length_drop,hl])]
theorem l_U {d n i j:Nat} {L:LM} {x y:List Int} {q:Int} (h:Inj d n L) (hi:L[i]?=some x) (hj:L[j]?=some y) (ne:i≠j) (hl:x.length=y.length):Inj d n (L.set i (b_O x y q)):=λ v hv hz=>by
 have ey:dotI (y.drop d) v=0:=hz y (by
  have:(L.set i (b_O x y q))[j]?=some y:=by rw [zQ ne]; exact hj
  exact zqb this)
 have e1:=hz (b_O x y q) (by
  have hlt:=(zqa hi).1;exact zqb (show (L.set i (b_O x y q))[i]?=some _ by rw [zP hlt]))
 rw [i_X,i_c q _ _ _ (by rw [List.length_drop,List.length_drop,hl]),ey,Int.mul_zero,Int.sub_zero] at e1;refine h v hv λ r hr=>?_;obtain ⟨m,hm,rfl⟩:=yF hr
 by_cases e:m=i
 ·subst e;have:L[m]=x:=by have:=zqd hm; rw [hi] at this; exact (zT this).symm
  rw [this]; exact e1
 ·refine hz _ (zqb (i:=m) ?_);rw [zQ (λ z=>e z.symm)];exact zqd hm
theorem Mid.step {d n k top:Nat} {cs:LM} {B0 B1:Nat} {L0 L C:LM} {F i j:Nat} {x y ci cj:List Int} {q:Int} (h:Mid d n k top cs B0 B1 L0 L C F) (hk:k < d)
  (hi:top<=i) (hj:top<=j) (ne:i≠j) (ex:L[i]?=some x) (ey:L[j]?=some y) (ei:C[i]?=some ci) (ej:C[j]?=some cj)
  (hb:y.getD k 0≠0) (hab:(y.getD k 0).natAbs<=(x.getD k 0).natAbs) (hr:2*(x.getD k 0 - q*y.getD k 0).natAbs<=(y.getD k 0).natAbs) :
  Mid d n k top cs B0 B1 L0 (L.set i (b_O x y q)) (C.set j (b_O cj ci (-q))) ((1+q.natAbs)*F):=by
 have mx:x∈L:=zqb ex;have my:y∈L:=zqb ey;have mi:ci∈C:=zqb ei;have mj:cj∈C:=zqb ej;have hl:x.length=y.length:=by rw [h.wid x mx,h.wid y my]
 have il:i < L.length:=(zqa ex).1;have one:1*F<=(1+q.natAbs)*F:=zK _ (by omega);rw [Nat.one_mul] at one;have kx:k < x.length:=by rw [h.wid x mx]; omega
 have ky:k < y.length:=by rw [h.wid y my]; omega
 refine ⟨by rw [yB]; exact h.len,λ r hr'=>?_,λ r hr'=>?_,l_U h.inj ex ey ne hl,λ m hm=>?_,λ m r hm er z hz=>?_,by rw [yB]; exact h.clen,λ r hr'=>?_,λ m r hm er z hz=>?_,?_,?_,λ m r hm er=>?_⟩
 ·rcases c_i hr' with e | e
  ·rw [e,f_J hl]; exact h.wid x mx
  ·exact h.wid r e
 ·rcases c_i hr' with e | e
  ·rw [e]; exact k_p hl (h.lin x mx) (h.lin y my)
  ·exact h.lin r e
 ·rw [zQ (by omega)]; exact h.keep m hm
 ·by_cases e:m=i
  ·subst e;rw [zP il] at er;cases er;rw [g_j (by omega) (by omega),h.zero m x hm ex z hz,h.zero j y hj ey z hz];simp
  ·rw [zQ (λ w=>e w.symm)] at er;exact h.zero m r hm er z hz
 ·rcases c_i hr' with e | e
  ·rw [e,f_J (by rw [h.cwid cj mj,h.cwid ci mi])]; exact h.cwid cj mj
  ·exact h.cwid r e
 ·by_cases e:m=i
  ·subst e;rw [zP il] at er;cases er;have:=l_S (q:=q) (h.bs m x hm ex) (h.bs j y hj ey) z hz;rw [Nat.mul_assoc];exact this
  ·rw [zQ (λ w=>e w.symm)] at er;exact zS (h.bs m r hm er z hz) (zK _ one)
 ·rw [Nat.mul_assoc]; exact g_X h.bl mx my
 ·have:=g_X (i:=j) (q:=-q) h.bc mj mi;rw [Int.natAbs_neg] at this;rw [Nat.mul_assoc]; exact this
 ·by_cases e:m=i
  ·subst e;rw [zP il] at er;cases er;rw [g_j kx ky];have:=h.bk j y hj ey;omega
  ·rw [zQ (λ w=>e w.symm)] at er;exact h.bk m r hm er
theorem Pot.step {k top B0:Nat} {L:LM} {F i:Nat} {x y:List Int} {q:Int} (h:Pot k top B0 L F) (hi:top<=i) (ex:L[i]?=some x) (kx:k < x.length) (ky:k < y.length)
  (hb:y.getD k 0≠0) (hab:(y.getD k 0).natAbs<=(x.getD k 0).natAbs) (hr:2*(x.getD k 0 - q*y.getD k 0).natAbs<=(y.getD k 0).natAbs) :
  Pot k top B0 (L.set i (b_O x y q)) ((1+q.natAbs)*F)/\c_G (colW k top (L.set i (b_O x y q))) < c_G (colW k top L):=by
 have e:(colW k top L)[i - top]?=some (wt (x.getD k 0)):=by
  unfold colW;rw [zH,List.getElem?_drop,show top+(i - top)=i by omega,ex];rfl
 have p:=l_R hb hab hr;have w:=q_T hb hab hr;rw [k_l hi,g_j kx ky];refine ⟨?_,g_i _ _ _ _ (λ z hz=>?_) e w⟩
 ·unfold Pot at h ⊢;rw [k_l hi,g_j kx ky];have a:=i_W (colW k top L) (i - top) _ _ _ e p
  calc ((1+q.natAbs)*F) ^ 3*c_G ((colW k top L).set (i - top) (wt (x.getD k 0 - q*y.getD k 0)))
    = F ^ 3*((1+q.natAbs) ^ 3*c_G ((colW k top L).set (i - top) (wt (x.getD k 0 - q*y.getD k 0)))):=by rw [Nat.mul_pow,Nat.mul_comm ((1+q.natAbs) ^ 3),Nat.mul_assoc]
   _<=F ^ 3*c_G (colW k top L):=Nat.mul_le_mul_left _ a
   _<=_:=h
 ·unfold colW at hz;obtain ⟨r,_,rfl⟩:=List.mem_map.mp hz;exact l_f _
theorem Pot.start {k top B0:Nat} {L:LM} (hL:L.length<=3) (hb:∀ (i:Nat) r,top<=i->L[i]?=some r->(r.getD k 0).natAbs<=2 ^ B0):Pot k top B0 L 1:=by
 unfold Pot;rw [Nat.one_pow,Nat.one_mul];have c1:1<=2 ^ (4*B0+3):=Nat.pow_pos (by decide);refine zS (k_m (c:=2 ^ (4*B0+3)) _ λ z hz=>?_) (zM c1 ?_)
 ·unfold colW at hz;obtain ⟨r,hr,rfl⟩:=List.mem_map.mp hz;obtain ⟨m,hm,rfl⟩:=yF hr;rw [List.length_drop] at hm;have:=hb (top+m) ((List.drop top L)[m]'(by rw [List.length_drop]; exact hm)) (by omega) (by rw [List.getElem_drop]; exact zqd (by omega));refine zS (s_Y (Nat.pow_pos (by decide)) this) (Nat.le_of_eq ?_);rw [← Nat.pow_mul,Nat.pow_add,Nat.mul_comm B0 4,Nat.mul_comm]
 ·unfold colW;rw [zqe,List.length_drop]; omega
theorem Pot.end {k top B0:Nat} {L:LM} {F:Nat} (h:Pot k top B0 L F):F<=2 ^ (4*B0+3):=by
 unfold Pot at h;have p:1<=c_G (colW k top L):=g_E _ λ z hz=>by
  unfold colW at hz;obtain ⟨r,_,rfl⟩:=List.mem_map.mp hz;exact l_f _
 have:F ^ 3<=(2 ^ (4*B0+3)) ^ 3:=zS (by have:=Nat.mul_le_mul_left (F ^ 3) p; omega) h;rcases Nat.lt_or_ge (2 ^ (4*B0+3)) F with q | q
 ·have:=Nat.pow_lt_pow_left q (show 3≠0 by decide);omega
 ·exact q
noncomputable def Gat (b:Bool) (k top:Nat) (L:LM):Prop :=
 (b=true/\(∃ r,L[top]?=some r/\r.getD k 0≠0)/\∀ (i:Nat) r,top < i->L[i]?=some r->r.getD k 0=0)\/(b=false/\∀ (i:Nat) r,top<=i->L[i]?=some r->r.getD k 0=0)
noncomputable def bF (B:Nat):Nat->Nat
 | 0=>B
 | k+1=>5*bF B k+3
noncomputable def cF (B:Nat):Nat->Nat
 | 0=>B
 | k+1=>4*(cF B k+4*bF B k+3)+3
structure Ech (d n k:Nat) (cs:LM) (ks:List Nat) (B B0 B1:Nat) (L C:LM):Prop where
 len:L.length=n
 wid:∀ r∈L,r.length=d+n
 lin:∀ r∈L,r.take d=rowT cs (r.drop d)
 inj:Inj d n L
 clen:C.length=n
 cwid:∀ r∈C,r.length=n
 kn:ks.length<=n
 ksS:ks.Pairwise (· < ·)
 ksK:∀ j∈ks,j < k
 lead:∀ (i:Nat) r j,L[i]?=some r->ks[i]?=some j->0 < r.getD j 0/\(r.getD j 0).natAbs<=2 ^ bF B j/\∀ m,m < j->r.getD m 0=0
 zero:∀ (i:Nat) r,ks.length<=i->L[i]?=some r->∀ m,m < k->r.getD m 0=0
 bs:∀ (i:Nat) r,ks.length<=i->L[i]?=some r->∀ z∈r,z.natAbs<=2 ^ B0
 bl:BdM (2 ^ B1) L
 bc:BdM (2 ^ B1) C
noncomputable def sgn (k i:Nat) (L X:LM):LM:=if (L.getD i []).getD k 0 < 0 then X.set i ((X.getD i []).map λ z=>-z) else X
noncomputable def sp_f (K:Frag) (t:Adr):Sp:=λ vs H Q _=>∃ (x l c:Addr) (L C:LM) (top k d n:Nat) (cs:LM) (B0 B1:Nat),vs=[.ref x,.int top,.int k]/\c_d t H x l c L C/\TT K t H/\Mid d n k top cs B0 B1 L L C 1 /\
 n<=3/\k < d/\d<=3/\top<=n/\B0<=8900/\B1<=1000000 /\
 ∀ b F L' C' H',Ev K t [l,c] H H'->TT K t H'->c_d t H' x l c L' C'->Mid d n k top cs B0 B1 L L' C' F->F<=2 ^ (4*B0+3)->Gat b k top L'->Q (.bl b) H'
noncomputable def sp_9 (t:Adr):Sp:=λ vs H Q _=>∃ (x l c:Addr) (L C:LM) (ks:List Nat) (k d n:Nat) (cs:LM) (B B0 B1:Nat),vs=[.ref x,.int ks.length,.int k]/\c_d t H x l c L C/\ks.length < L.length/\ks.length < C.length /\
 Ech d n (k+1) cs (ks++[k]) B B0 B1 (sgn k ks.length L L) (sgn k ks.length L C)/\n<=3/\k < d/\d<=3/\B1<=1000000/\bF B k<=8900 /\
 ∀ L' C' H',Bt [l,c] H H'->c_d t H' x l c L' C'->Ech d n (k+1) cs (ks++[k]) B B0 (4*B1+3) L' C'->Q .non H'
noncomputable def e_H (d:Nat) (A:LM):LM:=(List.range d).map λ k=>colI k A
structure l_g (d:Nat) (A:LM) (B:Nat) (ks:List Nat) (F R:LM):Prop where
 fl:F.length=d
 fw:∀ r∈F,r.length=d
 rl:R.length=d
 rw:∀ r∈R,r.length=d
 lin:∀ (i:Nat) r s,F[i]?=some r->R[i]?=some s->r=rowT (e_H d A) s
 inj:∀ v:List Int,v.length=d->(∀ r∈R,dotI r v=0)->∀ x∈v,x=0
 kn:ks.length<=d
 ksS:ks.Pairwise (· < ·)
 ksK:∀ j∈ks,j < d
 lead:∀ (i:Nat) r j,F[i]?=some r->ks[i]?=some j->0 < r.getD j 0/\(r.getD j 0).natAbs<=2 ^ bF B j/\∀ m,m < j->r.getD m 0=0
 zero:∀ (i:Nat) r,ks.length<=i->F[i]?=some r->∀ m,r.getD m 0=0
 bf:BdM (2 ^ cF B d) F
 br:BdM (2 ^ cF B d) R
noncomputable def sp_1k (K:Frag) (t:Adr):Sp:=λ vs H Q _=>∃ (b1 b2:Bool) (a:Addr) (A:LM) (d B:Nat),vs=[.ref a]/\MatB b1 b2 K H a A/\Sq d A/\(d=2\/d=3)/\BdM (2 ^ B) A/\B<=243/\TT K t H /\
 ∀ r f g h F R ks H',Ev K t [] H H'->TT K t H'->H' r=some (.tup [.ref f,.ref g,h])->MatL H' f F->MatL H' g R->l_g d A B ks F R->Q (.ref r) H'
noncomputable def l_V (H:Hp) (q:Addr) (ks:List Nat):Prop:=∃ ps:List Addr,H q=some (.lst (ps.map V.ref))/\ps.length=ks.length/\∀ (i:Nat) p j,ps[i]?=some p->ks[i]?=some j->H p=some (.tup [.int i,.int j])
noncomputable def p_w (d:Nat) (F:LM) (ks:List Nat):Prop:=ks.length<=F.length/\∀ (i:Nat) r,F[i]?=some r->(∀ j,ks[i]?=some j->j < d/\r.getD j 0≠0/\∀ m,m < j->r.getD m 0=0)/\(ks.length<=i->∀ m,r.getD m 0=0)
noncomputable def sp_10 (K:Frag):Sp:=λ vs H Q _=>∃ (b1 b2:Bool) (f:Addr) (F:LM) (d:Nat) (ks:List Nat),vs=[.ref f]/\MatB b1 b2 K H f F/\F.length<=4/\(∀ r∈F,r.length=d)/\d<=4/\p_w d F ks /\
 ∀ q H',Same H H'->H q=none->l_V H' q ks->Q (.ref q) H'
noncomputable def c_H (F:LM) (ks:List Nat) (i:Nat):Int:=(F.getD i []).getD (ks.getD i 0) 0
noncomputable def scl (F:LM) (ks:List Nat):Nat->Int
 | 0=>1
 | m+1=>scl F ks m*c_H F ks m
noncomputable def sp_1c (K:Frag):Sp:=λ vs H Q _=>∃ (b1 b2 b3:Bool) (f q tp:Addr) (F:LM) (d:Nat) (ks:List Nat) (ts:List Int) (u:Int) (W:Nat),vs=[.ref f,.ref q,.ref tp,.int u]/\MatB b1 b2 K H f F/\l_V H q ks/\SqB b3 K H tp (ts.map V.int) /\
 F.length=d/\(∀ r∈F,r.length=d)/\ts.length=d/\1<=d/\d<=3/\ks.length<=d/\ks.Pairwise (· < ·)/\(∀ j∈ks,j < d) /\
 (∀ (i:Nat) r j,F[i]?=some r->ks[i]?=some j->0 < r.getD j 0/\(r.getD j 0).natAbs < 2 ^ 8980/\∀ m,m < j->r.getD m 0=0)/\c_V (u*scl F ks ks.length)/\u≠0/\BdM (2 ^ W) F/\BdM (2 ^ W) [ts]/\W<=400000 /\
 ∀ p H' ns,Same H H'->b_P H' p (redT (u*scl F ks ks.length) ns) (redU (u*scl F ks ks.length) ns)->ns.length=d->c_a 8000000 ns->(∀ (i:Nat) r x,i < ks.length->F[i]?=some r->ts[i]?=some x->dotI r ns=x*scl F ks ks.length)->Q (.ref p) H'
noncomputable def p_x (H:Hp) (v:V) (A:LM) (ts:List Int) (u:Int) (d:Nat):Prop:=∃ r,v=.ref r /\
  ((∃ p ns w,H r=some (.tup [.str "place",.ref p])/\b_P H p ns w/\0 < w/\c_V w/\gl w ns=1/\ns.length=d/\c_a 8000000 ns/\∀ (i:Nat) row x,A[i]?=some row->ts[i]?=some x->dotI row ns*u=x*w) \/
   (∃ p ns,H r=some (.tup [.str "row",.ref p])/\H p=some (.tup (ns.map V.int))/\ns.length=d/\c_a 8000000 ns/\(∀ k,k < d->dotI ns (colI k A)=0)/\dotI ns ts≠0))
noncomputable def sp_18 (K:Frag) (t:Adr):Sp:=λ vs H Q _=>∃ (b1 b2:Bool) (a sp f c:Addr) (pm ctv:Value) (A:LM) (ts:List Int) (u:Int) (d B:Nat),vs=[.ref a,.ref sp,.ref f]/\MatB b1 b2 K H a A/\Sq d A/\(d=2\/d=3)/\BdM (2 ^ B) A/\B<=243 /\
 b_P H sp ts u/\0 < u/\u < 2 ^ 71/\ts.length=d/\c_a 1700 ts/\TT K t H/\H f=some (lamO f c "met.<locals>.<lambda>" (lamP d_z) (lamB d_z) (lamS d_z) [] pm ctv)/\H c=some (d_K c "met.<locals>.<lambda>") /\
 ∀ v H',Ev K t [] H H'->TT K t H'->p_x H' v A ts u d->Q v H'
noncomputable def sp_24 (K:Frag) (t:Adr):Sp:=λ vs H Q _=>∃ (b1 b2 b3:Bool) (a tp:Addr) (A:LM) (ts:List Int) (u:Int) (d B:Nat),vs=[.ref a,.ref tp,.int u]/\MatB b1 b2 K H a A/\SqB b3 K H tp (ts.map V.int)/\Sq d A/\(d=2\/d=3)/\BdM (2 ^ B) A/\B<=243 /\
 0 < u/\u < 2 ^ 71/\gl u ts=1/\ts.length=d/\c_a 1700 ts/\TT K t H/\∀ v H',Ev K t [] H H'->TT K t H'->p_x H' v A ts u d->Q v H'
noncomputable def lsM (d:Nat) (A:LM):LM:=List.zipWith (λ r e=>List.zipWith (· - ·) r e) A (idM d)
noncomputable def sp_p (K:Frag):Sp:=λ vs H Q _=>∃ (b1 b2:Bool) (a:Addr) (A:LM) (d:Nat),vs=[.ref a]/\MatB b1 b2 K H a A/\Sq d A/\d<=4/\∀ r H',Same H H'->MatL H' r (lsM d A)->Q (.ref r) H'
noncomputable def p_y (H:Hp) (v:V) (M:LM) (ts:List Int) (u:Int) (d:Nat):Prop:=∃ r,v=.ref r /\
  ((∃ p ns w,H r=some (.tup [.str "place",.ref p])/\b_P H p ns w/\0 < w/\c_V w/\gl w ns=1/\ns.length=d/\c_a 8000000 ns/\∀ k,k < d->((mv M ns).getD k 0 - ns.getD k 0)*u+ts.getD k 0*w=0) \/
   (∃ p ns,H r=some (.tup [.str "row",.ref p])/\H p=some (.tup (ns.map V.int))/\ns.length=d/\c_a 8000000 ns/\(∀ k,k < d->dotI ns (colI k M)=ns.getD k 0)/\dotI ns ts≠0))
noncomputable def sp_5 (K:Frag) (t:Adr) (C:Addr):Sp:=λ vs H Q _=>∃ (a p:Addr) (M:LM) (ts:List Int) (u:Int) (d:Nat),vs=[.ref a]/\b_F t C/\d_F K H a C p M ts u d/\b_B 242 M/\TT K t H /\
 ∀ v H',Ev K t [] H H'->TT K t H'->p_y H' v M ts u d->Q v H'
theorem c_u {K:Frag} {σ:St} {H:Hp} {Q:VK} {i:Nat} {x C dx:Addr} {fs:List (Str × V)} {f:Str} {v:V} (hv:σ[i]?=some (some (.ref x))) (ob:H x=some (.ins C dx fs)) (cl:Cls K C) (no:e_w K C f) (l:fs.lookup f=some v) (q:Q v H):tFld K (tVar i) f σ H Q :=
 ⟨.ref x,hv,x,C,dx,fs,v,rfl,ob,cl,no,l,q⟩
theorem g_l {b:Bool} {K:Frag} {H:Hp} {Q:VK} {a:Addr} {xs:List V} {i:Nat} {v:V} (h:SqB b K H a xs) (e:xs[i]?=some v) (q:Q v H):rIxB K (.ref a) (.int i) H Q:=⟨b,a,_,_,_,rfl,rfl,h,b_Y e rfl,q⟩
theorem n_B {a:Addr} {H:Hp} {tt:St->Hp->(Option V->Hp->Prop)->Prop} {fr:List (Str × Nat)} {σ:St} {Q:VK} {lo:Int} {len:Nat} (P:Nat->List V->Hp->Prop) (ha:H a=none) (hz:len<=1000) (h0:P 0 [] (upd H a (.lst [])))
  (hl:∀ i zs H1,P i zs H1->zs.length<=i) (mono:∀ i zs H1 H2,P i zs H1->f_L a H1 H2->P i zs H2)
  (he:∀ (i:Nat) H1 zs,i < len->Same H H1->H1 a=some (.lst zs)->P i zs H1->∀ C:Option V->Hp->Prop,
   (∀ y H2,Same H1 H2->P (i+1) (zs++[y]) H2->C (some y) H2)->(∀ H2,Same H1 H2->P (i+1) zs H2->C none H2)->tt (some (.int (lo+i)) :: c_q fr σ) H1 C)
  (hd:∀ H1 ys,Same H H1->H1 a=some (.lst ys)->P len ys H1->Q (.ref a) H1):c_D (Itr lo len) (a_M 0) tt 1 fr σ a H Q:=by
 refine h_G len P ha hz h0 hl mono (λ i H1 hi s=>hi) (λ H1 s=>zL _) ?_ hd;intro i H1 zs hi s1 ez p ys x H3 hys hy C hC1 hC2;obtain ⟨e1,e2⟩:=hy;subst e1 e2
 match ys,hys with
 | [o],_=>exact ⟨⟨[_],rfl,rfl⟩,he i H3 zs hi s1 ez p C hC1 hC2⟩
theorem s_D {P a:Addr} {H H':Hp} {A:LM} {ps:Array Value} (h:MatL H a A) (e:H P=some (.tbl ps)) (s:f_N P H H'):MatL H' a A:=by
 obtain ⟨qs,h1,h2,h3⟩:=h;refine ⟨qs,s _ _ (λ z=>by rw [z,e] at h1; cases h1) h1,h2,λ i p r e1 e2=>?_⟩;obtain ⟨n1,n2⟩:=h3 i p r e1 e2;exact ⟨n1,s _ _ (λ z=>by rw [z,e] at n2; cases n2) n2⟩
theorem TT.rise {K:Frag} {t:Adr} {H H':Hp} (T:TT K t H) (s:f_N (tabP K t.a_2) H H') (h:e_q H' (tabP K t.a_2) (j_v i_d) "Steps.rising.<locals>.<lambda>"):Ev K t [] H H'/\TT K t H':=by
 have T':TT K t H':=by
  refine ⟨h,?_,T.ne⟩;obtain ⟨ps,et⟩:=T.r.tbl;rcases T.m with q | ⟨c,q1,q2⟩
  ·exact .inl (s _ _ (Ne.symm T.ne) q)
  ·exact .inr ⟨c,s _ _ (Ne.symm T.ne) q1,s _ _ (λ z=>by rw [z,et] at q2; unfold d_K at q2; cases q2) q2⟩
 refine ⟨⟨λ b o _ ho e=>s b o (λ z=>?_) e,λ _=>T'⟩,T'⟩;obtain ⟨ps,et⟩:=T.r.tbl;rw [z,et] at e;cases e;exact ho _ rfl
theorem TT.meet {K:Frag} {t:Adr} {H H':Hp} (T:TT K t H) (s:f_N (tabP K t.a_24) H H') (h:e_q H' (tabP K t.a_24) (j_v d_z) "met.<locals>.<lambda>"):Ev K t [] H H'/\TT K t H':=by
 obtain ⟨ps,et⟩:=T.m.tbl;have T':TT K t H':=by
  refine ⟨?_,h,T.ne⟩;rcases T.r with q | ⟨c,q1,q2⟩
  ·exact .inl (s _ _ T.ne q)
  ·exact .inr ⟨c,s _ _ T.ne q1,s _ _ (λ z=>by rw [z,et] at q2; unfold d_K at q2; cases q2) q2⟩
 refine ⟨⟨λ b o _ ho e=>s b o (λ z=>?_) e,λ _=>T'⟩,T'⟩;rw [z,et] at e;cases e;exact ho _ rfl
theorem g_m {σ:St} {H:Hp} {Q:VK} {E:XK} {i:Nat} {x C dx:Addr} {fs:List (Str × V)} {m:Str} {sp:Sp} {tg:TA} (hv:σ[i]?=some (some (.ref x))) (ob:H x=some (.ins C dx fs)) (l:fs.lookup m=none)
  (h:tg σ H λ vs H2=>sp (.ref x :: (vs++[])) H2 Q E):l_m C m sp [] E (tVar i) tg σ H Q:=⟨.ref x,hv,x,dx,fs,rfl,ob,l,h⟩
theorem k_q {α:Type} {xs:List α} {m:Nat} {v:α} {I:Int} (h:xs[m]?=some v) (hI:I=(m:Int) - xs.length):atI xs I=some v:=by
 have hm:=(zqa h).1;unfold atI ixN;rw [if_neg (by omega),if_pos (by omega),show (I+(xs.length:Int)).toNat=m by omega];exact h
theorem j_x {L:LM} {k m:Nat} {r:List Int} (e:L[m]?=some r):at2 L (m:Int) k=r.getD k 0:=by
 unfold at2;have e0:L.getD m []=r:=by rw [zqc,e]; rfl
 rw [zR,e0]
theorem g_F {L:LM} {top k:Nat} {n:Int} (h:n∈g_k L top k):∃ (m:Nat) (r:List Int),n=(m:Int)/\top<=m/\L[m]?=some r/\r.getD k 0≠0:=by
 obtain ⟨h1,h2⟩:=List.mem_filter.mp h;obtain ⟨m,hm,rfl⟩:=List.mem_map.mp h1;have:=List.mem_range.mp hm;have e:L[top+m]?=some L[top+m]:=zqd (by omega);refine ⟨top+m,_,rfl,by omega,e,?_⟩;have h3:at2 L ((top+m:Nat):Int) k≠0:=zY h2;rw [j_x e] at h3;exact h3
theorem i_Y {L:LM} {top k m:Nat} {r:List Int} (hm:top<=m) (e:L[m]?=some r) (h:r.getD k 0≠0):(m:Int)∈g_k L top k:=by
 have hl:=(zqa e).1;refine List.mem_filter.mpr ⟨List.mem_map.mpr ⟨m - top,List.mem_range.mpr (by omega),by omega⟩,zW ?_⟩;rw [j_x e];exact h
theorem p_z {L:LM} {top k:Nat}:(g_k L top k).Nodup:=by
 unfold g_k;refine List.Nodup.sublist List.filter_sublist ?_;unfold List.Nodup;rw [List.pairwise_map];exact (List.nodup_range (n:=L.length - top)).imp λ {a b} h z=>h (by omega)
theorem e_b {L:LM} {a b:Nat} {x y:List Int} (ha:L[a]?=some x) (hb:L[b]?=some y) (m:Nat):((L.set a y).set b x)[m]?=if m=b then some x else if m=a then some y else L[m]?:=by
 have al:=(zqa ha).1;have bl:=(zqa hb).1
 by_cases h1:m=b
 ·subst h1;rw [if_pos rfl,zP (by rw [yB]; exact bl)]
 ·rw [if_neg h1,zQ (λ z=>h1 z.symm)]
  by_cases h2:m=a
  ·subst h2;rw [if_pos rfl,zP al]
  ·rw [if_neg h2,zQ (λ z=>h2 z.symm)]
theorem e_u {L:LM} {a b:Nat} {x y:List Int} (ha:L[a]?=some x) (hb:L[b]?=some y) (r:List Int):r∈(L.set a y).set b x ↔ r∈L:=by
 constructor
 ·intro h;rcases c_i h with e | e
  ·rw [e]; exact zqb ha
  ·rcases c_i e with e | e
   ·rw [e]; exact zqb hb
   ·exact e
 ·intro h;obtain ⟨m,hm,rfl⟩:=yF h;have e:=zqd hm
  by_cases h1:m=a
  ·refine zqb (i:=b) ?_;rw [e_b ha hb,if_pos rfl,← ha,← h1,e]
  ·by_cases h2:m=b
   ·refine zqb (i:=a) ?_;rw [e_b ha hb,if_neg (λ z=>h1 (h2.trans z.symm)),if_pos rfl,← hb,← h2,e]
   ·refine zqb (i:=m) ?_;rw [e_b ha hb,if_neg h2,if_neg h1,e]
theorem Mid.swap {d n k top:Nat} {cs:LM} {B0 B1:Nat} {L0 L C:LM} {F b:Nat} {x y u v:List Int} (h:Mid d n k top cs B0 B1 L0 L C F) (hb:top<=b) (ex:L[top]?=some x) (ey:L[b]?=some y) (eu:C[top]?=some u) (ev:C[b]?=some v) :
  Mid d n k top cs B0 B1 L0 ((L.set top y).set b x) ((C.set top v).set b u) F:=by
 have back:∀ (m:Nat) r,top<=m->((L.set top y).set b x)[m]?=some r->∃ m',top<=m'/\L[m']?=some r:=λ m r hm e=>by
  rw [e_b ex ey] at e
  by_cases h1:m=b
  ·rw [if_pos h1] at e; exact ⟨top,zL _,ex.trans e⟩
  ·rw [if_neg h1] at e
   by_cases h2:m=top
   ·rw [if_pos h2] at e; exact ⟨b,hb,ey.trans e⟩
   ·rw [if_neg h2] at e; exact ⟨m,hm,e⟩
 refine ⟨by rw [yB,yB]; exact h.len,λ r hr=>h.wid r ((e_u ex ey r).mp hr),λ r hr=>h.lin r ((e_u ex ey r).mp hr),λ z hz hv=>h.inj z hz λ r hr=>hv r ((e_u ex ey r).mpr hr),λ m hm=>?_,λ m r hm e=>?_,
  by rw [yB,yB]; exact h.clen,λ r hr=>h.cwid r ((e_u eu ev r).mp hr),λ m r hm e=>?_,λ r hr=>h.bl r ((e_u ex ey r).mp hr),λ r hr=>h.bc r ((e_u eu ev r).mp hr),λ m r hm e=>?_⟩
 ·rw [e_b ex ey,if_neg (by omega),if_neg (by omega)]; exact h.keep m hm
 ·obtain ⟨m',h1,h2⟩:=back m r hm e;exact h.zero m' r h1 h2
 ·obtain ⟨m',h1,h2⟩:=back m r hm e;exact h.bs m' r h1 h2
 ·obtain ⟨m',h1,h2⟩:=back m r hm e;exact h.bk m' r h1 h2
theorem j_y {zs:List Addr} {i j:Nat} {a b:Addr}:((zs.map V.ref).set i (.ref b)).set j (.ref a)=((zs.set i b).set j a).map V.ref:=by rw [List.map_set,List.map_set]
theorem i_Z {H:Hp} {l:Addr} {L:LM} {i j:Nat} {x y:List Int} (h:MatL H l L) (ei:L[i]?=some x) (ej:L[j]?=some y):∃ zs u v,H l=some (.lst zs)/\zs[i]?=some u/\zs[j]?=some v/\MatL (upd H l (.lst ((zs.set i v).set j u))) l ((L.set i y).set j x):=by
 obtain ⟨ps,h1,h2,h3⟩:=h;have il:=(zqa ei).1;have jl:=(zqa ej).1;obtain ⟨a,ha⟩:∃ p,ps[i]?=some p:=⟨_,zqd (by omega)⟩;obtain ⟨b,hb⟩:∃ p,ps[j]?=some p:=⟨_,zqd (by omega)⟩;refine ⟨_,.ref a,.ref b,h1,by rw [zH,ha]; rfl,by rw [zH,hb]; rfl,?_⟩;rw [j_y];refine ⟨(ps.set i b).set j a,a_G,by simp [h2],λ m p r e1 e2=>?_⟩;rw [e_b ei ej] at e2;have sw:((ps.set i b).set j a)[m]?=if m=j then some a else if m=i then some b else ps[m]?:=by
  by_cases h1:m=j
  ·subst h1;rw [if_pos rfl,zP (by rw [yB]; omega)]
  ·rw [if_neg h1,zQ (λ z=>h1 z.symm)]
   by_cases h2:m=i
   ·subst h2;rw [if_pos rfl,zP (by omega)]
   ·rw [if_neg h2,zQ (λ z=>h2 z.symm)]
 rw [sw] at e1;have go:p≠l/\H p=some (.lst (r.map V.int)):=by
  by_cases h1:m=j
  ·rw [if_pos h1] at e1 e2;exact h3 i p r (ha.trans e1) (ei.trans e2)
  ·rw [if_neg h1] at e1 e2
   by_cases h2:m=i
   ·rw [if_pos h2] at e1 e2;exact h3 j p r (hb.trans e1) (ej.trans e2)
   ·rw [if_neg h2] at e1 e2;exact h3 m p r e1 e2
 exact ⟨go.1,by rw [a_H go.1]; exact go.2⟩
theorem p_A {ns:List Int} (h:2<=ns.length):∃ (us:List Int) (b a:Int),ns=us++[b,a]:=by
 obtain ⟨us,a,rfl⟩:∃ us a,ns=us++[a]:=⟨ns.dropLast,ns.getLast (by intro z; rw [z] at h; simp at h),(List.dropLast_concat_getLast _).symm⟩;obtain ⟨us',b,rfl⟩:∃ us' b,us=us'++[b]:=⟨us.dropLast,us.getLast (by intro z; rw [z] at h; simp at h),(List.dropLast_concat_getLast _).symm⟩;exact ⟨us',b,a,by simp⟩
theorem g_N (u b:Int) (hb:0 < b):(u.fdiv b).natAbs<=u.natAbs:=by
 have e:b*u.fdiv b+u.fmod b=u:=Int.mul_fdiv_add_fmod u b;have h1:=Int.fmod_nonneg_of_pos u hb;have h2:=Int.fmod_lt_of_pos u hb;generalize u.fdiv b=q at *
 generalize u.fmod b=r at *;rcases Int.lt_or_le q 0 with hq | hq
 ·-- q<=-1
  have h3:b*q<=q:=by
   have:(b - 1)*q<=0:=Int.mul_nonpos_of_nonneg_of_nonpos (by omega) (by omega);rw [Int.sub_mul,Int.one_mul] at this;omega
  have h4:b*q<=b*(-1):=Int.mul_le_mul_of_nonneg_left (by omega) (by omega)
  by_cases h5:q=-1
  ·subst h5;omega
  ·have h6:b*(q+1)<=q+1:=by
    have:(b - 1)*(q+1)<=0:=Int.mul_nonpos_of_nonneg_of_nonpos (by omega) (by omega);rw [Int.sub_mul,Int.one_mul] at this;omega
   rw [Int.mul_add,Int.mul_one] at h6;omega
 ·have h3:q<=b*q:=by
   have:0<=(b - 1)*q:=Int.mul_nonneg (by omega) hq;rw [Int.sub_mul,Int.one_mul] at this;omega
  omega
theorem Ech.mono {d n k:Nat} {cs:LM} {ks:List Nat} {B B0 B1 B2:Nat} {L C:LM} (h:Ech d n k cs ks B B0 B1 L C) (hb:B1<=B2):Ech d n k cs ks B B0 B2 L C :=
 have p:2 ^ B1<=2 ^ B2:=zM (by decide) hb
 ⟨h.len,h.wid,h.lin,h.inj,h.clen,h.cwid,h.kn,h.ksS,h.ksK,h.lead,h.zero,h.bs,λ r hr z hz=>zS (h.bl r hr z hz) p,λ r hr z hz=>zS (h.bc r hr z hz) p⟩
theorem Ech.take {d n k i j kj:Nat} {cs:LM} {ks:List Nat} {B B0 B1:Nat} {L C:LM} {xi xj ci cj:List Int} {q:Int} (h:Ech d n k cs ks B B0 B1 L C) (hij:i < j) (hj:ks[j]?=some kj) (hkd:k<=d)
  (exi:L[i]?=some xi) (exj:L[j]?=some xj) (eci:C[i]?=some ci) (ecj:C[j]?=some cj) (hq:q.natAbs<=2 ^ B1):Ech d n k cs ks B B0 (2*B1+1) (L.set i (b_O xi xj q)) (C.set j (b_O cj ci (-q))):=by
 have mx:=zqb exi;have my:=zqb exj;have mi:=zqb eci;have mj:=zqb ecj;have hl:xi.length=xj.length:=by rw [h.wid xi mx,h.wid xj my]
 have il:=(zqa exi).1;have jk:=(zqa hj).1;have grow:∀ {M:LM},BdM ((1+q.natAbs)*2 ^ B1) M->BdM (2 ^ (2*B1+1)) M:=λ h r hr z hz=>by
  refine zS (h r hr z hz) ?_;have e:2 ^ (2*B1+1)=(2 ^ B1+2 ^ B1)*2 ^ B1:=by rw [show 2*B1+1=B1+B1+1 by omega,Nat.pow_succ,Nat.pow_add,Nat.add_mul]; omega
  rw [e];refine zK _ ?_;have:1<=2 ^ B1:=Nat.pow_pos (by decide);omega
 refine ⟨by rw [yB]; exact h.len,λ r hr'=>?_,λ r hr'=>?_,l_U h.inj exi exj (by omega) hl,by rw [yB]; exact h.clen,λ r hr'=>?_,h.kn,h.ksS,h.ksK,λ m r jj er ej=>?_,λ m r hm er=>?_,λ m r hm er=>?_,grow (g_X h.bl mx my),?_⟩
 ·rcases c_i hr' with e | e
  ·rw [e,f_J hl]; exact h.wid xi mx
  ·exact h.wid r e
 ·rcases c_i hr' with e | e
  ·rw [e]; exact k_p hl (h.lin xi mx) (h.lin xj my)
  ·exact h.lin r e
 ·rcases c_i hr' with e | e
  ·rw [e,f_J (by rw [h.cwid cj mj,h.cwid ci mi])]; exact h.cwid cj mj
  ·exact h.cwid r e
 ·by_cases e:m=i
  ·subst e;rw [zP il] at er;cases er;obtain ⟨l1,l2,l3⟩:=h.lead m xi jj exi ej;obtain ⟨_,_,z3⟩:=h.lead j xj kj exj hj;have lt:jj < kj:=by
    obtain ⟨a1,a2⟩:=zqa ej;obtain ⟨b1,b2⟩:=zqa hj;have:=List.pairwise_iff_getElem.mp h.ksS m j a1 b1 hij;rw [a2,b2] at this;exact this
   have jd:jj < d:=zI (h.ksK jj (zqb ej)) hkd;have wx:=h.wid xi mx;have wy:=h.wid xj my;have same:∀ mm,mm<=jj->(b_O xi xj q).getD mm 0=xi.getD mm 0:=λ mm hm=>by
    rw [g_j (by omega) (by omega),z3 mm (by omega)];simp
   rw [same jj (zL _)];exact ⟨l1,l2,λ mm hm=>by rw [same mm (by omega)]; exact l3 mm hm⟩
  ·rw [zQ (λ w=>e w.symm)] at er;exact h.lead m r jj er ej
 ·rw [zQ (by omega)] at er;exact h.zero m r hm er
 ·rw [zQ (by omega)] at er;exact h.bs m r hm er
 ·have:=g_X (i:=j) (q:=-q) h.bc mj mi;rw [Int.natAbs_neg] at this;exact grow this
noncomputable def eF (B1:Nat):Nat->Nat
 | 0=>B1
 | i+1=>2*eF B1 i+1
theorem r_q (B1:Nat):∀ {i:Nat},i<=2->eF B1 i<=4*B1+3
 | 0,_=>by show B1<=_; omega
 | 1,_=>by show 2*B1+1<=_; omega
 | 2,_=>by show 2*(2*B1+1)+1<=_; omega
 | n+3,h=>by omega
theorem c_d.ev {K:Frag} {t:Adr} {H H':Hp} {x l c:Addr} {L C:LM} (S:c_d t H x l c L C) (e:Ev K t [] H H'):c_d t H' x l c L C:=by
 obtain ⟨⟨dx,ob⟩,li,co,ne,l0,c0⟩:=S;exact ⟨⟨dx,e.1 _ _ (λ z=>nomatch z) (λ _ z=>by cases z) ob⟩,g_Y li e (λ z=>nomatch z) (λ _ z=>nomatch z),g_Y co e (λ z=>nomatch z) (λ _ z=>nomatch z),ne,l0,c0⟩
theorem c_d.bt {K:Frag} {t:Adr} {H H':Hp} {x l c:Addr} {L C:LM} (S:c_d t H x l c L C) (b:Bt [l,c] H H'):Ev K t [l,c] H H':=by
 refine b.ev λ a ha=>?_;obtain ⟨_,⟨ps,h1,_⟩,⟨qs,k1,_⟩,_⟩:=S;rcases List.mem_cons.mp ha with e | e
 ·rw [e]; exact .inr (.inl ⟨_,h1⟩)
 ·rw [List.mem_singleton.mp e]; exact .inr (.inl ⟨_,k1⟩)
theorem c_o {q:Int} {E:Nat} (h:q.natAbs<=2 ^ E):Builtin.Int.intBits q<=E+1:=b_G (Nat.lt_of_le_of_lt h (Nat.pow_lt_pow_right (by decide) (Nat.lt_succ_self E)))
theorem j_z:∀ (x c:List Int),dotI (x.map λ z=>-z) c=-dotI x c
 | [],c=>by simp [dotI]
 | a :: x,[]=>by simp [dotI]
 | a :: x,b :: c=>by
  have h:=j_z x c;simp only [dotI,List.map_cons,List.zipWith_cons_cons,List.sum_cons] at h ⊢;rw [h];grind
theorem q_W {cs:LM} {d:Nat} {x:List Int} (hx:x.take d=rowT cs (x.drop d)):(x.map λ z=>-z).take d=rowT cs ((x.map λ z=>-z).drop d):=by
 rw [← List.map_take,← List.map_drop,hx];unfold rowT;rw [List.map_map];refine List.map_congr_left λ c _=>?_;show -dotI (x.drop d) c=dotI ((x.drop d).map λ z=>-z) c;rw [j_z]
theorem p_B (x:List Int) (k:Nat):(x.map λ z=>-z).getD k 0=-(x.getD k 0):=by
 rw [zqc,zqc,zH];cases x[k]? with
 | none=>rfl
 | some z=>rfl
theorem q_X {d n i:Nat} {L:LM} {x:List Int} (h:Inj d n L) (hi:L[i]?=some x):Inj d n (L.set i (x.map λ z=>-z)):=λ v hv hz=>by
 have il:=(zqa hi).1;have e1:=hz (x.map λ z=>-z) (zqb (i:=i) (by rw [zP il]));rw [← List.map_drop,j_z] at e1;refine h v hv λ r hr=>?_;obtain ⟨m,hm,rfl⟩:=yF hr
 by_cases e:m=i
 ·subst e;have:L[m]=x:=by have:=zqd hm; rw [hi] at this; exact (zT this).symm
  rw [this]; omega
 ·refine hz _ (zqb (i:=m) ?_);rw [zQ (λ z=>e z.symm)];exact zqd hm
theorem l_W {r:List Int} {M k:Nat} (h:∀ z∈r,z.natAbs<=M):(r.getD k 0).natAbs<=M:=by
 by_cases hk:k < r.length
 ·exact h _ (L2.getD_mem hk)
 ·rw [zqc,List.getElem?_eq_none (by omega)];exact Nat.zero_le _
theorem Ech.mid {d n k:Nat} {cs:LM} {ks:List Nat} {B B0 B1:Nat} {L C:LM} (h:Ech d n k cs ks B B0 B1 L C):Mid d n k ks.length cs B0 B1 L L C 1 :=
 ⟨h.len,h.wid,h.lin,h.inj,λ _ _=>rfl,h.zero,h.clen,h.cwid,λ i r hi e=>by rw [Nat.one_mul]; exact h.bs i r hi e,by rw [Nat.one_mul]; exact h.bl,by rw [Nat.one_mul]; exact h.bc,λ i r hi e=>l_W (h.bs i r hi e)⟩
theorem e_c {F B0 B1:Nat} {M:LM} (h:BdM (F*2 ^ B1) M) (hF:F<=2 ^ (4*B0+3)):BdM (2 ^ (B1+4*B0+3)) M:=λ r hr z hz=>by
 refine zS (h r hr z hz) ?_;rw [show B1+4*B0+3=(4*B0+3)+B1 by omega,Nat.pow_add];exact zK _ hF
theorem s_E {d n k:Nat} {cs:LM} {ks:List Nat} {B:Nat} {L C L' C':LM} {F:Nat} (h:Ech d n k cs ks B (bF B k) (cF B k) L C) (m:Mid d n k ks.length cs (bF B k) (cF B k) L L' C' F) (hF:F<=2 ^ (4*bF B k+3))
  (g:∀ (i:Nat) r,ks.length<=i->L'[i]?=some r->r.getD k 0=0):Ech d n (k+1) cs ks B (bF B (k+1)) (cF B (k+1)) L' C':=by
 have up:∀ {M:LM},BdM (2 ^ (cF B k+4*bF B k+3)) M->BdM (2 ^ cF B (k+1)) M:=λ hM r hr z hz=>zS (hM r hr z hz) (zM (by decide) (by show _<=4*(cF B k+4*bF B k+3)+3; omega));refine ⟨m.len,m.wid,m.lin,m.inj,m.clen,m.cwid,h.kn,h.ksS,λ j hj=>Nat.lt_succ_of_lt (h.ksK j hj),λ i r j er ej=>?_,λ i r hi er mm hm=>?_,λ i r hi er z hz=>?_,up (e_c m.bl hF),up (e_c m.bc hF)⟩
 ·have hi:=(zqa ej).1;rw [m.keep i hi] at er;exact h.lead i r j er ej
 ·rcases Nat.lt_or_ge mm k with q | q
  ·exact m.zero i r hi er mm q
  ·rw [show mm=k by omega]; exact g i r hi er
 ·refine zS (m.bs i r hi er z hz) ?_;show F*2 ^ bF B k<=2 ^ (5*bF B k+3);rw [show 5*bF B k+3=(4*bF B k+3)+bF B k by omega,Nat.pow_add];exact zK _ hF
theorem q_Y {d n k:Nat} {cs:LM} {ks:List Nat} {B:Nat} {L C L' C':LM} {F:Nat} {x:List Int} (h:Ech d n k cs ks B (bF B k) (cF B k) L C) (m:Mid d n k ks.length cs (bF B k) (cF B k) L L' C' F) (hF:F<=2 ^ (4*bF B k+3))
  (ex:L'[ks.length]?=some x) (nz:x.getD k 0≠0) (g:∀ (i:Nat) r,ks.length < i->L'[i]?=some r->r.getD k 0=0) :
  Ech d n (k+1) cs (ks++[k]) B (bF B (k+1)) (cF B k+4*bF B k+3) (sgn k ks.length L' L') (sgn k ks.length L' C'):=by
 have tl:=(zqa ex).1;have ln:=m.len;have cn:=m.clen;obtain ⟨u,eu⟩:∃ u,C'[ks.length]?=some u:=⟨_,zqd (by omega)⟩;have gL:L'.getD ks.length []=x:=by rw [zqc,ex]; rfl
 have gC:C'.getD ks.length []=u:=by rw [zqc,eu]; rfl
 have kl:(ks++[k]).length=ks.length+1:=by simp
 have bsm:∀ (i:Nat) r,ks.length<=i->L'[i]?=some r->∀ z∈r,z.natAbs<=2 ^ bF B (k+1):=λ i r hi er z hz=>by
  refine zS (m.bs i r hi er z hz) ?_;show F*2 ^ bF B k<=2 ^ (5*bF B k+3);rw [show 5*bF B k+3=(4*bF B k+3)+bF B k by omega,Nat.pow_add];exact zK _ hF
 have ks1:(ks++[k]).Pairwise (· < ·):=List.pairwise_append.mpr ⟨h.ksS,List.pairwise_singleton _ _,λ a ha b hb=>by rw [List.mem_singleton.mp hb]; exact h.ksK a ha⟩;have ks2:∀ j∈ks++[k],j < k+1:=λ j hj=>by
  rcases List.mem_append.mp hj with e | e
  ·exact Nat.lt_succ_of_lt (h.ksK j e)
  ·rw [List.mem_singleton.mp e]; omega
 have bk:=m.bk ks.length x (zL _) ex;have zx:=m.zero ks.length x (zL _) ex;have leadB:∀ (i:Nat) r j,i≠ks.length->L'[i]?=some r->(ks++[k])[i]?=some j->0 < r.getD j 0/\(r.getD j 0).natAbs<=2 ^ bF B j/\∀ mm,mm < j->r.getD mm 0=0:=λ i r j hi er ej=>by
  have hi2:=(zqa ej).1;have hlt:i < ks.length:=by omega
  rw [yC hlt] at ej;rw [m.keep i hlt] at er;exact h.lead i r j er ej
 have kk:(ks++[k])[ks.length]?=some k:=by simp
 unfold sgn;rw [gL,gC]
 by_cases hs:x.getD k 0 < 0
 ·rw [if_pos hs,if_pos hs];refine ⟨by rw [yB]; exact m.len,λ r hr=>?_,λ r hr=>?_,q_X m.inj ex,by rw [yB]; exact m.clen,λ r hr=>?_,by omega,ks1,ks2,λ i r j er ej=>?_,λ i r hi er mm hm=>?_,λ i r hi er=>?_,λ r hr z hz=>?_,λ r hr z hz=>?_⟩
  ·rcases c_i hr with e | e
   ·rw [e,zqe]; exact m.wid x (zqb ex)
   ·exact m.wid r e
  ·rcases c_i hr with e | e
   ·rw [e]; exact q_W (m.lin x (zqb ex))
   ·exact m.lin r e
  ·rcases c_i hr with e | e
   ·rw [e,zqe]; exact m.cwid u (zqb eu)
   ·exact m.cwid r e
  ·by_cases e:i=ks.length
   ·subst e;rw [zP tl] at er;cases er;rw [kk] at ej;cases ej;rw [p_B];refine ⟨by omega,by rw [Int.natAbs_neg]; exact bk,λ mm hm=>?_⟩;rw [p_B,zx mm hm]; rfl
   ·rw [zQ (λ w=>e w.symm)] at er;exact leadB i r j e er ej
  ·rw [zQ (by omega)] at er;rcases Nat.lt_or_ge mm k with q | q
   ·exact m.zero i r (by omega) er mm q
   ·rw [show mm=k by omega]; exact g i r (by omega) er
  ·rw [zQ (by omega)] at er;exact bsm i r (by omega) er
  ·rcases c_i hr with e | e
   ·rw [e] at hz;obtain ⟨z',hz',rfl⟩:=List.mem_map.mp hz;rw [Int.natAbs_neg];exact e_c m.bl hF x (zqb ex) z' hz'
   ·exact e_c m.bl hF r e z hz
  ·rcases c_i hr with e | e
   ·rw [e] at hz;obtain ⟨z',hz',rfl⟩:=List.mem_map.mp hz;rw [Int.natAbs_neg];exact e_c m.bc hF u (zqb eu) z' hz'
   ·exact e_c m.bc hF r e z hz
 ·rw [if_neg hs,if_neg hs];refine ⟨m.len,m.wid,m.lin,m.inj,m.clen,m.cwid,by omega,ks1,ks2,λ i r j er ej=>?_,λ i r hi er mm hm=>?_,λ i r hi er=>bsm i r (by omega) er,e_c m.bl hF,e_c m.bc hF⟩
  ·by_cases e:i=ks.length
   ·subst e;rw [ex] at er;cases er;rw [kk] at ej;cases ej;exact ⟨by omega,bk,λ mm hm=>zx mm hm⟩
   ·exact leadB i r j e er ej
  ·rcases Nat.lt_or_ge mm k with q | q
   ·exact m.zero i r (by omega) er mm q
   ·rw [show mm=k by omega]; exact g i r (by omega) er
theorem n_C {d:Nat} (hd:d=2\/d=3) {A:LM} (sA:Sq d A) {B:Nat} (hB:BdM (2 ^ B) A):Ech d d 0 (e_H d A) [] B (bF B 0) (cF B 0) (List.zipWith (·++·) A (idM d)) (idM d):=by
 have one:1<=2 ^ B:=Nat.pow_pos (by decide);have bid:BdM (2 ^ B) (idM d):=λ r hr z hz=>by
  unfold idM at hr;obtain ⟨i,_,rfl⟩:=List.mem_map.mp hr;obtain ⟨k,_,rfl⟩:=List.mem_map.mp hz;split <;> simp <;> omega
 have il:(idM d).length=d:=by simp [idM]
 have iw:∀ r∈idM d,r.length=d:=λ r hr=>by
  unfold idM at hr;obtain ⟨i,_,rfl⟩:=List.mem_map.mp hr;simp
 have mem:∀ r∈List.zipWith (·++·) A (idM d),∃ a∈A,∃ e∈idM d,r=a++e:=λ r hr=>by
  obtain ⟨m,hm,rfl⟩:=yF hr;rw [List.getElem_zipWith];exact ⟨_,yA _,_,yA _,rfl⟩
 have bl:BdM (2 ^ B) (List.zipWith (·++·) A (idM d)):=λ r hr z hz=>by
  obtain ⟨a,ha,e,he,rfl⟩:=mem r hr;rcases List.mem_append.mp hz with q | q
  ·exact hB a ha z q
  ·exact bid e he z q
 refine ⟨by rw [List.length_zipWith,sA.1,il,Nat.min_self],λ r hr=>?_,?_,?_,il,iw,Nat.zero_le _,.nil,(λ j hj=>by cases hj),(λ i r j er ej=>by cases ej),(λ i r hi er m hm=>by omega),λ i r hi er=>bl r (zqb er),bl,bid⟩
 ·obtain ⟨a,ha,e,he,rfl⟩:=mem r hr;rw [List.length_append,sA.2 a ha,iw e he]
 ·rcases hd with rfl | rfl
  ·obtain ⟨a,b,c,e,rfl⟩:=sq2 sA;intro r hr;rw [id2] at hr;simp only [List.zipWith_cons_cons,List.zipWith_nil_left,List.mem_cons,List.not_mem_nil,or_false] at hr;rcases hr with rfl | rfl <;> simp [rowT,e_H,colI,dotI,List.range_succ]
  ·obtain ⟨a1,a2,a3,a4,a5,a6,a7,a8,a9,rfl⟩:=sq3 sA;intro r hr;rw [id3] at hr;simp only [List.zipWith_cons_cons,List.zipWith_nil_left,List.mem_cons,List.not_mem_nil,or_false] at hr;rcases hr with rfl | rfl | rfl <;> simp [rowT,e_H,colI,dotI,List.range_succ]
 ·rcases hd with rfl | rfl
  ·obtain ⟨a,b,c,e,rfl⟩:=sq2 sA;intro v hv hz x hx;obtain ⟨p,q,rfl⟩:=v2 hv;rw [id2] at hz;have h1:=hz ([a,b]++[1,0]) (by simp);have h2:=hz ([c,e]++[0,1]) (by simp);simp [dotI] at h1 h2;simp at hx;omega
  ·obtain ⟨a1,a2,a3,a4,a5,a6,a7,a8,a9,rfl⟩:=sq3 sA;intro v hv hz x hx;obtain ⟨p,q,r,rfl⟩:=v3 hv;rw [id3] at hz;have h1:=hz ([a1,a2,a3]++[1,0,0]) (by simp);have h2:=hz ([a4,a5,a6]++[0,1,0]) (by simp);have h3:=hz ([a7,a8,a9]++[0,0,1]) (by simp);simp [dotI] at h1 h2 h3;simp at hx;omega
theorem q_Z {d:Nat} {A:LM} {ks:List Nat} {B B0:Nat} {L C:LM} (h:Ech d d d (e_H d A) ks B B0 (cF B d) L C):l_g d A B ks (L.map λ r=>r.take d) (L.map λ r=>r.drop d):=by
 have gt:∀ (r:List Int) (m:Nat),m < d->(r.take d).getD m 0=r.getD m 0:=λ r m hm=>by
  rw [zqc,zqc,List.getElem?_take_of_lt hm]
 refine ⟨by rw [zqe]; exact h.len,λ r hr=>?_,by rw [zqe]; exact h.len,λ r hr=>?_,λ i r s er es=>?_,λ v hv hz=>h.inj v hv λ r hr=>hz _ (List.mem_map_of_mem hr),h.kn,h.ksS,h.ksK,λ i r j er ej=>?_,λ i r hi er m=>?_,λ r hr z hz=>?_,λ r hr z hz=>?_⟩
 ·obtain ⟨l,hl,rfl⟩:=List.mem_map.mp hr;rw [List.length_take,h.wid l hl]; omega
 ·obtain ⟨l,hl,rfl⟩:=List.mem_map.mp hr;rw [List.length_drop,h.wid l hl]; omega
 ·rw [zH] at er es;cases e:L[i]? with
  | none=>rw [e] at er; cases er
  | some l =>
   rw [e] at er es;cases er; cases es;exact h.lin l (zqb e)
 ·rw [zH] at er;cases e:L[i]? with
  | none=>rw [e] at er; cases er
  | some l =>
   rw [e] at er;cases er;obtain ⟨q1,q2,q3⟩:=h.lead i l j e ej;have jd:=h.ksK j (zqb ej);rw [gt l j jd];exact ⟨q1,q2,λ m hm=>by rw [gt l m (by omega)]; exact q3 m hm⟩
 ·rw [zH] at er;cases e:L[i]? with
  | none=>rw [e] at er; cases er
  | some l =>
   rw [e] at er;cases er;rcases Nat.lt_or_ge m d with q | q
   ·rw [gt l m q]; exact h.zero i l hi e m q
   ·rw [zqc,List.getElem?_eq_none (by rw [List.length_take]; omega)]; rfl
 ·obtain ⟨l,hl,rfl⟩:=List.mem_map.mp hr;exact h.bl l hl z (List.mem_of_mem_take hz)
 ·obtain ⟨l,hl,rfl⟩:=List.mem_map.mp hr;exact h.bl l hl z (List.mem_of_mem_drop hz)
theorem l_X:∀ (r ns:List Int) (j:Nat) (v:Int),j < ns.length->dotI r (ns.set j v)=dotI r ns+r.getD j 0*(v - ns.getD j 0)
 | [],ns,j,v,_=>by simp [dotI]
 | a :: r,[],j,v,h=>by simp at h
 | a :: r,b :: ns,0,v,h=>by simp [dotI]; grind
 | a :: r,b :: ns,j+1,v,h=>by
  have ih:=l_X r ns j v (by simpa using h);simp only [dotI,List.set_cons_succ,List.zipWith_cons_cons,List.sum_cons,List.getD_cons_succ] at ih ⊢;rw [ih]; grind
theorem l_Y {c:Int}:∀ (r ns:List Int),(∀ z∈ns,c∣z)->c∣dotI r ns
 | [],ns,_=>by simp [dotI]
 | a :: r,[],_=>by simp [dotI]
 | a :: r,b :: ns,h=>by
  have ih:=l_Y r ns λ z hz=>h z (zN _ hz);simp only [dotI,List.zipWith_cons_cons,List.sum_cons] at ih ⊢;exact Int.dvd_add (Int.dvd_mul_of_dvd_right (h b zU)) ih
theorem l_h {A B:Nat}:∀ (r ns:List Int),(∀ z∈r,z.natAbs<=A)->(∀ z∈ns,z.natAbs<=B)->(dotI r ns).natAbs<=r.length*(A*B)
 | [],ns,_,_=>by simp [dotI]
 | a :: r,[],_,_=>by simp [dotI]
 | a :: r,b :: ns,h1,h2=>by
  have ih:=l_h r ns (λ z hz=>h1 z (zN _ hz)) λ z hz=>h2 z (zN _ hz);have e:dotI (a :: r) (b :: ns)=a*b+dotI r ns:=by simp [dotI]
  rw [e];have hab:(a*b).natAbs<=A*B:=by rw [yE]; exact Nat.mul_le_mul (h1 a zU) (h2 b zU)
  have:=Int.natAbs_add_le (a*b) (dotI r ns);rw [List.length_cons,Nat.add_mul,Nat.one_mul];omega
theorem l_Z (F:LM) (ks:List Nat) (m:Nat):∀ k,scl F ks m∣scl F ks (m+k)
 | 0=>Int.dvd_refl _
 | k+1=>Int.dvd_trans (l_Z F ks m k) ⟨_,rfl⟩
theorem j_A {F:LM} {ks:List Nat} {W:Nat} (h:BdM (2 ^ W) F):∀ m,(scl F ks m).natAbs<=2 ^ (m*W)
 | 0=>by simp [scl]
 | m+1=>by
  have ih:=j_A (ks:=ks) h m;have hl:(c_H F ks m).natAbs<=2 ^ W:=by
   unfold c_H;refine l_W λ z hz=>?_
   by_cases hm:m < F.length
   ·exact h _ (by rw [zqc,zqd hm]; exact yA hm) z hz
   ·rw [zqc,List.getElem?_eq_none (by omega)] at hz; cases hz
  show (scl F ks m*c_H F ks m).natAbs<=_;rw [yE,Nat.add_mul,Nat.one_mul,Nat.pow_add];exact Nat.mul_le_mul ih hl
structure Cl (d:Nat) (F:LM) (ks:List Nat) (ts:List Int) (W m:Nat) (ns:List Int):Prop where
 len:ns.length=d
 eq:∀ (i:Nat) r x,m<=i->i < ks.length->F[i]?=some r->ts[i]?=some x->dotI r ns=x*scl F ks ks.length
 nul:∀ (i:Nat) j,i < m->ks[i]?=some j->ns.getD j 0=0
 dv:∀ z∈ns,scl F ks m∣z
 bd:∀ z∈ns,z.natAbs<=2 ^ (4*W+(ks.length - m)*(W+4))
theorem Cl.step {d:Nat} {F:LM} {ks:List Nat} {ts:List Int} {W m j:Nat} {ns r:List Int} {x:Int} (h:Cl d F ks ts W (m+1) ns) (hm:m < ks.length) (hd:d<=3) (hk3:ks.length<=3) (ksS:ks.Pairwise (· < ·)) (ej:ks[m]?=some j) (jd:j < d) (er:F[m]?=some r) (ext:ts[m]?=some x)
  (hlead:∀ (i:Nat) r j,F[i]?=some r->ks[i]?=some j->0 < r.getD j 0/\∀ m,m < j->r.getD m 0=0) (wr:r.length=d) (bF':BdM (2 ^ W) F) (bx:x.natAbs<=2 ^ W) :
  Cl d F ks ts W m (ns.set j ((x*scl F ks ks.length - dotI r ns).fdiv (r.getD j 0))):=by
 obtain ⟨lp,_⟩:=hlead m r j er ej;have hlv:c_H F ks m=r.getD j 0:=by
  unfold c_H;rw [zqc (l:=F),er,zqc (l:=ks),ej];rfl
 have sm:scl F ks (m+1)=scl F ks m*r.getD j 0:=by show scl F ks m*c_H F ks m=_; rw [hlv]
 have d1:scl F ks (m+1)∣scl F ks ks.length:=by
  have:=l_Z F ks (m+1) (ks.length - (m+1))
  rwa [show m+1+(ks.length - (m+1))=ks.length by omega] at this
 have d2:scl F ks (m+1)∣x*scl F ks ks.length - dotI r ns:=Int.dvd_sub (Int.dvd_mul_of_dvd_right d1) (l_Y r ns h.dv);obtain ⟨c,hc⟩:=d2;have ne:r.getD j 0≠0:=by omega
 have ev:(x*scl F ks ks.length - dotI r ns).fdiv (r.getD j 0)=scl F ks m*c:=by
  rw [hc,sm,show scl F ks m*r.getD j 0*c=(scl F ks m*c)*r.getD j 0 by grind,Int.mul_fdiv_cancel _ ne]
 have ex2:r.getD j 0*(x*scl F ks ks.length - dotI r ns).fdiv (r.getD j 0)=x*scl F ks ks.length - dotI r ns:=by rw [ev,hc,sm]; grind
 have jl:j < ns.length:=by rw [h.len]; exact jd
 have vb:((x*scl F ks ks.length - dotI r ns).fdiv (r.getD j 0)).natAbs<=2 ^ (4*W+(ks.length - m)*(W+4)):=by
  refine zS (g_N _ _ lp) ?_;have b1:=j_A (ks:=ks) bF' ks.length;have b2:=l_h r ns (bF' r (zqb er)) h.bd;have e1:(x*scl F ks ks.length).natAbs<=2 ^ (4*W):=by
   rw [yE,show 4*W=W+3*W by omega,Nat.pow_add];exact Nat.mul_le_mul bx (zS b1 (zM (by decide) (zK _ hk3)))
  have e2:(dotI r ns).natAbs<=3*2 ^ (W+(4*W+(ks.length - (m+1))*(W+4))):=by
   rw [Nat.pow_add];exact zS b2 (zK _ (by omega))
  have e3:2 ^ (4*W)<=2 ^ (W+(4*W+(ks.length - (m+1))*(W+4))):=zM (by decide) (by omega);have e4:2 ^ (4*W+(ks.length - m)*(W+4))=16*2 ^ (W+(4*W+(ks.length - (m+1))*(W+4))):=by
   rw [show ks.length - m=(ks.length - (m+1))+1 by omega,Nat.add_mul,Nat.one_mul,show 4*W+((ks.length - (m+1))*(W+4)+(W+4))=(W+(4*W+(ks.length - (m+1))*(W+4)))+4 by omega,Nat.pow_add];omega
  have e5:=Int.natAbs_sub_le (x*scl F ks ks.length) (dotI r ns);rw [e4];omega
 refine ⟨by rw [yB]; exact h.len,λ i r' x' hi hil er' ex'=>?_,λ i j' hi ej'=>?_,λ z hz=>?_,λ z hz=>?_⟩
 ·rw [l_X r' ns j _ jl]
  by_cases e:i=m
  ·subst e;rw [er] at er'; cases er';rw [ext] at ex'; cases ex';rw [h.nul i j (by omega) ej,Int.sub_zero,ex2];omega
  ·have hi2:m < i:=by omega
   obtain ⟨j',ej'⟩:∃ j',ks[i]?=some j':=⟨_,zqd hil⟩;have lt:j < j':=by
    obtain ⟨a1,a2⟩:=zqa ej;obtain ⟨b1,b2⟩:=zqa ej';have:=List.pairwise_iff_getElem.mp ksS m i a1 b1 hi2;rw [a2,b2] at this;exact this
   rw [(hlead i r' j' er' ej').2 j lt,Int.zero_mul,Int.add_zero];exact h.eq i r' x' (by omega) hil er' ex'
 ·have lt:j' < j:=by
   obtain ⟨a1,a2⟩:=zqa ej';obtain ⟨b1,b2⟩:=zqa ej;have:=List.pairwise_iff_getElem.mp ksS i m a1 b1 hi;rw [a2,b2] at this;exact this
  rw [zqc,zQ (by omega),← zqc];exact h.nul i j' (by omega) ej'
 ·rcases c_i hz with e | e
  ·rw [e,ev]; exact ⟨c,rfl⟩
  ·exact Int.dvd_trans ⟨_,sm⟩ (h.dv z e)
 ·rcases c_i hz with e | e
  ·rw [e]; exact vb
  ·exact zS (h.bd z e) (zM (by decide) (Nat.add_le_add_left (zK _ (by omega)) _))
theorem r_r {B k:Nat} (h:B<=243) (hk:k<=2):bF B k<=6100:=by
 match k,hk with
 | 0,_=>show B<=_; omega
 | 1,_=>show 5*B+3<=_; omega
 | 2,_=>show 5*(5*B+3)+3<=_; omega
theorem r_s {B k:Nat} (h:B<=243) (hk:k<=3):cF B k<=254000:=by
 match k,hk with
 | 0,_=>show B<=_; omega
 | 1,_=>show 4*(B+4*B+3)+3<=_; omega
 | 2,_=>show 4*(4*(B+4*B+3)+3+4*(5*B+3)+3)+3<=_; omega
 | 3,_=>show 4*(4*(4*(B+4*B+3)+3+4*(5*B+3)+3)+3+4*(5*(5*B+3)+3)+3)+3<=_; omega
theorem m_a {F:LM} {ks:List Nat} (h:∀ (i:Nat) r j,F[i]?=some r->ks[i]?=some j->0 < r.getD j 0) (hl:ks.length<=F.length):∀ m,m<=ks.length->0 < scl F ks m
 | 0,_=>by show (0:Int) < 1; decide
 | m+1,hm=>by
  obtain ⟨j,hj⟩:∃ j,ks[m]?=some j:=⟨_,zqd (by omega)⟩;obtain ⟨r,hr⟩:∃ r,F[m]?=some r:=⟨_,zqd (by omega)⟩;have e:c_H F ks m=r.getD j 0:=by
   unfold c_H;rw [zqc (l:=F),hr,zqc (l:=ks),hj];rfl
  show 0 < scl F ks m*c_H F ks m;rw [e];exact Int.mul_pos (m_a h hl m (by omega)) (h m r j hr hj)
theorem n_D {d:Nat} {F:LM} {ks:List Nat} {B:Nat} (hd:d<=3) (hl:ks.length<=F.length) (ksS:ks.Pairwise (· < ·)) (ksK:∀ j∈ks,j < d) (h:∀ (i:Nat) r j,F[i]?=some r->ks[i]?=some j->(r.getD j 0).natAbs<=2 ^ bF B j) :
  (scl F ks ks.length).natAbs<=2 ^ (bF B 0+bF B 1+bF B 2):=by
 have lv:∀ (m j:Nat),ks[m]?=some j->(c_H F ks m).natAbs<=2 ^ bF B j:=λ m j hj=>by
  have hm:=(zqa hj).1;obtain ⟨r,hr⟩:∃ r,F[m]?=some r:=⟨_,zqd (by omega)⟩;unfold c_H;rw [zqc (l:=F),hr,zqc (l:=ks),hj];exact h m r j hr hj
 have e1:bF B 1=5*B+3:=rfl;have e2:bF B 2=5*(5*B+3)+3:=rfl;have e0:bF B 0=B:=rfl;have mono:∀ a b,a<=b->b<=2->bF B a<=bF B b:=λ a b h1 h2=>by
  have:(a=0\/a=1\/a=2)/\(b=0\/b=1\/b=2):=by omega
  obtain ⟨rfl | rfl | rfl,rfl | rfl | rfl⟩:=this <;> simp only [e0,e1,e2] <;> omega
 match ks,ksS,ksK,lv with
 | [],_,_,_=>exact Nat.pow_pos (by decide)
 | [a],_,kK,lv =>
  have ha:=kK a (by simp);show (1*c_H F [a] 0).natAbs<=_;rw [Int.one_mul];refine zS (lv 0 a rfl) (zM (by decide) ?_);have:=mono a 2 (by omega) (by omega);omega
 | [a,b],kS,kK,lv =>
  have hb:=kK b (by simp);have hab:a < b:=by simpa using kS
  show (1*c_H F [a,b] 0*c_H F [a,b] 1).natAbs<=_;rw [Int.one_mul,yE];refine zS (Nat.mul_le_mul (lv 0 a rfl) (lv 1 b rfl)) ?_;rw [← Nat.pow_add];refine zM (by decide) ?_;have:=mono a 1 (by omega) (by omega);have:=mono b 2 (by omega) (by omega);omega
 | [a,b,c],kS,kK,lv =>
  have hc:=kK c (by simp);have h3:a < b/\b < c:=by simp at kS; omega
  have:a=0/\b=1/\c=2:=by omega
  obtain ⟨rfl,rfl,rfl⟩:=this;show (1*c_H F [0,1,2] 0*c_H F [0,1,2] 1*c_H F [0,1,2] 2).natAbs<=_;rw [Int.one_mul,yE,yE,Nat.pow_add,Nat.pow_add];exact Nat.mul_le_mul (Nat.mul_le_mul (lv 0 0 rfl) (lv 1 1 rfl)) (lv 2 2 rfl)
 | a :: b :: c :: e :: l,kS,kK,lv =>
  exfalso;have hc:=kK e (by simp);simp at kS;omega
theorem n_E {d:Nat} (hd:d=2\/d=3) {A:LM} (sA:Sq d A) {s ns ts:List Int} (hs:s.length=d) (hn:ns.length=d) (ht:ts.length=d) (S:Int) :
  dotI s ((List.range d).map λ i=>dotI (A.getD i []) ns - ts.getD i 0*S)=dotI (rowT (e_H d A) s) ns - dotI s ts*S:=by
 rcases hd with rfl | rfl
 ·obtain ⟨a,b,c,e,rfl⟩:=sq2 sA;obtain ⟨p,q,rfl⟩:=v2 hs;obtain ⟨x,y,rfl⟩:=v2 hn;obtain ⟨z,w,rfl⟩:=v2 ht;simp [rowT,e_H,colI,dotI,List.range_succ];grind
 ·obtain ⟨a1,a2,a3,a4,a5,a6,a7,a8,a9,rfl⟩:=sq3 sA;obtain ⟨p,q,r,rfl⟩:=v3 hs;obtain ⟨x,y,z,rfl⟩:=v3 hn;obtain ⟨u,v,w,rfl⟩:=v3 ht;simp [rowT,e_H,colI,dotI,List.range_succ];grind
theorem i_f {w c:Int}:∀ (r ns ms:List Int),ns.length=ms.length->(∀ (i:Nat) x y,ns[i]?=some x->ms[i]?=some y->x*w=y*c)->dotI r ns*w=dotI r ms*c
 | [],ns,ms,_,_=>by simp [dotI]
 | a :: r,[],[],_,_=>by simp [dotI]
 | a :: r,x :: ns,y :: ms,hl,h=>by
  have ih:=i_f r ns ms (by simpa using hl) λ i u v e1 e2=>h (i+1) u v (by simpa using e1) (by simpa using e2);have h0:=h 0 x y rfl rfl;have e1:dotI (a :: r) (x :: ns)=a*x+dotI r ns:=by simp [dotI]
  have e2:dotI (a :: r) (y :: ms)=a*y+dotI r ms:=by simp [dotI]
  rw [e1,e2,Int.add_mul,Int.add_mul,ih,Int.mul_assoc,h0,Int.mul_assoc]
theorem n_F {d B:Nat} (hd:d=2\/d=3) {A F R:LM} {ks:List Nat} {ts ns:List Int} (sA:Sq d A) (h:l_g d A B ks F R) (ht:ts.length=d) (hn:ns.length=d) {S:Int}
  (e1:∀ (i:Nat) r s,i < ks.length->F[i]?=some r->R[i]?=some s->dotI r ns=dotI s ts*S) (e2:∀ (i:Nat) s,ks.length<=i->R[i]?=some s->dotI s ts=0) :
  ∀ (i:Nat) row x,A[i]?=some row->ts[i]?=some x->dotI row ns=x*S:=by
 have z:=h.inj ((List.range d).map λ i=>dotI (A.getD i []) ns - ts.getD i 0*S) (by simp) λ s hs=>by
  obtain ⟨m,hm,rfl⟩:=yF hs;have es:=zqd hm;have ml:m < F.length:=by rw [h.fl,← h.rl]; exact hm
  have ef:=zqd ml;rw [n_E hd sA (h.rw _ (yA hm)) hn ht,← h.lin m _ _ ef es];rcases Nat.lt_or_ge m ks.length with q | q
  ·rw [e1 m _ _ q ef es]; omega
  ·rw [e2 m _ q es,Int.zero_mul,Int.sub_zero];have zz:∀ (r v:List Int),(∀ k,r.getD k 0=0)->dotI r v=0:=by
    intro r
    induction r with
    | nil=>intro v _; simp [dotI]
    | cons a r ih =>
     intro v hv;cases v with
     | nil=>simp [dotI]
     | cons b v =>
      have h0:a=0:=by simpa using hv 0
      have:=ih v λ k=>by simpa using hv (k+1)
      have e:dotI (a :: r) (b :: v)=a*b+dotI r v:=by simp [dotI]
      rw [e,this,h0]; simp
   exact zz _ _ (h.zero m _ q ef)
 intro i row x er ex;have hi:i < d:=by rw [← ht]; exact (zqa ex).1
 have:=z _ (List.mem_map.mpr ⟨i,List.mem_range.mpr hi,rfl⟩);rw [zqc (l:=A),er,zqc (l:=ts),ex] at this;have this':dotI row ns - x*S=0:=this;omega
theorem ok_1p (T:Txt K mg t):FnOk P w K mg base CX0 1 t.a_1p t.d_1p pA' sp_1p:=by
 refine T.F_1p.ok sc_1p (by walk_at "v") (λ cdv A outer s H vs Q E hr h=>?_)
 ·obtain ⟨b,a,rfl,h0,hb,q⟩:=h;refine ⟨_,(a_F (a_N (a_L b_N (a_L c_y (a_L b_C a_E (pv 0)) (pv 1)) (a_L b_C a_E (pv 1))))),?_⟩;show tRet _ _ [some (.int b),some (.int a)] H;walk_at "r";have hd:f_K (2*b+a) (2*a):=by
   refine ⟨by omega,zI ((Nat.log2_lt (by omega)).mpr (show (2*a).natAbs < 2 ^ 8981 from ?_)) (by decide)⟩;have e:(2:Nat) ^ 8981=2*2 ^ 8980:=by rw [Nat.pow_succ]; omega
   have hb':a.natAbs < 2 ^ 8980:=hb;rw [e];generalize (2:Nat) ^ 8980=M at hb';omega
  exact ⟨IntMulOk.of_left (by decide),IntMulOk.of_left (by decide),hd,q⟩
theorem ok_23 (T:Txt K mg t):FnOk P w K mg base CX0 1 t.a_23 t.d_23 pr' (sp_23 K):=by
 refine T.F_23.ok sc_23 (by walk_at "v") (λ cdv A outer s H vs Q E hr h=>?_)
 ·obtain ⟨b1,b2,a,b,xs,ys,c,rfl,h1,h2,hl,hz,hm,hQ⟩:=h;refine ⟨_,(a_F (a_N (a_X (xs:=["left","right"]) (fr:=[("count",2)]) (g:=(gTup K 2 (c_e (a_M 0) (c_e (a_M 1) gNil)))) (tt:=(tEl (tOp (rI0 λ i j=>.int (i - j)) (tVar 0) (tOp (rI (λ i j=>IntMulOk i j) λ i j=>.int (i*j)) (tVar 2) (tVar 1))))) (a_R (sc:=a_D s_23) (N:=N_23) rfl rfl (by decide +kernel)) rfl (g_s rfl T.z_zip (a_A (pv 0) (a_A (pv 1) a_B))) (λ _ _ _ hE1=>(c_L rfl (a_Z (a_Y (N:=["left","right","count"]) (i:=0) hE1 rfl (by decide +kernel)) (a_Z (a_Y (N:=["left","right","count"]) (i:=1) hE1 rfl (by decide +kernel)) c_x)))) (λ _ _ _ hE1=>(b_J (a_L d_R (pv 0) (a_L b_C (pv 2) (pv 1)))))))),?_⟩;show tRet _ _ [some (.ref a),some (.ref b),some (.int c)] H;walk_at "r";refine a_S λ B eB=>?_;simp only [iZip];walk_at "r";refine ⟨b1,⟨_,h1⟩,b2,⟨_,h2⟩,λ p hp=>?_⟩;refine g_t (λ j y _=>∃ m n,xs[j]?=some m/\ys[j]?=some n/\y=.int (m - c*n)) hp h1 h2 (by simpa using hl) (by simpa using hz) (λ _ _ _ _ r _=>r) ?_ ?_
  ·intro i x y H1 zs ex ey s1 ez Q' hQ';obtain ⟨m,em,rfl⟩:=c_c ex;obtain ⟨n,en,rfl⟩:=c_c ey;subst eB;show tOp _ _ _ [some (.int m),some (.int n),some (.int c)] H1 Q';walk_at "r";exact ⟨hm n (zqb en),hQ' _ _ (Same.refl _) ⟨m,n,em,en,rfl⟩⟩
  ·intro H1 zs s1 ez hlz hr';have ey:zs=(b_O xs ys c).map V.int:=by
    refine b_K (by unfold b_O; simp at hlz ⊢; omega) λ j y e=>?_;obtain ⟨m,n,em,en,rfl⟩:=hr' j y e;exact ⟨m - c*n,by unfold b_O; rw [List.getElem?_zipWith,em,en],rfl⟩
   subst ey;exact hQ p H1 s1 hp ez
theorem ok_16 (T:Txt K mg t):FnOk P w K mg base CX0 1 t.a_16 t.d_16 px' sp_16:=by
 refine T.F_16.ok sc_16 (by walk_at "v") (λ cdv A outer s H vs Q E hr h=>?_)
 ·obtain ⟨l,zs,i,j,x,y,rfl,h1,hi,hj,q⟩:=h;have il:=(zqa hi).1;have jl:=(zqa hj).1;refine ⟨_,(a_C (a_P (i:=3) sc_16.nd rfl (Or.inl rfl) (px (pv 0) (pv 1)))
   (a_C (d_B (px (pv 0) (pv 2)) (e_J (pv 0) (pv 1) d_I))
   (a_F (d_B (pv 3) (e_J (pv 0) (pv 2) d_I))))),?_⟩
  show tSeq _ _ _ [some (.ref l),some (.int i),some (.int j),none] H;refine st λ N1 e1=>?_;walk_at "r";refine ⟨false,l,_,_,_,rfl,rfl,SqB.lst h1,b_Y hi rfl,?_⟩;subst e1;refine st λ N1 e1=>?_;simp only [tAsg,gSub,f_T];walk_at "r";refine ⟨false,l,_,_,_,rfl,rfl,SqB.lst h1,b_Y hj rfl,_,h1,i,d_N il,?_⟩;subst e1;simp only [tAsg,gSub,f_T];walk_at "r";refine ⟨_,a_G,j,d_N (by rw [yB]; exact jl),?_⟩;rw [p_H];exact q
theorem ok_i (T:Txt K mg t):FnOk P w K mg base CX0 1 t.a_i t.d_i pI' sp_i:=by
 refine T.F_i.ok sc_i (by walk_at "v") (λ cdv A outer s H vs Q E hr h=>?_)
 ·obtain ⟨l,L,i,r,rfl,hM,hi,hl,hQ⟩:=h;refine ⟨_,(a_F (d_B (a_X (xs:=["number"]) (fr:=[]) (g:=(a_M 0)) (tt:=(tEl (tUn (rU λ i=>.int (-i)) (tVar 0)))) (a_R (sc:=a_D s_i) (N:=N_i) rfl rfl (by decide +kernel)) rfl (b_M (px (pv 0) (pv 1))) (λ _ _ _ hE1=>(a_Y (N:=["number"]) (i:=0) hE1 rfl (by decide +kernel))) (λ _ _ _ hE1=>(b_J (e_D d_L (pv 0))))) (e_J (pv 0) (pv 1) d_I))),?_⟩;show tAsg _ _ _ [some (.ref l),some (.int i)] H;have il:=(zqa hi).1;obtain ⟨ps,h1,h2,h3⟩:=id hM;obtain ⟨p,hp⟩:∃ p,ps[i]?=some p:=⟨_,zqd (by omega)⟩;obtain ⟨hne,hr'⟩:=h3 i p r hp hi;simp only [tAsg,gSub,f_T];walk_at "r";refine a_S λ B eB=>?_;simp only [iSeq];walk_at "r";refine ⟨false,l,_,_,_,rfl,rfl,SqB.lst h1,b_Y (show (ps.map V.ref)[i]?=some (.ref p) by rw [zH,hp]; rfl) rfl,false,p,rfl,⟨_,SqB.lst hr'⟩,λ a1 ha1=>?_⟩;refine c_h (λ k z _=>∃ n,r[k]?=some n/\z=.int (-n)) ha1 (SqB.lst hr') (by rw [zqe]; exact hl) (λ _ _ _ _ r _=>r) ?_ ?_
  ·intro k z H3 zs3 ez2 s3 _ Q2 hQ2;obtain ⟨n,en,rfl⟩:=c_c ez2;subst eB;show tUn _ _ [some (.int n)] H3 Q2;walk_at "r";exact hQ2 _ _ (Same.refl _) ⟨n,en,rfl⟩
  ·intro H1 zs s1 ez hlz hr2;have ey:zs=(r.map λ z=>-z).map V.int:=by
    refine b_K (by simpa using hlz) λ j y e=>?_;obtain ⟨n,en,rfl⟩:=hr2 j y e;exact ⟨-n,by rw [zH,en]; rfl,rfl⟩
   subst ey;have nea:a1≠l:=λ z=>by rw [z,h1] at ha1; cases ha1
   refine ⟨_,s1 _ _ h1,i,d_N (by rw [zqe]; omega),?_⟩;refine hQ _ (λ b o hb e=>by rw [a_H (by simpa using hb)]; exact s1 b o e) ⟨ps.set i a1,by rw [a_G,List.map_set],by simp [h2],λ m p' r' e1 e2=>?_⟩
   by_cases e:m=i
   ·subst e;rw [zP (by omega)] at e1;rw [zP il] at e2;cases e1; cases e2;exact ⟨nea,by rw [a_H nea]; exact ez⟩
   ·rw [zQ (λ w=>e w.symm)] at e1 e2;obtain ⟨n1,n2⟩:=h3 m p' r' e1 e2;exact ⟨n1,by rw [a_H n1]; exact s1 _ _ n2⟩
theorem ok_0 (T:Txt K mg t):FnOk P w K mg base CX0 1 t.a_0 t.d_0 pH' (e_A t):=by
 refine T.F_0.ok sc_0 (by walk_at "v") (λ cdv A outer s H vs Q E hr h=>?_)
 ·obtain ⟨x,C,dx,p,rfl,hx,hC,hQ⟩:=h;refine ⟨_,(a_F (k_y (pv 0) (pv 1) rfl)),?_⟩;exact ⟨_,rfl,_,rfl,x,C,dx,[],rfl,hx,i_V T hC,k_h T hC,by show 0 < 1000; decide,hQ⟩
theorem ok_13 (T:Txt K mg t):FnOk P w K mg base CX0 1 t.a_13 t.d_13 pL' (c_X t t.a_1r):=by
 refine T.F_13.ok sc_13 (by walk_at "v") (λ cdv A outer s H vs Q E hr h=>?_)
 ·obtain ⟨a,rfl,h⟩:=h;refine ⟨_,(a_F (a_N c_z)),?_⟩;exact h 0 (by decide) rfl
theorem ok_1e (T:Txt K mg t):FnOk P w K mg base CX0 1 t.a_1e t.d_1e pL' (c_X t t.a_21):=by
 refine T.F_1e.ok sc_1e (by walk_at "v") (λ cdv A outer s H vs Q E hr h=>?_)
 ·obtain ⟨a,rfl,h⟩:=h;refine ⟨_,(a_F (a_N c_z)),?_⟩;exact h 1 (by decide) rfl
theorem ok_1d (T:Txt K mg t):FnOk P w K mg base CX0 1 t.a_1d t.d_1d pL' (c_X t t.a_22):=by
 refine T.F_1d.ok sc_1d (by walk_at "v") (λ cdv A outer s H vs Q E hr h=>?_)
 ·obtain ⟨a,rfl,h⟩:=h;refine ⟨_,(a_F (a_N c_z)),?_⟩;exact h 2 (by decide) rfl
theorem ok_12 (T:Txt K mg t):FnOk P w K mg base CX0 1 t.a_12 t.d_12 pL' (c_X t t.a_1w):=by
 refine T.F_12.ok sc_12 (by walk_at "v") (λ cdv A outer s H vs Q E hr h=>?_)
 ·obtain ⟨a,rfl,h⟩:=h;refine ⟨_,(a_F (a_N c_z)),?_⟩;exact h 3 (by decide) rfl
theorem ok_t (T:Txt K mg t):FnOk P w K mg base CX0 1 t.a_t t.d_t pL' (c_X t t.a_1q):=by
 refine T.F_t.ok sc_t (by walk_at "v") (λ cdv A outer s H vs Q E hr h=>?_)
 ·obtain ⟨a,rfl,h⟩:=h;refine ⟨_,(a_F (a_N c_z)),?_⟩;exact h 4 (by decide) rfl
theorem ok_14 (T:Txt K mg t):FnOk P w K mg base CX0 1 t.a_14 t.d_14 pL' (c_X t t.a_1t):=by
 refine T.F_14.ok sc_14 (by walk_at "v") (λ cdv A outer s H vs Q E hr h=>?_)
 ·obtain ⟨a,rfl,h⟩:=h;refine ⟨_,(a_F (a_N c_z)),?_⟩;exact h 5 (by decide) rfl
theorem ok_11 (T:Txt K mg t):FnOk P w K mg base CX0 1 t.a_11 t.d_11 pL' (c_X t t.a_1s):=by
 refine T.F_11.ok sc_11 (by walk_at "v") (λ cdv A outer s H vs Q E hr h=>?_)
 ·obtain ⟨a,rfl,h⟩:=h;refine ⟨_,(a_F (a_N c_z)),?_⟩;exact h 6 (by decide) rfl
theorem ok_15 (T:Txt K mg t):FnOk P w K mg base CX0 1 t.a_15 t.d_15 pL' (c_X t t.a_1v):=by
 refine T.F_15.ok sc_15 (by walk_at "v") (λ cdv A outer s H vs Q E hr h=>?_)
 ·obtain ⟨a,rfl,h⟩:=h;refine ⟨_,(a_F (a_N c_z)),?_⟩;exact h 7 (by decide) rfl
theorem ok_o (T:Txt K mg t):FnOk P w K mg base CX0 1 t.a_o t.d_o pL' (c_X t t.a_1g):=by
 refine T.F_o.ok sc_o (by walk_at "v") (λ cdv A outer s H vs Q E hr h=>?_)
 ·obtain ⟨a,rfl,h⟩:=h;refine ⟨_,(a_F (a_N c_z)),?_⟩;exact h 8 (by decide) rfl
theorem p_C (T:Txt K mg t):∀ C,b_F t C->e_a P w K mg base 1 "word" (c_X t) C:=λ C h=>d_X (p:=λ C=>e_a P w K mg base 1 "word" (c_X t) C) h ⟨T.cl_1r,_,_,_,T.me_13,ok_13 T,T.b_13⟩ ⟨T.cl_21,_,_,_,T.me_1e,ok_1e T,T.b_1e⟩ ⟨T.cl_22,_,_,_,T.me_1d,ok_1d T,T.b_1d⟩ ⟨T.cl_1w,_,_,_,T.me_12,ok_12 T,T.b_12⟩ ⟨T.cl_1q,_,_,_,T.me_t,ok_t T,T.b_t⟩ ⟨T.cl_1t,_,_,_,T.me_14,ok_14 T,T.b_14⟩ ⟨T.cl_1s,_,_,_,T.me_11,ok_11 T,T.b_11⟩ ⟨T.cl_1v,_,_,_,T.me_15,ok_15 T,T.b_15⟩ ⟨T.cl_1g,_,_,_,T.me_o,ok_o T,T.b_o⟩
structure Bas (d:Nat) (x:AP):Prop where
 af:Af d x.1 x.2
 bm:b_B 1700 x.1
 bt:c_a 1700 x.2
theorem j_B {d:Nat} (hd:d=2\/d=3) {x:AP} (h:Bas d x) {u:Int} (h0:0 < u) (hu:u < 2 ^ 71) {k:Nat} (hk:k<=100):Fine d (pwA d x k).1 (redT u (pwA d x k).2) (redU u (pwA d x k).2):=by
 have ha:=d_W h.af k;have hb:=h_S hd h.af h.bm h.bt k;have hru:=d_H (pwA d x k).2 h0;have hk2:(k+1)*(1700+3)<=200000:=zS (zK _ (show k+1<=101 by omega)) (by decide);have e:(2:Int) ^ 71 < 2 ^ 1500:=by decide +kernel
 exact ⟨ha.sq,by unfold redT; rw [zqe]; exact ha.len,hru.1,hb.1.le hk2,f_G (by omega) (hb.2.le hk2),by omega⟩
theorem ok_1u (T:Txt K mg t):FnOk P w K mg base (CX1 P w) 10 t.a_1u t.d_1u pC' (sp_1u K t.a_29):=by
 have G_20:=@ok_20 P w K mg base t T;have G_1o:=@ok_1o P w K mg base t T;refine T.F_1u.okX sc_1u (λ vs H Q E h=>?_) (λ cdv A outer s H vs Q E hr h=>?_)
 ·obtain ⟨p,M,ts,u,n,d,rfl,_⟩:=h;rfl
 ·obtain ⟨p,M,ts,u,n,d,rfl,hD,dr,hn6,hQ⟩:=h;have hd:=dr.hd;refine ⟨_,(a_C (b_R (PW.pt (h_g (a_T i_p (pv 1) (e_D d_L (h_K (v:=(.int 200)) rfl T.g_MOST_TIMES)) (a_V _)) (g_n (a_T h_j (pv 1) (h_K (v:=(.int 200)) rfl T.g_MOST_TIMES) (a_V _)))))
   (a_F (d_S rfl c_M rfl T.m_29 T.x_29 PySem.F.excBase_ValueError (a_A c_z a_B)))
   b_z)
   (a_C (a_P (i:=2) sc_1u.nd rfl (Or.inl rfl) (d_Q (a_T s_K (pv 1) a_E (a_V _)) (pv 0) o_r))
   (a_C (a_P (i:=3) sc_1u.nd rfl (Or.inl rfl) (a_Q e_n rfl T.z_abs (by decide +kernel) (a_A (pv 1) a_B)))
   (a_C (a_P (i:=4) sc_1u.nd rfl (Or.inl rfl) (a_I G_20 hr.mo rfl T.m_20 T.F_20.kp T.b_20 .nil a_O (a_A (a_Q a_U rfl T.z_len (by decide +kernel) (a_A (px (pv 0) a_E) a_B)) a_B)))
   (a_C (PS.nox (e_K zG (a_T h_j (pv 3) a_E (a_V _))
   (a_C (b_R (a_T c_g (a_L b_S (pv 3) a_E) a_E (a_V _))
   (a_F (a_P (i:=4) sc_1u.nd rfl (Or.inl rfl) (a_I G_1o hr.mo rfl T.m_1o T.F_1o.kp T.b_1o .nil a_O (a_A (pv 4) (a_A (pv 2) a_B)))))
   b_z)
   (a_C (a_P (i:=3) sc_1u.nd rfl (Or.inl rfl) (a_L b_N (pv 3) a_E))
   (a_F (b_R (a_T h_j (pv 3) a_E (a_V _))
   (a_F (a_P (i:=2) sc_1u.nd rfl (Or.inl rfl) (a_I G_1o hr.mo rfl T.m_1o T.F_1o.kp T.b_1o .nil a_O (a_A (pv 2) (a_A (pv 2) a_B)))))
   b_z))))))
   (a_F (a_N (pv 4)))))))),?_⟩
  show tSeq _ _ _ [some (.ref p),some (.int n),none,none,none] H;have u150:=dr.bu;refine st λ N1 e1=>?_;simp only [e_i];walk_at "r";rw [zX (show ¬ (n:Int) < -200 by omega),zX (show ¬ (200:Int) < n by omega)];refine iteF (iteF ?_);subst e1;refine st λ N1 e1=>?_;have key:∀ (b:AP) (sp:Addr) (H1:Hp),Same H H1->NfAt K H1 sp u b->b=(M,ts)->N1 [some (.ref p),some (.int n),some (.ref sp),none,none] H1:=by
   intro b sp H1 s1 hsp eb;rw [← eb] at hQ;have hb:Bas d b:=by rw [eb]; exact ⟨dr.af,dr.bm,dr.bt⟩
   subst e1;refine st λ N2 e2=>?_;walk_at "r";rw [show (if (n:Int) < 0 then -(n:Int) else (n:Int))=((n:Nat):Int) by split <;> omega];obtain ⟨m,em⟩:∃ m:Nat,m=n:=⟨n,rfl⟩;rw [← em] at hn6 hQ;subst e2;refine st λ N2 e2=>?_;walk_at "r";refine c_I (hD.up s1) λ x hx=>b_V hx ?_
   try walk_at "r"
   rw [dr.af.sq.1];refine ⟨d,rfl,hd,λ q H2 s2 hq=>?_⟩;have hq':=(s_U (K:=K) dr.pos).mpr hq;subst e2;refine st λ N2 e2=>f_W λ B eB=>?_;refine ⟨λ c σ H3=>∃ (sp dp:Addr) (l x e:Nat),σ=[some (.ref p),some (.int n),some (.ref sp),some (.int l),some (.ref dp)]/\Same H H3/\NfAt K H3 sp u (pwA d b x)/\NfAt K H3 dp u (pwA d b e)/\e+l*x=m/\x<=100/\l=c,
    ⟨m,sp,q,m,1,0,by rw [em],s1.trans s2,by rw [q_H hd hb.af]; exact hsp.up s2,hq',by omega,by decide,rfl⟩,?_⟩
   clear hq' hq hsp;rintro c σ H3 ⟨sp,dp,l,x,e,rfl,s3,h1,h2,hm2,hx100,rfl⟩;walk_at "r"
   by_cases hl:l=0
   ·subst hl;rw [zX (by decide)];refine iteF ?_;subst e2;walk_at "r";have:e=m:=by omega
    subst this;exact hQ dp H3 s3 h2
   rw [zW (show (0:Int) < l by omega)];have hlx:x<=l*x:=Nat.le_mul_of_pos_left _ (by omega);refine iteT ⟨λ σ' H'=>∃ (sp dp:Addr) (l' x e:Nat),σ'=[some (.ref p),some (.int n),some (.ref sp),some (.int l'),some (.ref dp)]/\Same H H'/\NfAt K H' sp u (pwA d b x)/\NfAt K H' dp u (pwA d b e)/\e+l'*x=m/\x<=100/\l' < l,?_,?_⟩
   ·rintro σ' H' ⟨sp,dp,l',x,e,rfl,s',k1,k2,k3,k4,k5⟩;exact ⟨l',k5,sp,dp,l',rfl,s',x,k1,e,k2,k3,k4,rfl⟩
   subst eB;refine st λ N3 e3=>?_;have key3:∀ (dp:Addr) (e':Nat) (H4:Hp),Same H3 H4->NfAt K H4 dp u (pwA d b e')->e'+(l / 2)*(2*x)=m->N3 [some (.ref p),some (.int n),some (.ref sp),some (.int l),some (.ref dp)] H4:=by
    intro dp e' H4 s4 h2 hm3;subst e3;refine st λ N4 e4=>?_;walk_at "r";refine ⟨dvs _ 2 (by decide) (by decide),?_⟩;have el:(l:Int).fdiv 2=((l / 2:Nat):Int):=by
     rw [Int.fdiv_eq_ediv_of_nonneg _ (by decide)]; omega
    rw [el];subst e4;walk_at "r"
    by_cases hl2:l / 2=0
    ·rw [zX (by omega)];refine iteF ?_;rw [hl2,Nat.zero_mul] at hm3;exact ⟨dp,l / 2,rfl,rfl,s3.trans s4,x,h1.up s4,e',h2,by rw [hl2,Nat.zero_mul]; omega,hx100,by omega⟩
    ·rw [zW (by omega)];refine iteT ?_;have hx2:2*x<=(l / 2)*(2*x):=Nat.le_mul_of_pos_left _ (by omega);have f1:=j_B hd hb dr.pos u150 hx100;refine ⟨sp,sp,_,_,_,_,_,_,d,rfl,h1.up s4,h1.up s4,f1,f1,by omega,by omega,λ r H5 s5 hr5=>?_⟩;have hr5':=i_K dr.pos hr5;rw [j_n hd hb.af] at hr5';exact ⟨r,rfl,dp,l / 2,rfl,rfl,(s3.trans s4).trans s5,x+x,hr5',e',h2.up s5,by rw [← hm3]; congr 1; congr 1; omega,by omega,by omega⟩
   walk_at "r";refine ⟨by decide,?_⟩;have em:(l:Int).fmod 2=((l % 2:Nat):Int):=by
    rw [Int.fmod_eq_emod_of_nonneg _ (by decide)]; omega
   rw [em];have hdiv:l=2*(l / 2)+l % 2:=by omega
   have hmul:l*x=(l / 2)*(2*x)+(l % 2)*x:=by
    rw [← Nat.mul_assoc,Nat.mul_comm (l / 2) 2,← Nat.add_mul,← hdiv]
   by_cases ho:l % 2=1
   ·rw [zW (by omega)];refine iteT ?_;rw [ho,Nat.one_mul] at hmul;have f1:=j_B hd hb dr.pos u150 hx100;have f2:=j_B hd hb dr.pos u150 (show e<=100 by omega);refine ⟨dp,sp,_,_,_,_,_,_,d,rfl,h2,h1,f2,f1,by omega,by omega,λ r H5 s5 hr5=>?_⟩;have hr5':=i_K dr.pos hr5;rw [j_n hd hb.af] at hr5';exact key3 r (e+x) H5 s5 hr5' (by omega)
   ·rw [zX (by omega)];refine iteF ?_;rw [show l % 2=0 by omega,Nat.zero_mul] at hmul;exact key3 dp e H3 (Same.refl _) h2 (by omega)
  walk_at "r";rw [zW (show (0:Int)<=n by omega)];exact iteT (key (M,ts) p H (Same.refl _) (s_T hD dr.pos dr.low) rfl)
theorem ok_g (T:Txt K mg t):FnOk P w K mg base CX0 1 t.a_g t.d_g pK' (sp_g K):=by
 refine T.F_g.ok sc_g (by walk_at "v") (λ cdv A outer s H vs Q E hr h=>?_)
 ·obtain ⟨b1,b2,a,MA,d,rfl,hA,sA,hd,hQ⟩:=h;refine ⟨_,(a_F (a_N (a_X (xs:=["row"]) (fr:=[]) (g:=(a_M 0)) (tt:=(tEl (b_X (iSeq K (tVar 0)) (a_M 0) (tEl (tUn (rU λ i=>.int (-i)) (tVar 0))) 1 []))) (a_R (sc:=a_D s_g) (N:=N_g) rfl rfl (by decide +kernel)) rfl (b_M (pv 0)) (λ _ _ _ hE1=>(a_Y (N:=["row"]) (i:=0) hE1 rfl (by decide +kernel))) (λ _ _ _ hE1=>(b_J (a_X (xs:=["number"]) (fr:=[]) (g:=(a_M 0)) (tt:=(tEl (tUn (rU λ i=>.int (-i)) (tVar 0)))) (a_R (N:=["row"]) hE1 rfl (by decide +kernel)) rfl (b_M (pv 0)) (λ _ _ _ hE2=>(a_Y (N:=["number"]) (i:=0) hE2 rfl (by decide +kernel))) (λ _ _ _ hE2=>(b_J (e_D d_L (pv 0)))))))))),?_⟩;show tRet _ _ [some (.ref a)] H;walk_at "r";refine a_S λ B eB=>?_;simp only [iSeq];walk_at "r";obtain ⟨xs,x1,x2,x3⟩:=hA.walk;refine ⟨b1,⟨_,x1⟩,λ a1 ha1=>?_⟩;refine c_h (RowR a1 λ i=>(MA.getD i []).map λ n=>-n) ha1 x1 (by rw [x2,sA.1]; omega) (RowR.mono (a:=a1)) ?_ ?_
  ·intro i x H2 zs ex s2 ez Q' hQ';obtain ⟨p,r,rfl,er,hp⟩:=x3 i x ex;subst eB;show b_X _ _ _ _ _ [some (.ref p)] H2 Q';refine a_S λ B eB=>?_;simp only [iSeq];walk_at "r";refine ⟨b2,⟨_,hp.up s2⟩,λ a2 ha2=>?_⟩;refine c_h (λ k z _=>∃ n,r[k]?=some n/\z=.int (-n)) ha2 (hp.up s2) (by rw [zqe,sA.2 r (zqb er)]; omega) (λ _ _ _ _ r _=>r) ?_ ?_
   ·intro k z H3 zs3 ez2 s3 _ Q2 hQ2;obtain ⟨n,en,rfl⟩:=c_c ez2;subst eB;show tUn _ _ [some (.int n)] H3 Q2;walk_at "r";exact hQ2 _ _ (Same.refl _) ⟨n,en,rfl⟩
   ·intro H3 ys s3 e3 hly hr3;have ey:ys=(r.map λ n=>-n).map V.int:=by
     refine b_K (by simpa using hly) λ k z e=>?_;obtain ⟨n,en,rfl⟩:=hr3 k z e;exact ⟨-n,by rw [zH,en]; rfl,rfl⟩
    subst ey;have e5:(MA.getD i []).map (λ n=>-n)=r.map λ n=>-n:=by rw [zqc,er]; rfl
    exact hQ' _ _ s3 ⟨a2,rfl,Ne.symm (a_J ez ha2),by show H3 a2=some (.lst (((MA.getD i []).map λ n=>-n).map V.int)); rw [e5]; exact e3⟩
  ·intro H2 ys s2 e2 hly hr2;have hM0:=MatL.of e2 hr2;rw [hly,x2] at hM0;have e6:(List.range MA.length).map (λ i=>(MA.getD i []).map λ n=>-n)=negM MA:=by
    unfold negM;refine yG (by simp) λ i h1 h2=>?_;simp at h1;simp [zqc,h1]
   rw [e6] at hM0;exact hQ a1 H2 s2 hM0
theorem p_D {B:Nat} {A:LM} (h:b_B B A):b_B B (negM A):=λ r hr x hx=>by
 obtain ⟨s,hs,rfl⟩:=List.mem_map.mp hr;obtain ⟨y,hy,rfl⟩:=List.mem_map.mp hx;rw [Int.natAbs_neg];exact h s hs y hy
theorem ok_17 (T:Txt K mg t):FnOk P w K mg base CX0 5 t.a_17 t.d_17 pK' (sp_17 K):=by
 have G_1m:=@ok_1m P w K mg base t T;have G_g:=@ok_g P w K mg base t T;refine T.F_17.ok sc_17 (by walk_at "v") (λ cdv A outer s H vs Q E hr h=>?_)
 ·obtain ⟨b1,b2,a,MA,d,rfl,hA,sA,hd,hb,hQ⟩:=h;have G_1:FnOk P w K mg base CX0 (d+1) t.a_1 t.d_1 pK' (sp_1 K d):=ok_1 T d;obtain ⟨n,en⟩:∃ n,n=d:=⟨d,rfl⟩;rw [← en] at G_1;have hn3:n<=3:=by omega
  refine ⟨_,(a_F (a_N (d_Q (a_T c_g (a_I G_1 hr.mo rfl T.m_1 T.F_1.kp T.b_1 .nil a_O (a_A (pv 0) a_B)) a_E (a_V _)) (a_I G_1m hr.mo rfl T.m_1m T.F_1m.kp T.b_1m .nil a_O (a_A (pv 0) a_B)) (a_I G_1m hr.mo rfl T.m_1m T.F_1m.kp T.b_1m .nil a_O (a_A (a_I G_g hr.mo rfl T.m_g T.F_g.kp T.b_g .nil a_O (a_A (pv 0) a_B)) a_B))))),?_⟩;show tRet _ _ [some (.ref a)] H;walk_at "r";subst en;refine g_x (by omega) (by omega) hA sA hb (by decide) λ H1 s1=>?_;unfold f_O at hQ
  try walk_at "r"
  by_cases z:detM n MA=1
  ·rw [if_pos z] at hQ;rw [zW z];exact iteT ⟨b1,b2,a,MA,n,1700,rfl,hA.up s1,sA,hd,hb,by decide,λ v H2 s2 hv=>by rw [d_O hv]; exact hQ H2 (s1.trans s2)⟩
  ·rw [if_neg z] at hQ;rw [zX z];refine iteF ⟨b1,b2,a,MA,n,rfl,hA.up s1,sA,by omega,λ r H2 s2 hR=>?_⟩;exact ⟨false,false,r,negM MA,n,1700,rfl,hR.b,j_q sA,hd,p_D hb,by decide,λ v H3 s3 hv=>by rw [d_O hv]; exact hQ H3 ((s1.trans s2).trans s3)⟩
theorem ok_l (T:Txt K mg t):FnOk P w K mg base CX0 1 t.a_l t.d_l ["spot"] sp_l:=by
 refine T.F_l.ok sc_l (by walk_at "v") (λ cdv A outer s H vs Q E hr h=>?_)
 ·obtain ⟨p,ns,v,rfl,hP,hQ⟩:=h;refine ⟨_,(a_F (a_N (r_z (a_Q (m_K rfl) rfl T.z_any (by decide +kernel) (a_A (px (pv 0) a_E) a_B))))),?_⟩;show tRet _ _ [some (.ref p)] H;walk_at "r";refine f_E hP λ x hx=>⟨x,rfl,ns,SqT.of hx,?_⟩
  try walk_at "r"
  exact hQ
theorem ok_x (T:Txt K mg t):FnOk P w K mg base CX0 11 t.a_x t.d_x ["one"] (sp_x K):=by
 have G_1m:=@ok_1m P w K mg base t T;have G_1u:=@ok_1u P w K mg base t T;have G_19:=@ok_19 P w K mg base t T;refine T.F_x.ok sc_x (by walk_at "v") (λ cdv A outer s H vs Q E hr h=>?_)
 ·obtain ⟨p,M,ts,u,d,rfl,hD,kd,hQ⟩:=h;refine ⟨_,(a_C (a_P (i:=1) sc_x.nd rfl (Or.inl rfl) (a_I G_1m hr.mo rfl T.m_1m T.F_1m.kp T.b_1m .nil a_O (a_A (px (pv 0) a_E) a_B)))
   (a_C (b_R (a_T c_g (pv 1) a_E (a_V _))
   (a_F (a_N f_P))
   b_z)
   (a_C (a_P (i:=2) sc_x.nd rfl (Or.inl rfl) (a_I G_1u hr.mo rfl T.m_1u T.F_1u.kp T.b_1u .nil e_x (a_A (pv 0) (a_A (pv 1) a_B))))
   (a_F (a_N (a_I G_19 hr.mo rfl T.m_19 T.F_19.kp T.b_19 .nil e_x (a_A (px (pv 2) a_E) (a_A (a_L b_C (px (pv 2) a_E) (pv 1)) a_B)))))))),?_⟩
  show tSeq _ _ _ [some (.ref p),none,none] H;refine st λ N1 e1=>?_;walk_at "r";refine c_I hD λ x hx=>⟨true,true,x,M,d,1700,rfl,hx,kd.af.sq,kd.hd,kd.bm,by decide,λ v H1 s1 hv=>?_⟩;have ev:=d_O hv;subst ev;have sr:=e_t d M;subst e1;refine st λ N1 e1=>?_;walk_at "r"
  by_cases z:spn d M=0
  ·rw [zW z];exact iteT (hQ .non H1 s1 (.inl ⟨z,rfl⟩))
  ·rw [zX z];refine iteF ?_;subst e1;refine st λ N1 e1=>?_;walk_at "r";obtain ⟨n,en⟩:=Int.eq_ofNat_of_zero_le sr.1;have hQ2:=λ (r:Addr) (H':Hp) (s':Same H H') (hp:b_P H' r (redT (u*n) (pwA d (M,ts) n).2) (redU (u*n) (pwA d (M,ts) n).2))=>hQ (.ref r) H' s' (.inr ⟨z,r,rfl,by unfold farT; rw [en,zR]; exact hp⟩);rw [en] at sr z ⊢;refine ⟨p,M,ts,u,n,d,rfl,hD.up s1,kd,by omega,λ r H2 s2 hN=>?_⟩;have hN':b_Z K H2 r (pwA d (M,ts) n).1 (redT u (pwA d (M,ts) n).2) (redU u (pwA d (M,ts) n).2):=hN;have ru:=d_H (pwA d (M,ts) n).2 kd.pos;have al:=(d_W (x:=(M,ts)) kd.af n).len;have dd:=kd.hd;generalize (pwA d (M,ts) n).2=S at *
   subst e1;walk_at "r";refine h_M hN' λ y hy=>g_c hN' ?_
   try walk_at "r"
   have bu:=kd.bu;have sw:c_V (redU u S*n):=by
    have h6:redU u S*(n:Int)<=2 ^ 71*6:=Int.mul_le_mul (by omega) (by omega) (by omega) (by decide);have h7:0<=redU u S*(n:Int):=Int.mul_nonneg (by omega) (by omega);unfold c_V;have h8:((redU u S*(n:Int)).natAbs:Int)=redU u S*n:=Int.natAbs_of_nonneg h7;have this:(redU u S*(n:Int)).natAbs < 2 ^ 80:=by
     have e80:(2:Int) ^ 71*6 < ((2 ^ 80:Nat):Int):=by decide
     exact Int.ofNat_lt.mp (by rw [h8]; exact Int.lt_of_le_of_lt h6 e80)
    exact zI this (zM (by decide) (by decide))
   have nz:redU u S*(n:Int)≠0:=Int.mul_ne_zero (by omega) (by omega);refine ⟨IntMulOk.of_right (intBits_le_iff.mpr (by omega)),true,y,redT u S,redU u S*n,rfl,SqB.tup hy,by unfold redT; rw [zqe]; omega,sw,λ z=>?_,λ _ _ r3 H3 s3 hP=>?_⟩
   ·rcases z with z | z
    ·exact yJ z nz
    ·have:=congrArg List.length z;unfold redT at this;rw [zqe,show S.length=d from al] at this;have:d=0:=this;omega
   ·have re:=h_Q (p:=redU u S*n) (w:=u*n) (xs:=redT u S) (ys:=S) (Int.mul_pos (by omega) (by omega)) (Int.mul_pos kd.pos (by omega)) (by unfold redT; rw [zqe]) λ i x y ex ey=>by
     have:=c_t (u:=u) (ns:=S) (by have:=kd.pos; omega) ey ex
     calc x*(u*n)=(x*u)*n:=by rw [Int.mul_assoc]
      _=(y*redU u S)*n:=by rw [this]
      _=y*(redU u S*n):=by rw [Int.mul_assoc]
    rw [re.1,re.2] at hP;exact hQ2 r3 H3 ((s1.trans s2).trans s3) hP
theorem ok_a (T:Txt K mg t):∀ C,b_F t C->FnOk P w K mg base CX0 6 t.a_a t.d_a pL' (sp_a K t C):=by
 intro C hC0;have G_17:=@ok_17 P w K mg base t T;refine T.F_a.ok sc_a (by walk_at "v") (λ cdv A outer s H vs Q E hr h=>?_)
 ·obtain ⟨a,p,M,ts,u,d,rfl,hC,⟨⟨dx,hk⟩,hD,kd⟩,hQ⟩:=h;refine ⟨_,(a_F (a_N (a_I G_17 hr.mo rfl T.m_17 T.F_17.kp T.b_17 .nil a_O (a_A (px (b_W (pv 0) rfl) a_E) a_B)))),?_⟩;show tRet _ _ [some (.ref a)] H;walk_at "r";refine ⟨_,rfl,a,C,dx,_,_,rfl,hk,i_V T hC,k_h T hC,g_g p,?_⟩;exact c_I hD λ x hx=>⟨true,true,x,M,d,rfl,hx,kd.af.sq,kd.hd,kd.bm,λ H' s'=>hQ H' s'⟩
theorem p_E (T:Txt K mg t):∀ C,b_F t C->e_a P w K mg base 6 "fold" (sp_a K t) C:=m_W (T:=T) (ok_a T)
theorem ok_4 (T:Txt K mg t):∀ C,b_F t C->FnOk P w K mg base CX0 12 t.a_4 t.d_4 pL' (sp_4 K t C):=by
 intro C hC0;have G_x:=@ok_x P w K mg base t T;refine T.F_4.ok sc_4 (by walk_at "v") (λ cdv A outer s H vs Q E hr h=>?_)
 ·obtain ⟨a,p,M,ts,u,d,rfl,hC,⟨⟨dx,hk⟩,hD,kd⟩,hQ⟩:=h;refine ⟨_,(a_F (a_N (a_I G_x hr.mo rfl T.m_x T.F_x.kp T.b_x .nil a_O (a_A (b_W (pv 0) rfl) a_B)))),?_⟩;show tRet _ _ [some (.ref a)] H;walk_at "r";exact ⟨_,rfl,a,C,dx,_,_,rfl,hk,i_V T hC,k_h T hC,g_g p,p,M,ts,u,d,rfl,hD,kd,hQ⟩
theorem e_d (T:Txt K mg t):∀ C,b_F t C->e_a P w K mg base 12 "slide" (sp_4 K t) C:=l_c (T:=T) (ok_4 T)
theorem ok_6 (T:Txt K mg t):∀ C,b_F t C->FnOk P w K mg base CX0 13 t.a_6 t.d_6 pL' (sp_6 K t C):=by
 intro C hC0;have G_1m:=@ok_1m P w K mg base t T;have G_l:=@ok_l P w K mg base t T;refine T.F_6.ok sc_6 (by walk_at "v") (λ cdv A outer s H vs Q E hr h=>?_)
 ·obtain ⟨a,p,M,ts,u,d,rfl,hC,⟨⟨dx,hk⟩,hD,kd⟩,hQ⟩:=h;refine ⟨_,(a_C (a_P (i:=1) sc_6.nd rfl (Or.inl rfl) (b_Q (Fm:=b_F t) (pv 0) (e_d T) hr.mo))
   (a_F (a_N (d_Q (PW.pt (n_I (a_T p_O (pv 1) f_P (a_V _)) (l_k (e_f (a_I G_l hr.mo rfl T.m_l T.F_l.kp T.b_l .nil a_O (a_A (pv 1) a_B)))))) (a_I G_1m hr.mo rfl T.m_1m T.F_1m.kp T.b_1m .nil a_O (a_A (px (b_W (pv 0) rfl) a_E) a_B)) a_E)))),?_⟩
  show tSeq _ _ _ [some (.ref a),none] H;refine st λ N1 e1=>?_;walk_at "r";refine ⟨_,rfl,a,C,dx,_,rfl,hk,hC,c_W p (by decide +kernel),a,p,M,ts,u,d,rfl,hC,⟨⟨dx,hk⟩,hD,kd⟩,λ v H1 s1 hv=>?_⟩;unfold h_W at hQ;subst e1;walk_at "r";rcases hv with ⟨z,rfl⟩ | ⟨z,r,rfl,hP⟩
  ·rw [if_neg (λ q=>q.1 z)] at hQ;rw [zW rfl];exact iteF (hQ H1 s1)
  ·rw [zX (λ q=>by cases q)];refine iteT ⟨r,_,_,rfl,hP,?_⟩;rw [g_C kd z];cases hz:c_E d M ts with
   | true =>
    rw [if_pos ⟨z,hz⟩] at hQ;refine ⟨_,rfl,iteT ?_⟩;refine ⟨_,rfl,a,C,dx,_,_,rfl,s1 _ _ hk,i_V T hC,k_h T hC,g_g p,?_⟩;exact c_I (hD.up s1) λ x hx=>⟨true,true,x,M,d,1700,rfl,hx,kd.af.sq,kd.hd,kd.bm,by decide,λ v H' s' hv=>by rw [d_O hv]; exact hQ H' (s1.trans s')⟩
   | false =>
    rw [if_neg (λ q=>by rw [hz] at q; exact yJ q.2 (by decide))] at hQ;exact ⟨_,rfl,iteF (hQ H1 s1)⟩
theorem m_d (T:Txt K mg t):∀ C,b_F t C->e_a P w K mg base 13 "order" (sp_6 K t) C:=l_d (T:=T) (ok_6 T)
theorem ok_r (T:Txt K mg t):FnOk P w K mg base CX0 6 t.a_r t.d_r pE' (sp_r K t):=by
 have G_17:=@ok_17 P w K mg base t T;have G_0:=@ok_0 P w K mg base t T;refine T.F_r.ok sc_r (by walk_at "v") (λ cdv A outer s H vs Q E hr h=>?_)
 ·obtain ⟨p,z,M,ts,u,d,rfl,hD,kd,hs,ez,hdt,hQ⟩:=h;refine ⟨_,(a_C (b_R (a_T c_g (a_I G_17 hr.mo rfl T.m_17 T.F_17.kp T.b_17 .nil a_O (a_A (px (pv 0) a_E) a_B)) a_E (a_V _))
   (a_F (a_N (d_Q (e_f (pv 1)) (d_G (C:=t.a_1r) (T.mk_1r) G_0 hr.mo rfl T.m_1r T.b_0 .nil a_O (a_A (pv 0) a_B)) (d_G (C:=t.a_21) (T.mk_21) G_0 hr.mo rfl T.m_21 T.b_0 .nil a_O (a_A (pv 0) a_B)))))
   b_z)
   (a_F (a_N (d_Q (e_f (pv 1)) (d_G (C:=t.a_22) (T.mk_22) G_0 hr.mo rfl T.m_22 T.b_0 .nil a_O (a_A (pv 0) a_B)) (d_G (C:=t.a_1w) (T.mk_1w) G_0 hr.mo rfl T.m_1w T.b_0 .nil a_O (a_A (pv 0) a_B)))))),?_⟩
  show tSeq _ _ _ [some (.ref p),some (.bl z)] H;refine st λ N1 e1=>?_;walk_at "r";refine c_I hD λ x hx=>⟨true,true,x,M,d,rfl,hx,kd.af.sq,kd.hd,kd.bm,λ H1 s1=>?_⟩;have ef:f_O d M=spn d M:=by unfold f_O; rw [if_pos hdt]
  rw [ef];have ew:wix d M ts=if spn d M=1 then (if c_E d M ts=true then 0 else 1) else (if c_E d M ts=true then 2 else 3):=by unfold wix; rw [if_neg hs,if_pos hdt]
  rw [ew,← ez] at hQ;have mk:∀ (C:Addr) (i:Nat),i < 9->(e_U t)[i]?=some C->(∀ a H',Same H H'->e_V H' a C p->Q (.ref a) H')->∀ x dx,H1 x=none->H1 dx=none->dx≠x->e_A t [.ref x,.ref p] (upd (upd H1 dx (.own x)) x (.ins C dx [])) (λ v H2=>v=.non/\Q (.ref x) H2) E0:=λ C i hi hC q x dx h1 h2 h3 =>
   ⟨x,C,dx,p,rfl,a_G,⟨i,hi,hC⟩,rfl,q x _ (s1.trans (g_D h1 h2 h3)) ⟨dx,a_G⟩⟩
  try walk_at "r"
  by_cases k1:spn d M=1
  ·rw [zW k1];rw [if_pos k1] at hQ;refine iteT ?_;cases z with
   | true=>exact iteT ⟨_,rfl,mk _ 0 (by decide) rfl λ a H' s' ha=>hQ a _ H' s' rfl ha⟩
   | false=>exact iteF ⟨_,rfl,mk _ 1 (by decide) rfl λ a H' s' ha=>hQ a _ H' s' rfl ha⟩
  ·rw [zX k1];rw [if_neg k1] at hQ;refine iteF ?_;subst e1;walk_at "r";cases z with
   | true=>exact iteT ⟨_,rfl,mk _ 2 (by decide) rfl λ a H' s' ha=>hQ a _ H' s' rfl ha⟩
   | false=>exact iteF ⟨_,rfl,mk _ 3 (by decide) rfl λ a H' s' ha=>hQ a _ H' s' rfl ha⟩
theorem ok_1b (T:Txt K mg t):FnOk P w K mg base CX0 6 t.a_1b t.d_1b pE' (sp_1b K t):=by
 have G_17:=@ok_17 P w K mg base t T;have G_0:=@ok_0 P w K mg base t T;refine T.F_1b.ok sc_1b (by walk_at "v") (λ cdv A outer s H vs Q E hr h=>?_)
 ·obtain ⟨p,z,M,ts,u,d,rfl,hD,kd,hs,ez,hdt,hQ⟩:=h;refine ⟨_,(a_C (a_P (i:=2) sc_1b.nd rfl (Or.inl rfl) (a_I G_17 hr.mo rfl T.m_17 T.F_17.kp T.b_17 .nil a_O (a_A (px (pv 0) a_E) a_B)))
   (a_C (b_R (a_T c_g (pv 2) a_E (a_V _))
   (a_F (a_N (d_G (C:=t.a_1s) (T.mk_1s) G_0 hr.mo rfl T.m_1s T.b_0 .nil a_O (a_A (pv 0) a_B))))
   b_z)
   (a_C (b_R (a_T h_j (pv 2) a_E (a_V _))
   (a_F (a_N (d_G (C:=t.a_1v) (T.mk_1v) G_0 hr.mo rfl T.m_1v T.b_0 .nil a_O (a_A (pv 0) a_B))))
   b_z)
   (a_F (a_N (d_Q (e_f (pv 1)) (d_G (C:=t.a_1q) (T.mk_1q) G_0 hr.mo rfl T.m_1q T.b_0 .nil a_O (a_A (pv 0) a_B)) (d_G (C:=t.a_1t) (T.mk_1t) G_0 hr.mo rfl T.m_1t T.b_0 .nil a_O (a_A (pv 0) a_B)))))))),?_⟩
  show tSeq _ _ _ [some (.ref p),some (.bl z),none] H;refine st λ N1 e1=>?_;walk_at "r";refine c_I hD λ x hx=>⟨true,true,x,M,d,rfl,hx,kd.af.sq,kd.hd,kd.bm,λ H1 s1=>?_⟩;have ef:f_O d M=spn d (negM M):=by unfold f_O; rw [if_neg hdt]
  rw [ef];have ew:wix d M ts=if spn d (negM M)=1 then 6 else if 2 < spn d (negM M) then 7 else if c_E d M ts=true then 4 else 5:=by unfold wix; rw [if_neg hs,if_neg hdt]
  rw [ew,← ez] at hQ;have mk:∀ (C:Addr) (i:Nat),i < 9->(e_U t)[i]?=some C->(∀ a H',Same H H'->e_V H' a C p->Q (.ref a) H')->∀ x dx,H1 x=none->H1 dx=none->dx≠x->e_A t [.ref x,.ref p] (upd (upd H1 dx (.own x)) x (.ins C dx [])) (λ v H2=>v=.non/\Q (.ref x) H2) E0:=λ C i hi hC q x dx h1 h2 h3 =>
   ⟨x,C,dx,p,rfl,a_G,⟨i,hi,hC⟩,rfl,q x _ (s1.trans (g_D h1 h2 h3)) ⟨dx,a_G⟩⟩
  subst e1;refine st λ N1 e1=>?_;walk_at "r"
  by_cases k1:spn d (negM M)=1
  ·rw [zW k1];rw [if_pos k1] at hQ;exact iteT ⟨_,rfl,mk _ 6 (by decide) rfl λ a H' s' ha=>hQ a _ H' s' rfl ha⟩
  rw [zX k1];rw [if_neg k1] at hQ;refine iteF ?_;subst e1;refine st λ N1 e1=>?_;walk_at "r"
  by_cases k2:2 < spn d (negM M)
  ·rw [zW k2];rw [if_pos k2] at hQ;exact iteT ⟨_,rfl,mk _ 7 (by decide) rfl λ a H' s' ha=>hQ a _ H' s' rfl ha⟩
  rw [zX k2];rw [if_neg k2] at hQ;refine iteF ?_;subst e1;walk_at "r";cases z with
  | true=>exact iteT ⟨_,rfl,mk _ 4 (by decide) rfl λ a H' s' ha=>hQ a _ H' s' rfl ha⟩
  | false=>exact iteF ⟨_,rfl,mk _ 5 (by decide) rfl λ a H' s' ha=>hQ a _ H' s' rfl ha⟩
theorem ok_1i (T:Txt K mg t):FnOk P w K mg base CX0 12 t.a_1i t.d_1i ["one"] (sp_1i K t):=by
 have G_x:=@ok_x P w K mg base t T;have G_l:=@ok_l P w K mg base t T;have G_r:=@ok_r P w K mg base t T;have G_1b:=@ok_1b P w K mg base t T;have G_0:=@ok_0 P w K mg base t T;refine T.F_1i.ok sc_1i (by walk_at "v") (λ cdv A outer s H vs Q E hr h=>?_)
 ·obtain ⟨p,M,ts,u,d,rfl,hD,kd,hQ⟩:=h;have G_1:FnOk P w K mg base CX0 (d+1) t.a_1 t.d_1 pK' (sp_1 K d):=ok_1 T d;obtain ⟨n,en⟩:∃ n,n=d:=⟨d,rfl⟩;rw [← en] at G_1;have hn3:n<=3:=by have:=kd.hd; omega
  refine ⟨_,(a_C (a_P (i:=1) sc_1i.nd rfl (Or.inl rfl) (a_I G_x hr.mo rfl T.m_x T.F_x.kp T.b_x .nil a_O (a_A (pv 0) a_B)))
   (a_C (b_R (a_T h_w (pv 1) f_P (a_V _))
   (a_F (a_N (d_G (C:=t.a_1g) (T.mk_1g) G_0 hr.mo rfl T.m_1g T.b_0 .nil a_O (a_A (pv 0) a_B))))
   b_z)
   (a_C (b_R (a_T c_g (a_I G_1 hr.mo rfl T.m_1 T.F_1.kp T.b_1 .nil a_O (a_A (px (pv 0) a_E) a_B)) a_E (a_V _))
   (a_F (a_N (a_I G_r hr.mo rfl T.m_r T.F_r.kp T.b_r .nil a_O (a_A (pv 0) (a_A (a_I G_l hr.mo rfl T.m_l T.F_l.kp T.b_l .nil a_O (a_A (pv 1) a_B)) a_B)))))
   b_z)
   (a_F (a_N (a_I G_1b hr.mo rfl T.m_1b T.F_1b.kp T.b_1b .nil a_O (a_A (pv 0) (a_A (a_I G_l hr.mo rfl T.m_l T.F_l.kp T.b_l .nil a_O (a_A (pv 1) a_B)) a_B)))))))),?_⟩
  show tSeq _ _ _ [some (.ref p),none] H;refine st λ N1 e1=>?_;walk_at "r";subst en;refine ⟨p,M,ts,u,n,rfl,hD,kd,λ v H1 s1 hv=>?_⟩;subst e1;refine st λ N1 e1=>?_;walk_at "r";rcases hv with ⟨z,rfl⟩ | ⟨z,r,rfl,hP⟩
  ·rw [zW rfl];refine iteT ⟨_,rfl,λ x dx h1 h2 h3=>?_⟩;have ew:wix n M ts=8:=by unfold wix; rw [if_pos z]
   rw [ew] at hQ;exact ⟨x,_,dx,p,rfl,a_G,⟨8,by decide,rfl⟩,rfl,hQ x _ _ (s1.trans (g_D h1 h2 h3)) rfl ⟨dx,a_G⟩⟩
  ·rw [zX (λ q=>by cases q)];refine iteF ?_;subst e1;refine st λ N1 e1=>?_;walk_at "r";refine c_I (hD.up s1) λ x hx=>g_x (by have:=kd.hd; omega) (by omega) hx kd.af.sq kd.bm (by decide) λ H2 s2=>?_
   try walk_at "r"
   by_cases k1:detM n M=1
   ·rw [zW k1];refine iteT ⟨r,_,_,rfl,hP.up s2,?_⟩;rw [g_C kd z];exact ⟨p,_,M,ts,u,n,rfl,(hD.up s1).up s2,kd,z,rfl,k1,λ a C H' s'=>hQ a C H' ((s1.trans s2).trans s')⟩
   ·rw [zX k1];refine iteF ?_;subst e1;walk_at "r";refine ⟨r,_,_,rfl,hP.up s2,?_⟩;rw [g_C kd z];exact ⟨p,_,M,ts,u,n,rfl,(hD.up s1).up s2,kd,z,rfl,k1,λ a C H' s'=>hQ a C H' ((s1.trans s2).trans s')⟩
theorem s_F (a b:Int):gcdI (b.fmod a) a=gcdI a b:=by
 unfold gcdI;have:=i_F b a;rw [Int.gcd_comm,this,Int.gcd_comm]
theorem ok_q (T:Txt K mg t):FnOk P w K mg base CX0 1 t.a_q t.d_q pk' sp_q:=by
 refine T.F_q.ok sc_q (by walk_at "v") (λ cdv A outer s H vs Q E hr h=>?_)
 ·obtain ⟨a,b,rfl,sa,hQ⟩:=h;refine ⟨_,(a_C (e_K zG (a_T d_T (pv 0) a_E (a_V _))
   (a_F (r_A (i:=0) (j:=1) rfl sc_q.nd rfl rfl (by decide) rfl rfl (a_A (a_L b_S (pv 1) (pv 0)) (a_A (pv 0) a_B)) rfl)))
   (a_F (a_N (a_Q e_n rfl T.z_abs (by decide +kernel) (a_A (pv 1) a_B))))),?_⟩
  show tSeq _ _ _ [some (.int a),some (.int b)] H;refine st λ N1 e1=>f_W λ B eB=>?_;refine ⟨λ m σ H1=>∃ x y,σ=[some (.int x),some (.int y)]/\H1=H/\gcdI x y=gcdI a b/\0<=x/\m=x.natAbs,⟨_,a,b,rfl,rfl,rfl,sa,rfl⟩,?_⟩;rintro m σ H1 ⟨x,y,rfl,rfl,e,hx0,rfl⟩;walk_at "r"
  by_cases z:x=0
  ·rw [zW z];refine iteF ?_;subst e1;walk_at "r";have e2:(if y < 0 then -y else y)=gcdI a b:=by
    rw [← e,z];unfold gcdI;rw [Int.gcd_zero_left];split <;> omega
   rw [e2];exact hQ
  ·rw [zX z];refine iteT ⟨λ σ' H'=>σ'=[some (.int (y.fmod x)),some (.int x)]/\H'=H1,?_,?_⟩
   ·rintro σ' H' ⟨rfl,rfl⟩;have h1:=Int.fmod_nonneg_of_pos y (show 0 < x by omega);have h2:=Int.fmod_lt_of_pos y (show 0 < x by omega);exact ⟨(y.fmod x).natAbs,by omega,_,_,rfl,rfl,by rw [s_F]; exact e,h1,rfl⟩
   ·subst eB;walk_at "r";exact z
@[irreducible] noncomputable def S_first_0:Stmt:=(b_L s_8).getD 0 (.Pass ⟨0,0,0,0⟩)
@[irreducible] noncomputable def S_first_1:Stmt:=(b_L s_8).getD 1 (.Pass ⟨0,0,0,0⟩)
@[irreducible] noncomputable def S_first_2:Stmt:=(b_L s_8).getD 2 (.Pass ⟨0,0,0,0⟩)
@[reducible] noncomputable def S_first_3:Stmt:=(b_L s_8).getD 3 (.Pass ⟨0,0,0,0⟩)
@[irreducible] noncomputable def S_first_4:Stmt:=(b_L s_8).getD 4 (.Pass ⟨0,0,0,0⟩)
@[irreducible] noncomputable def S_first_5:Stmt:=(b_L s_8).getD 5 (.Pass ⟨0,0,0,0⟩)
@[irreducible] noncomputable def S_first_6:Stmt:=(b_L s_8).getD 6 (.Pass ⟨0,0,0,0⟩)
@[irreducible] noncomputable def S_first_7:Stmt:=(b_L s_8).getD 7 (.Pass ⟨0,0,0,0⟩)
@[irreducible] noncomputable def S_first_8:Stmt:=(b_L s_8).getD 8 (.Pass ⟨0,0,0,0⟩)
@[irreducible] noncomputable def S_first_9:Stmt:=(b_L s_8).getD 9 (.Pass ⟨0,0,0,0⟩)
@[irreducible] noncomputable def S_first_10:Stmt:=(b_L s_8).getD 10 (.Pass ⟨0,0,0,0⟩)
@[irreducible] noncomputable def S_first_11:Stmt:=(b_L s_8).getD 11 (.Pass ⟨0,0,0,0⟩)
@[reducible] noncomputable def S_first_12:Stmt:=(b_L s_8).getD 12 (.Pass ⟨0,0,0,0⟩)
@[reducible] noncomputable def S_first_13:Stmt:=(b_L s_8).getD 13 (.Pass ⟨0,0,0,0⟩)
@[reducible] noncomputable def S_first_14:Stmt:=(b_L s_8).getD 14 (.Pass ⟨0,0,0,0⟩)
theorem r_a:b_L s_8=[S_first_0,S_first_1,S_first_2,S_first_3,S_first_4,S_first_5,S_first_6,S_first_7,S_first_8,S_first_9,S_first_10,S_first_11,S_first_12,S_first_13,S_first_14]:=by kernel_rfl
theorem p_F {X:Cx} {b b2:List Stmt} {u:TS} (h:b=b2) (p:PSs X b2 u):PSs X b u:=by rw [h]; exact p
theorem ok_8 (T:Txt K mg t):FnOk P w K mg base CX0 1 t.a_8 t.d_8 pJ' (sp_8 K):=by
 refine T.F_8.ok sc_8 (by walk_at "v") (λ cdv A outer s H vs Q E hr h=>?_)
 ·obtain ⟨c,rfl,q⟩:=h;refine ⟨_,(p_F r_a (a_C (i_B (i:=1) (x := "_law_plane") (Ms:=[[[1,0],[0,1]],[[-1,0],[0,-1]],[[0,-1],[1,0]],[[0,-1],[1,-1]],[[1,-1],[1,0]]]) (by decide +kernel) sc_8.nd rfl rfl)
   (a_C (c_F (i:=1) (j:=1) (y := "_law_plane") (x := "_law_plane") (Ms:=[[[-1,0],[0,1]],[[0,1],[1,0]],[[1,1],[0,1]],[[2,1],[1,1]],[[1,1],[1,0]]]) (by decide +kernel) sc_8.nd rfl rfl rfl (Or.inl rfl) (by decide) (by decide))
   (a_C (c_F (i:=1) (j:=1) (y := "_law_plane") (x := "_law_plane") (Ms:=[[[0,1],[1,3]],[[-1,1],[0,-1]]]) (by decide +kernel) sc_8.nd rfl rfl rfl (Or.inl rfl) (by decide) (by decide))
   (a_C (b_R (a_T c_g (a_L b_S (pv 0) a_E) a_E (a_V _))
   (a_F (a_N (px (pv 1) (a_L b_S (a_L b_N (pv 0) a_E) a_E))))
   b_z)
   (a_C (i_B (i:=2) (x := "_law_space") (Ms:=[[[1,0,0],[0,1,0],[0,0,1]],[[-1,0,0],[0,-1,0],[0,0,1]]]) (by decide +kernel) sc_8.nd rfl rfl)
   (a_C (c_F (i:=2) (j:=2) (y := "_law_space") (x := "_law_space") (Ms:=[[[0,-1,0],[1,-1,0],[0,0,1]],[[0,-1,0],[1,0,0],[0,0,1]]]) (by decide +kernel) sc_8.nd rfl rfl rfl (Or.inl rfl) (by decide) (by decide))
   (a_C (c_F (i:=2) (j:=2) (y := "_law_space") (x := "_law_space") (Ms:=[[[1,-1,0],[1,0,0],[0,0,1]],[[0,0,1],[1,0,0],[0,1,0]]]) (by decide +kernel) sc_8.nd rfl rfl rfl (Or.inl rfl) (by decide) (by decide))
   (a_C (c_F (i:=2) (j:=2) (y := "_law_space") (x := "_law_space") (Ms:=[[[0,1,0],[1,0,0],[0,0,-1]],[[0,0,-1],[0,1,0],[1,0,0]]]) (by decide +kernel) sc_8.nd rfl rfl rfl (Or.inl rfl) (by decide) (by decide))
   (a_C (c_F (i:=2) (j:=2) (y := "_law_space") (x := "_law_space") (Ms:=[[[-1,0,1],[0,-1,1],[0,0,1]],[[1,0,0],[0,1,1],[0,0,1]]]) (by decide +kernel) sc_8.nd rfl rfl rfl (Or.inl rfl) (by decide) (by decide))
   (a_C (c_F (i:=2) (j:=2) (y := "_law_space") (x := "_law_space") (Ms:=[[[0,0,1],[1,0,1],[0,1,0]],[[0,1,0],[0,1,-1],[-1,1,0]]]) (by decide +kernel) sc_8.nd rfl rfl rfl (Or.inl rfl) (by decide) (by decide))
   (a_C (c_F (i:=2) (j:=2) (y := "_law_space") (x := "_law_space") (Ms:=[[[-1,1,0],[0,-1,0],[0,0,1]],[[0,0,1],[1,0,0],[0,1,1]]]) (by decide +kernel) sc_8.nd rfl rfl rfl (Or.inl rfl) (by decide) (by decide))
   (a_C (c_F (i:=2) (j:=2) (y := "_law_space") (x := "_law_space") (Ms:=[[[0,0,1],[1,0,0],[0,1,2]]]) (by decide +kernel) sc_8.nd rfl rfl rfl (Or.inl rfl) (by decide) (by decide))
   (a_C (a_P (i:=3) sc_8.nd rfl (Or.inl rfl) (px (pv 2) (a_L b_S (a_L b_N (pv 0) a_E) a_E)))
   (a_C (b_R (a_T c_g (a_L b_S (a_L b_N (pv 0) a_E) a_E) a_E (a_V _))
   (a_F (a_N (a_X (xs:=["_law_row"]) (fr:=[]) (g:=(a_M 0)) (tt:=(tEl (b_X (iSeq K (tVar 0)) (a_M 0) (tEl (tUn (rU λ i=>.int (-i)) (tVar 0))) 1 []))) (a_R (sc:=a_D s_8) (N:=N_8) rfl rfl (by decide +kernel)) rfl (b_M (pv 3)) (λ _ _ _ hE1=>(a_Y (N:=["_law_row"]) (i:=0) hE1 rfl (by decide +kernel))) (λ _ _ _ hE1=>(b_J (a_X (xs:=["_law_number"]) (fr:=[]) (g:=(a_M 0)) (tt:=(tEl (tUn (rU λ i=>.int (-i)) (tVar 0)))) (a_R (N:=["_law_row"]) hE1 rfl (by decide +kernel)) rfl (b_M (pv 0)) (λ _ _ _ hE2=>(a_Y (N:=["_law_number"]) (i:=0) hE2 rfl (by decide +kernel))) (λ _ _ _ hE2=>(b_J (e_D d_L (pv 0))))))))))
   b_z)
   (a_F (a_N (pv 3)))))))))))))))))),?_⟩
  show tSeq _ _ _ [some (.int c),none,none,none] H;have dv:∀ x y:Int,y≠0->y.natAbs < 1073741824->f_K x y:=λ x y h1 h2=>⟨h1,zI ((Nat.log2_lt (by omega)).mpr (show y.natAbs < 2 ^ 30 from h2)) (by decide)⟩;have fm:∀ (x y:Int),0 < y->0<=x.fmod y/\x.fmod y < y:=λ x y h=>⟨Int.fmod_nonneg_of_pos x h,Int.fmod_lt_of_pos x h⟩;refine st λ N1 e1=>?_;refine λ p0 Hp0 sp0 hp0=>?_;show N1 [some (.int c),some (.ref p0),none,none] Hp0;subst e1;refine st λ N1 e1=>?_;refine ⟨_,rfl,λ xp1 Gp1 tp1 gp1=>Mats.cat (hp0.up tp1) gp1 (by decide) λ p1 Hp1 up1 hp1=>?_⟩;have sp1:Same H Hp1:=(sp0.trans tp1).trans up1;show N1 [some (.int c),some (.ref p1),none,none] Hp1;subst e1;refine st λ N1 e1=>?_;refine ⟨_,rfl,λ xp2 Gp2 tp2 gp2=>Mats.cat (hp1.up tp2) gp2 (by decide) λ p2 Hp2 up2 hp2=>?_⟩;have sp2:Same H Hp2:=(sp1.trans tp2).trans up2;show N1 [some (.int c),some (.ref p2),none,none] Hp2;subst e1;have m2:∀ (i:Nat) (M:LM),g_d[i]?=some M->M∈menu:=λ i M e=>List.mem_append_left _ (List.mem_append_left _ (zqb e));refine st λ N1 e1=>?_;walk_at "r";refine ⟨by decide,ite2 (λ zc=>?_) (λ zc=>?_)⟩
  ·refine ⟨dv c 2 (by decide) (by decide),by decide,?_⟩;have f1:=fm (c.fdiv 2) 12 (by decide);generalize (c.fdiv 2).fmod 12=k at f1;have hk:k.toNat < g_d.length:=by show _ < 12; omega
   exact Mats.at (Ms:=g_d) (i:=k.toNat) (M:=g_d[k.toNat]) hp2 (by simp [hk]) (by omega) λ r hr=>q r _ _ sp2 hr (m2 k.toNat _ (by simp [hk])) (by rw [zY zc,i_T _ (yA hk)]; rfl)
  subst e1;refine st λ N1 e1=>?_;refine λ w0 Hw0 sw0 hw0=>?_;show N1 [some (.int c),some (.ref p2),some (.ref w0),none] Hw0;subst e1;refine st λ N1 e1=>?_;refine ⟨_,rfl,λ xw1 Gw1 tw1 gw1=>Mats.cat (hw0.up tw1) gw1 (by decide) λ w1 Hw1 uw1 hw1=>?_⟩;have sw1:Same Hp2 Hw1:=(sw0.trans tw1).trans uw1;show N1 [some (.int c),some (.ref p2),some (.ref w1),none] Hw1;subst e1;refine st λ N1 e1=>?_;refine ⟨_,rfl,λ xw2 Gw2 tw2 gw2=>Mats.cat (hw1.up tw2) gw2 (by decide) λ w2 Hw2 uw2 hw2=>?_⟩;have sw2:Same Hp2 Hw2:=(sw1.trans tw2).trans uw2;show N1 [some (.int c),some (.ref p2),some (.ref w2),none] Hw2;subst e1;refine st λ N1 e1=>?_;refine ⟨_,rfl,λ xw3 Gw3 tw3 gw3=>Mats.cat (hw2.up tw3) gw3 (by decide) λ w3 Hw3 uw3 hw3=>?_⟩;have sw3:Same Hp2 Hw3:=(sw2.trans tw3).trans uw3;show N1 [some (.int c),some (.ref p2),some (.ref w3),none] Hw3;subst e1;refine st λ N1 e1=>?_;refine ⟨_,rfl,λ xw4 Gw4 tw4 gw4=>Mats.cat (hw3.up tw4) gw4 (by decide) λ w4 Hw4 uw4 hw4=>?_⟩;have sw4:Same Hp2 Hw4:=(sw3.trans tw4).trans uw4;show N1 [some (.int c),some (.ref p2),some (.ref w4),none] Hw4;subst e1;refine st λ N1 e1=>?_;refine ⟨_,rfl,λ xw5 Gw5 tw5 gw5=>Mats.cat (hw4.up tw5) gw5 (by decide) λ w5 Hw5 uw5 hw5=>?_⟩;have sw5:Same Hp2 Hw5:=(sw4.trans tw5).trans uw5;show N1 [some (.int c),some (.ref p2),some (.ref w5),none] Hw5;subst e1;refine st λ N1 e1=>?_;refine ⟨_,rfl,λ xw6 Gw6 tw6 gw6=>Mats.cat (hw5.up tw6) gw6 (by decide) λ w6 Hw6 uw6 hw6=>?_⟩;have sw6:Same Hp2 Hw6:=(sw5.trans tw6).trans uw6;show N1 [some (.int c),some (.ref p2),some (.ref w6),none] Hw6;subst e1;refine st λ N1 e1=>?_;refine ⟨_,rfl,λ xw7 Gw7 tw7 gw7=>Mats.cat (hw6.up tw7) gw7 (by decide) λ w7 Hw7 uw7 hw7=>?_⟩;have sw7:Same Hp2 Hw7:=(sw6.trans tw7).trans uw7;show N1 [some (.int c),some (.ref p2),some (.ref w7),none] Hw7;subst e1;have m3:∀ (i:Nat) (M:LM),e_F[i]?=some M->M∈menu/\negM M∈menu:=λ i M e=>⟨List.mem_append_left _ (zZ _ (zqb e)),zZ _ (List.mem_map.mpr ⟨M,zqb e,rfl⟩)⟩;have sl:Same H Hw7:=sp2.trans sw7;refine st λ N1 e1=>?_;walk_at "r";refine ⟨dv c 4 (by decide) (by decide),by decide,?_⟩;have f1:=fm (c.fdiv 4) 15 (by decide);generalize (c.fdiv 4).fmod 15=k at f1;have hk:k.toNat < e_F.length:=by show _ < 15; omega
  refine Mats.at (Ms:=e_F) (i:=k.toNat) (M:=e_F[k.toNat]) hw7 (by simp [hk]) (by omega) λ r hr0=>?_;obtain ⟨mm1,mm2⟩:=m3 k.toNat e_F[k.toNat] (by simp [hk]);have ml:(e_F[k.toNat].length:Int)=2+c.fmod 2:=by
   have f2:=fm c 2 (by decide);have n0:¬ c.fmod 2=0:=λ q=>zc (zW q);rw [g_B _ (yA hk)];omega
  generalize e_F[k.toNat]=M at hr0 mm1 mm2 ml;obtain ⟨_,sqM,_⟩:=j_m mm1;have hMl:M.length<=1000:=by rcases (j_m mm1).1 with e | e <;> omega
  subst e1;refine st λ N1 e1=>?_;walk_at "r";refine ⟨dv c 2 (by decide) (by decide),by decide,ite2 (λ _=>?_) (λ _=>?_)⟩
  ·refine a_S λ B eB=>?_;simp only [iSeq];walk_at "r";obtain ⟨xs,x1,x2,x3⟩:=(hr0.b (K:=K)).walk;refine ⟨false,⟨_,x1⟩,λ a1 ha1=>?_⟩;refine c_h (RowR a1 λ j=>(M.getD j []).map λ x=>-x) ha1 x1 (by omega) (RowR.mono (a:=a1)) ?_ ?_
   ·intro i x H2 zs ex s2 ez Q' hQ';obtain ⟨p,rr,rfl,er,hp⟩:=x3 i x ex;have hrl:rr.length<=1000:=by rw [sqM.2 rr (zqb er)]; exact hMl
    subst eB;show b_X _ _ _ _ _ [some (.ref p)] H2 Q';refine a_S λ B eB=>?_;simp only [iSeq];walk_at "r";refine ⟨false,⟨_,hp.up s2⟩,λ a2 ha2=>?_⟩;refine c_h (λ j y _=>∃ x,rr[j]?=some x/\y=.int (-x)) ha2 (hp.up s2) (by rw [zqe]; exact hrl) (λ _ _ _ _ r _=>r) ?_ ?_
    ·intro j y H3 zs3 ey s3 ez3 Q2 hQ2;obtain ⟨x,ex,rfl⟩:=c_c ey;subst eB;show tUn _ _ [some (.int x)] H3 Q2;walk_at "r";exact hQ2 _ _ (Same.refl _) ⟨x,ex,rfl⟩
    ·intro H3 ys s3 e3 hly hr3;have ey:ys=(rr.map λ x=>-x).map V.int:=by
      refine b_K (by simpa using hly) λ j y e=>?_;obtain ⟨x,ex,rfl⟩:=hr3 j y e;exact ⟨-x,by rw [zH,ex]; rfl,rfl⟩
     subst ey;refine hQ' _ _ s3 ⟨a2,rfl,Ne.symm (a_J ez ha2),?_⟩;dsimp only;rw [zqc,er];exact e3
   ·intro H2 ys s2 e2 hly hr2;have:=MatL.of e2 hr2;have e:(List.range ys.length).map (λ j=>(M.getD j []).map λ x=>-x)=negM M:=by
     rw [hly,x2];unfold negM;refine yG (by simp) λ i h1 h2=>?_;simp at h1;simp [h1]
    rw [e] at this;exact q a1 H2 _ (sl.trans s2) this mm2 (by unfold negM; rw [zqe]; exact ml)
  ·subst e1;walk_at "r";exact q r _ M sl hr0 mm1 ml
theorem r_b {u:Int} (hu:0 < u) (ns:List Int) {i:Nat} {n:Int} (h:ns[i]?=some n):gl u (ns.take (i+1))=gcdI (gl u (ns.take i)) n:=by
 unfold gl;rw [g_w h,List.foldl_append];rfl
theorem ok_k (T:Txt K mg t):FnOk P w K mg base CX0 2 t.a_k t.d_k ph' (sp_k K):=by
 have G_q:=@ok_q P w K mg base t T;refine T.F_k.ok sc_k (by walk_at "v") (λ cdv A outer s H vs Q E hr h=>?_)
 ·obtain ⟨b,a,ns,u,rfl,hS,hl,hu,su,hQ⟩:=h;refine ⟨_,(a_C (a_P (i:=2) sc_k.nd rfl (Or.inr rfl) (pv 1))
   (a_C (c_A zG rfl (b_M (pv 0)) (b_E (i:=3) sc_k.nd rfl (Or.inl rfl))
   (a_F (a_P (i:=2) sc_k.nd rfl (Or.inr rfl) (a_I G_q hr.mo rfl T.m_q T.F_q.kp T.b_q .nil a_O (a_A (pv 2) (a_A (pv 3) a_B))))))
   (a_F (a_N (c_T (a_A (b_T d_C rfl T.z_tuple (by decide +kernel) (a_A (a_X (xs:=["_law_top"]) (fr:=[("_law_by",2)]) (g:=(a_M 0)) (tt:=(tEl (tOp (rI f_K λ i j=>.int (i.fdiv j)) (tVar 0) (tVar 1)))) (a_R (sc:=a_D s_k) (N:=N_k) rfl rfl (by decide +kernel)) rfl (b_M (pv 0)) (λ _ _ _ hE1=>(a_Y (N:=["_law_top","_law_by"]) (i:=0) hE1 rfl (by decide +kernel))) (λ _ _ _ hE1=>(b_J (a_L b_N (pv 0) (pv 1))))) a_B)) (a_A (a_L b_N (pv 1) (pv 2)) a_B))))))),?_⟩
  show tSeq _ _ _ [some (.ref a),some (.int u),none,none] H;have g0:gl u []=u:=by unfold gl absI; rw [if_neg (by omega)]; rfl
  refine st λ N1 e1=>?_;walk_at "r";subst e1;refine st λ N1 e1=>c_C λ B eB=>?_;simp only [iSeq];walk_at "r";refine ⟨b,⟨_,hS⟩,?_⟩;refine g_u (b:=b) (g:=a_M 3) (tb:=B) (λ i σ H1=>∃ v3,σ=[some (.ref a),some (.int u),some (.int (gl u (ns.take i))),v3]/\H1=H) ⟨none,by rw [List.take_zero,g0],rfl⟩ (λ i σ H1 _ ⟨_,_,e⟩=>e ▸ hS) ?_ ?_
  ·rintro i x σ H1 ex ⟨v3,rfl,rfl⟩;obtain ⟨n,en,rfl⟩:=c_c ex;subst eB;show tAsg _ _ _ [some (.ref a),some (.int u),some (.int (gl u (ns.take i))),some (.int n)] H1;walk_at "r";refine ⟨_,_,rfl,d_P _ _,?_⟩;rw [r_b hu ns en];exact ⟨rfl,rfl⟩
  ·rintro σ H1 ⟨v3,rfl,rfl⟩;rw [zqe,List.take_length];have gp:=k_S ns (show u≠0 by omega);have ec:cs u ns=gl u ns:=by unfold cs; rw [if_neg (by omega)]
   have cd:∀ x,f_K x (gl u ns):=λ x=>⟨by omega,i_G (i_H su (by omega) (gl_u u ns)) (by omega)⟩;subst e1;walk_at "r";refine a_S λ B2 eB2=>?_;simp only [iSeq];walk_at "r";refine ⟨b,⟨_,hS⟩,λ a1 ha1=>?_⟩;refine c_h (λ j y _=>∃ n,ns[j]?=some n/\y=.int (n.fdiv (gl u ns))) ha1 hS (by rw [zqe]; omega) (λ _ _ _ _ r _=>r) ?_ ?_
   ·intro i x H3 zs ex s3 ez Q' hQ';obtain ⟨n,en,rfl⟩:=c_c ex;subst eB2;show tOp _ _ _ [some (.int n),some (.int (gl u ns))] H3 Q';walk_at "r";exact ⟨cd _,hQ' _ _ (Same.refl _) ⟨n,en,rfl⟩⟩
   ·intro H3 zs s3 ez hlz hR;have ez2:zs=(redT u ns).map V.int:=by
     unfold redT;rw [List.map_map,ec];exact b_K (by simpa using hlz) hR
    subst ez2;refine ⟨a1,_,rfl,.inl ⟨SqL.of ez,λ q hq=>⟨cd _,by show 2<=sizeLine; decide,λ p hp=>hQ p _ (s3.trans ((Same.new hq).trans (Same.new hp))) ⟨q,?_,(Same.new hp) _ _ a_G⟩⟩⟩⟩;rw [a_G];unfold redU;rw [ec]
theorem ok_1a (T:Txt K mg t):FnOk P w K mg base CX0 1 t.a_1a t.d_1a pe' (sp_1a K):=by
 refine T.F_1a.ok sc_1a (by walk_at "v") (λ cdv A outer s H vs Q E hr h=>?_)
 ·obtain ⟨b1,b2,b3,a,l,MA,ns,d,rfl,hA,hS,sA,hd,hl,bA,bn,hQ⟩:=h;refine ⟨_,(a_F (a_N (a_X (xs:=["_law_row"]) (fr:=[("_law_tops_here",1)]) (g:=(a_M 0)) (tt:=(tEl (tCB (λ xs H Q=>∃ (p:Addr) (ns:List Int),xs=[.ref p]/\SqL K H p (ns.map V.int)/\Q (.int ns.sum) H) (b_D (b_X (c_w (b_D (tCB (f_Z K) (b_D (tVar 0) tNil)) tNil)) (a_M 0) (tEl (tOp (rI (λ i j=>IntMulOk i j) λ i j=>.int (i*j)) (tOp (rIxB K) (tVar 1) (tVar 0)) (tOp (rIxB K) (tVar 2) (tVar 0)))) 1 [("_law_row",0),("_law_tops_here",1)]) tNil)))) (a_R (sc:=a_D s_1a) (N:=N_1a) rfl rfl (by decide +kernel)) rfl (b_M (pv 0)) (λ _ _ _ hE1=>(d_Z (N:=["_law_row","_law_tops_here"]) (i:=0) hE1 rfl (by decide +kernel) rfl)) (λ _ _ _ hE1=>(b_J (a_Q (e_R rfl) rfl T.z_sum (by decide +kernel) (a_A (a_X (xs:=["_law_k"]) (fr:=[("_law_row",0),("_law_tops_here",1)]) (g:=(a_M 0)) (tt:=(tEl (tOp (rI (λ i j=>IntMulOk i j) λ i j=>.int (i*j)) (tOp (rIxB K) (tVar 1) (tVar 0)) (tOp (rIxB K) (tVar 2) (tVar 0))))) (a_R (N:=["_law_row","_law_tops_here"]) hE1 rfl (by decide +kernel)) rfl (b_I rfl T.z_range (a_A (a_Q a_U rfl T.z_len (by decide +kernel) (a_A (pv 0) a_B)) a_B)) (λ _ _ _ hE2=>(a_Y (N:=["_law_k","_law_row","_law_tops_here"]) (i:=0) hE2 rfl (by decide +kernel))) (λ _ _ _ hE2=>(b_J (a_L b_C (px (pv 1) (pv 0)) (px (pv 2) (pv 0)))))) a_B))))))),?_⟩;show tRet _ _ [some (.ref a),some (.ref l)] H;walk_at "r";refine a_S λ B eB=>?_;simp only [iSeq];walk_at "r";obtain ⟨xs,x1,x2,x3⟩:=hA.walk;refine ⟨b1,⟨_,x1⟩,λ a1 ha1=>?_⟩;refine c_h (λ j y _=>∃ r,MA[j]?=some r/\y=.int (dotI r ns)) ha1 x1 (by rw [x2,sA.1]; omega) (λ _ _ _ _ r _=>r) ?_ ?_
  ·intro i x H2 zs ex s2 ez Q' hQ';obtain ⟨p,r,rfl,er,hp⟩:=x3 i x ex;have hrl:r.length=d:=sA.2 r (zqb er);subst eB;show tCB _ _ [some (.ref p),some (.ref l)] H2 Q';walk_at "r";refine a_S λ B0 eB=>?_;simp only [c_w];walk_at "r";refine c_s (hp.up s2) ⟨_,rfl,by omega,by omega,λ a2 ha2=>?_⟩;rw [zR,hrl];refine c_l (λ k y _=>∃ x,(List.zipWith (·*·) r ns)[k]?=some x/\y=.int x) ha2 (by omega) (λ _ _ _ _ r _=>r) ?_ ?_
   ·intro k H3 zs3 hk s3 ez3 Q2 hQ2;have hkr:k < r.length:=by omega
    have hkn:k < ns.length:=by omega
    subst eB;show tOp _ _ _ [some (.int (0+(k:Int))),some (.ref p),some (.ref l)] H3 Q2;walk_at "r";refine ⟨b2,p,_,_,_,rfl,rfl,(hp.up s2).up s3,b_Y (c_N (getD_at hkr)) (by omega),?_⟩;refine ⟨b3,l,_,_,_,rfl,rfl,(hS.up s2).up s3,b_Y (c_N (getD_at hkn)) (by omega),?_⟩
    try walk_at "r"
    refine ⟨mulOk_of_bits (b_G (bA r (zqb er) _ (L2.getD_mem hkr))) (b_G (bn _ (L2.getD_mem hkn))) (by decide),hQ2 _ _ (Same.refl _) ⟨_,?_,rfl⟩⟩;rw [List.getElem?_zipWith,L2.getD_at hkr,L2.getD_at hkn]
   ·intro H3 ys s3 e3 hly hr3;have ey:ys=(List.zipWith (·*·) r ns).map V.int:=by
     refine b_K (by simp; omega) λ k y e=>?_;obtain ⟨x,ex,rfl⟩:=hr3 k y e;exact ⟨x,ex,rfl⟩
    subst ey;exact ⟨a2,rfl,_,SqL.of e3,hQ' _ _ s3 ⟨r,er,rfl⟩⟩
  ·intro H2 ys s2 e2 hly hr2;have ey:ys=(mv MA ns).map V.int:=by
    unfold mv;rw [List.map_map];exact b_K (by omega) hr2
   subst ey;exact hQ a1 H2 s2 ha1 e2
theorem ok_m (T:Txt K mg t):FnOk P w K mg base CX0 2 t.a_m t.d_m pm' (sp_m t):=by
 have G_23:=@ok_23 P w K mg base t T;refine T.F_m.ok sc_m (by walk_at "v") (λ cdv A outer s H vs Q E hr h=>?_)
 ·obtain ⟨x,l,c,L,C,i,j,q,xi,xj,ci,cj,rfl,S,exi,exj,eci,ecj,hl,hz,hl2,hz2,hm,hm2,hQ⟩:=h;obtain ⟨⟨dx,ob⟩,li,co,ne,l0,c0⟩:=S;refine ⟨_,(a_C (d_B (a_I G_23 hr.mo rfl T.m_23 T.F_23.kp T.b_23 .nil a_O (a_A (px (b_W (pv 0) rfl) (pv 1)) (a_A (px (b_W (pv 0) rfl) (pv 2)) (a_A (pv 3) a_B)))) (e_J (b_W (pv 0) rfl) (pv 1) d_I))
   (a_F (d_B (a_I G_23 hr.mo rfl T.m_23 T.F_23.kp T.b_23 .nil a_O (a_A (px (b_W (pv 0) rfl) (pv 2)) (a_A (px (b_W (pv 0) rfl) (pv 1)) (a_A (e_D d_L (pv 3)) a_B)))) (e_J (b_W (pv 0) rfl) (pv 2) d_I)))),?_⟩
  show tSeq _ _ _ [some (.ref x),some (.int i),some (.int j),some (.int q)] H;have lnl:=T.h_2s;have lnc:=T.h_1t;obtain ⟨ps,h1,h2,h3⟩:=id li;obtain ⟨qs,k1,k2,k3⟩:=id co;have il:=(zqa exi).1;have jl:=(zqa exj).1;have ic:=(zqa eci).1;have jc:=(zqa ecj).1;have ps0:ps≠[]:=λ z=>l0 (zO (by rw [← h2,z]; rfl));have qs0:qs≠[]:=λ z=>c0 (zO (by rw [← k2,z]; rfl));obtain ⟨pi,hpi⟩:∃ p,ps[i]?=some p:=⟨_,zqd (by omega)⟩;obtain ⟨pj,hpj⟩:∃ p,ps[j]?=some p:=⟨_,zqd (by omega)⟩;obtain ⟨qi,hqi⟩:∃ p,qs[i]?=some p:=⟨_,zqd (by omega)⟩;obtain ⟨qj,hqj⟩:∃ p,qs[j]?=some p:=⟨_,zqd (by omega)⟩;have mref:∀ {zs:List Addr} {m:Nat} {p:Addr},zs[m]?=some p->(zs.map V.ref)[m]?=some (.ref p):=λ e=>by rw [zH,e]; rfl
  refine st λ N1 e1=>?_;simp only [tAsg,gSub,f_T];walk_at "r";refine c_u rfl ob T.cl_z lnl (c_f l c) (g_l (SqB.lst h1) (mref hpi) (c_u rfl ob T.cl_z lnl (c_f l c) (g_l (SqB.lst h1) (mref hpj) ?_)));refine ⟨false,false,pi,pj,xi,xj,q,rfl,SqB.lst (h3 i pi xi hpi exi).2,SqB.lst (h3 j pj xj hpj exj).2,hl,hz,hm,λ p H1 s1 hp ep=>?_⟩;have pl:p≠l:=λ z=>by rw [z,h1] at hp; cases hp
  refine c_u rfl (s1 _ _ ob) T.cl_z lnl (c_f l c) ⟨l,rfl,_,s1 _ _ h1,i,d_N (by rw [zqe]; omega),?_⟩;have b1:Bt [l] H (upd H1 l (.lst ((ps.map V.ref).set i (.ref p)))):=λ b o hb e=>by rw [a_H (by simpa using hb)]; exact s1 b o e
  have li1:MatL (upd H1 l (.lst ((ps.map V.ref).set i (.ref p)))) l (L.set i (b_O xi xj q)):=by
   refine ⟨ps.set i p,by rw [a_G,List.map_set],by simp [h2],λ m p' r' e1 e2=>?_⟩
   by_cases e:m=i
   ·subst e;rw [zP (by omega)] at e1;rw [zP il] at e2;cases e1; cases e2;exact ⟨pl,by rw [a_H pl]; exact ep⟩
   ·rw [zQ (λ w=>e w.symm)] at e1 e2;obtain ⟨n1,n2⟩:=h3 m p' r' e1 e2;exact ⟨n1,by rw [a_H n1]; exact s1 _ _ n2⟩
  have nl:∀ {b:Addr} {o:HO},H b=some o->b≠l->(upd H1 l (.lst ((ps.map V.ref).set i (.ref p)))) b=some o:=λ e n=>by rw [a_H n]; exact s1 _ _ e
  have xl:x≠l:=λ z=>by rw [z,h1] at ob; cases ob
  have ob1:=nl ob xl;have co1:(upd H1 l (.lst ((ps.map V.ref).set i (.ref p)))) c=some (.lst (qs.map V.ref)):=nl k1 (Ne.symm ne);have rows1:∀ (m:Nat) p' r',qs[m]?=some p'->C[m]?=some r'->p'≠c/\(upd H1 l (.lst ((ps.map V.ref).set i (.ref p)))) p'=some (.lst (r'.map V.int)):=λ m p' r' e1 e2=>by
   obtain ⟨n1,n2⟩:=k3 m p' r' e1 e2;exact ⟨n1,nl n2 (e_W h1 ps0 n2)⟩
  generalize upd H1 l (.lst ((ps.map V.ref).set i (.ref p)))=H2 at *;subst e1;simp only [tAsg,gSub,f_T];walk_at "r";refine c_u rfl ob1 T.cl_z lnc (c_Q l c) (g_l (SqB.lst co1) (mref hqj) (c_u rfl ob1 T.cl_z lnc (c_Q l c) (g_l (SqB.lst co1) (mref hqi) ?_)));refine ⟨false,false,qj,qi,cj,ci,-q,rfl,SqB.lst (rows1 j qj cj hqj ecj).2,SqB.lst (rows1 i qi ci hqi eci).2,hl2.symm,by omega,hm2,λ p2 H3 s3 hp2 ep2=>?_⟩;have pc:p2≠c:=λ z=>by rw [z,co1] at hp2; cases hp2
  refine c_u rfl (s3 _ _ ob1) T.cl_z lnc (c_Q l c) ⟨c,rfl,_,s3 _ _ co1,j,d_N (by rw [zqe]; omega),?_⟩;have xc:x≠c:=λ z=>by rw [z,k1] at ob; cases ob
  refine hQ _ (λ b o hb e=>?_) ⟨⟨dx,by rw [a_H xc]; exact s3 _ _ ob1⟩,?_,?_,ne,λ z=>?_,λ z=>?_⟩
  ·have hb':b≠l/\b≠c:=by simpa using hb
   rw [a_H hb'.2];exact s3 _ _ (b1 b o (by simpa using hb'.1) e)
  ·obtain ⟨rs,r1,r2,r3⟩:=li1;refine ⟨rs,by rw [a_H ne]; exact s3 _ _ r1,r2,λ m p' r' e1 e2=>?_⟩;obtain ⟨n1,n2⟩:=r3 m p' r' e1 e2;exact ⟨n1,by rw [a_H (e_W co1 qs0 n2)]; exact s3 _ _ n2⟩
  ·refine ⟨qs.set j p2,by rw [a_G,List.map_set],by simp [k2],λ m p' r' e1 e2=>?_⟩
   by_cases e:m=j
   ·subst e;rw [zP (by omega)] at e1;rw [zP jc] at e2;cases e1; cases e2;exact ⟨pc,by rw [a_H pc]; exact ep2⟩
   ·rw [zQ (λ w=>e w.symm)] at e1 e2;obtain ⟨n1,n2⟩:=rows1 m p' r' e1 e2;exact ⟨n1,by rw [a_H n1]; exact s3 _ _ n2⟩
  ·exact l0 (zO (by have:=congrArg List.length z; simpa using this))
  ·exact c0 (zO (by have:=congrArg List.length z; simpa using this))
theorem s_G {A U:LM} (h:A.length=U.length):(List.range A.length).map (λ i=>A.getD i []++U.getD i [])=List.zipWith (·++·) A U:=by
 refine yG (by simp [h]) λ i h1 h2=>?_;have hi:i < A.length:=by simpa using h1
 rw [List.getElem_map,List.getElem_range,List.getElem_zipWith];rw [zqc,zqc,zqd hi,zqd (by omega)];rfl
theorem ok_d (T:Txt K mg t):FnOk P w K mg base CX0 2 t.a_d t.d_d pD' (i_l K t):=by
 have G_7:=@ok_7 P w K mg base t T;refine T.F_d.ok sc_d (by walk_at "v") (λ cdv A outer s H vs Q E hr h=>?_)
 ·obtain ⟨x,dx,a,b1,b2,MA,d,rfl,hx,hM,n1,n4,hw,hd,hQ⟩:=h;refine ⟨_,(a_C (a_P (i:=2) sc_d.nd rfl (Or.inl rfl) (a_I G_7 hr.mo rfl T.m_7 T.F_7.kp T.b_7 .nil a_O (a_A (a_Q a_U rfl T.z_len (by decide +kernel) (a_A (pv 1) a_B)) a_B)))
   (a_C (k_y (pv 0) (a_X (xs:=["row","unit"]) (fr:=[]) (g:=(gTup K 2 (c_e (a_M 0) (c_e (a_M 1) gNil)))) (tt:=(tEl (tOp rCat (tCB (e_S K) (b_D (tVar 0) tNil)) (tVar 1)))) (a_R (sc:=a_D s_d) (N:=N_d) rfl rfl (by decide +kernel)) rfl (g_s rfl T.z_zip (a_A (pv 1) (a_A (pv 2) a_B))) (λ _ _ _ hE1=>(c_L rfl (a_Z (a_Y (N:=["row","unit"]) (i:=0) hE1 rfl (by decide +kernel)) (a_Z (a_Y (N:=["row","unit"]) (i:=1) hE1 rfl (by decide +kernel)) c_x)))) (λ _ _ _ hE1=>(b_J (a_L k_F (b_T d_U rfl T.z_list (by decide +kernel) (a_A (pv 0) a_B)) (pv 1))))) rfl)
   (a_F (k_y (pv 0) (a_I G_7 hr.mo rfl T.m_7 T.F_7.kp T.b_7 .nil a_O (a_A (a_Q a_U rfl T.z_len (by decide +kernel) (a_A (pv 1) a_B)) a_B)) rfl)))),?_⟩
  show tSeq _ _ _ [some (.ref x),some (.ref a),none] H;have nz:(idM MA.length).length=MA.length:=by simp [idM]
  have nw:∀ r∈idM MA.length,r.length=MA.length:=λ r hr=>by
   unfold idM at hr;obtain ⟨i,_,rfl⟩:=List.mem_map.mp hr;simp
  refine st λ N1 e1=>?_;walk_at "r";refine b_V hM ?_;refine ⟨MA.length,rfl,by omega,λ un H1 hun s1 hU=>?_⟩;subst e1;refine st λ N1 e1=>?_;show b_X _ _ _ _ _ [some (.ref x),some (.ref a),some (.ref un)] H1 _;refine a_S λ B eB=>?_;simp only [iZip];walk_at "r";obtain ⟨xs,x1,x2,x3⟩:=(hM.up s1).walk;obtain ⟨us,u1,u2,u3⟩:=hU;refine ⟨b1,⟨_,x1⟩,false,⟨_,SqB.lst u1⟩,λ l hl=>?_⟩;refine g_t (RowR l λ i=>MA.getD i []++(idM MA.length).getD i []) hl x1 (SqB.lst u1) (by rw [x2,zqe,u2,nz]) (by rw [x2]; omega) (RowR.mono (a:=l)) ?_ ?_
  ·intro i u v H2 zs eu ev s2 ez Q' hQ';obtain ⟨p,r,rfl,er,hp⟩:=x3 i u eu;have hin:i < us.length:=by have:=(zqa ev).1; simpa using this
   obtain ⟨p',hp'⟩:∃ p',us[i]?=some p':=⟨_,zqd hin⟩;obtain ⟨r',er'⟩:∃ r',(idM MA.length)[i]?=some r':=⟨_,zqd (by omega)⟩;rw [zH,hp'] at ev;cases ev;subst eB;show tOp _ _ _ [some (.ref p),some (.ref p')] H2 Q';walk_at "r";refine ⟨b2,p,_,rfl,hp.up s2,λ c1 hc1=>?_⟩;have hp2:H2 p'=some (.lst (r'.map V.int)):=s2 _ _ (u3 i p' r' hp' er').2;have lr:r.length=d:=hw r (zqb er);have lr':r'.length=MA.length:=nw r' (zqb er');have e2:(upd H2 c1 (.lst (r.map V.int))) c1=some (.lst (r.map V.int)):=a_G;have s3:Same H2 (upd H2 c1 (.lst (r.map V.int))):=Same.new hc1;generalize upd H2 c1 (.lst (r.map V.int))=H3 at *
   refine ⟨c1,p',_,_,rfl,rfl,e2,s3 _ _ hp2,by rw [zqe,zqe]; exact Nat.le_of_lt (c_p (by omega)),λ c2 hc2=>?_⟩;have ne2:c2≠l:=λ z=>by rw [z,s3 _ _ ez] at hc2; cases hc2
   refine hQ' _ _ (s3.trans (Same.new hc2)) ⟨c2,rfl,ne2,?_⟩;rw [a_G,← List.map_append];congr 2;show _=List.map V.int (MA.getD i []++(idM MA.length).getD i []);rw [zqc,zqc,er,er'];rfl
  ·intro H2 zs s2 ez hlz hr';have hLi:MatL H2 l (List.zipWith (·++·) MA (idM MA.length)):=by
    have:=MatL.of ez hr';rw [hlz,x2,s_G (by rw [nz])] at this;exact this
   have xl:x≠l:=λ z=>by rw [← z,s1 _ _ hx] at hl; cases hl
   have l0:List.zipWith (·++·) MA (idM MA.length)≠[]:=λ z=>by
    have h0:(List.zipWith (·++·) MA (idM MA.length)).length=0:=by rw [z]; rfl
    rw [List.length_zipWith,nz,Nat.min_self] at h0;omega
   refine ⟨t.a_z,dx,[],s2 _ _ (s1 _ _ hx),T.cl_z,T.h_2s,by show 0 < 1000; decide,?_⟩;have bx:Bt [x] H (upd H2 x (.ins t.a_z dx (putF "lines" (.ref l) []))):=λ b o hb e=>by rw [a_H (by simpa using hb)]; exact s2 _ _ (s1 _ _ e)
   have ex:(upd H2 x (.ins t.a_z dx (putF "lines" (.ref l) []))) x=some (.ins t.a_z dx (putF "lines" (.ref l) [])):=a_G;have hx2:=s2 _ _ (s1 _ _ hx);have hLi2:MatL (upd H2 x (.ins t.a_z dx (putF "lines" (.ref l) []))) l (List.zipWith (·++·) MA (idM MA.length)):=by
    obtain ⟨ps,h1,h2,h3⟩:=hLi;refine ⟨ps,by rw [a_H (Ne.symm xl)]; exact h1,h2,λ i p r q1 q2=>?_⟩;obtain ⟨m1,m2⟩:=h3 i p r q1 q2;exact ⟨m1,by rw [a_H (λ z=>by rw [z,hx2] at m2; cases m2)]; exact m2⟩
   have hM3:MatB b1 b2 K (upd H2 x (.ins t.a_z dx (putF "lines" (.ref l) []))) a MA:=by
    have hMm:=(hM.up s1).up s2;obtain ⟨ps,h1,h2,h3⟩:=hMm;have up:∀ {b:Bool} {p:Addr} {us:List V},SqB b K H2 p us->SqB b K (upd H2 x (.ins t.a_z dx (putF "lines" (.ref l) []))) p us:=λ {b p us} h=>by
     have ne:∀ {o:HO},H2 p=some o->(∀ C dx fs,o≠.ins C dx fs)->p≠x:=λ e n z=>by rw [z,hx2] at e; cases e; exact n _ _ _ rfl
     cases b
     ·rcases h with (h | ⟨o,h⟩) | h
      ·exact .inl (.inl (by rw [a_H (ne h (λ _ _ _ z=>by cases z))]; exact h))
      ·exact .inl (.inr ⟨o,by rw [a_H (ne h (λ _ _ _ z=>by cases z))]; exact h⟩)
      ·exact .inr h
     ·rcases h with (h | ⟨o,h⟩) | h
      ·exact .inl (.inl (by rw [a_H (ne h (λ _ _ _ z=>by cases z))]; exact h))
      ·exact .inl (.inr ⟨o,by rw [a_H (ne h (λ _ _ _ z=>by cases z))]; exact h⟩)
      ·exact .inr h
    exact ⟨ps,up h1,h2,λ i p r q1 q2=>up (h3 i p r q1 q2)⟩
   generalize upd H2 x (.ins t.a_z dx (putF "lines" (.ref l) []))=H3 at *;subst e1;show (e_o _ _ _ _) [some (.ref x),some (.ref a),some (.ref un)] H3 _;walk_at "r";refine b_V hM3 ?_;refine ⟨MA.length,rfl,by omega,λ c H4 hc s4 hC=>?_⟩;have xc:x≠c:=λ z=>by rw [← z,ex] at hc; cases hc
   refine ⟨t.a_z,dx,_,s4 _ _ ex,T.cl_z,T.h_1t,by show 1 < 1000; decide,?_⟩;have hLi4:=hLi2.up s4;have lc:l≠c:=λ z=>by obtain ⟨ps,h1,_⟩:=hLi2; rw [z,hc] at h1; cases h1
   have hnl:H l=none:=by
    cases w:H l with
    | none=>rfl
    | some o=>rw [s1 _ _ w] at hl; cases hl
   have hnc:H c=none:=by
    cases w:H c with
    | none=>rfl
    | some o=>rw [bx c o (by simpa using Ne.symm xc) w] at hc; cases hc
   have hx4:=s4 _ _ ex;have keep:∀ {z:Addr} {X:LM},MatL H4 z X->z≠x->MatL (upd H4 x (.ins t.a_z dx (putF "columns" (.ref c) (putF "lines" (.ref l) [])))) z X:=λ {z X} h ne=>by
    obtain ⟨ps,h1,h2,h3⟩:=h;refine ⟨ps,by rw [a_H ne]; exact h1,h2,λ i p r q1 q2=>?_⟩;obtain ⟨m1,m2⟩:=h3 i p r q1 q2;exact ⟨m1,by rw [a_H (λ z=>by rw [z,hx4] at m2; cases m2)]; exact m2⟩
   refine hQ l c _ (λ b o hb e=>?_) ⟨⟨dx,a_G⟩,keep hLi4 (Ne.symm xl),keep hC (Ne.symm xc),lc,l0,λ z=>?_⟩ hnl hnc
   ·rw [a_H (by simpa using hb)]; exact s4 _ _ (bx b o hb e)
   ·have h0:(idM MA.length).length=0:=by rw [z]; rfl
    omega
theorem ok_2 (T:Txt K mg t) (Bm:d_V mg base):FnOk P w K mg base CX0 1 t.a_2 t.d_2 pv' (sp_2 K t):=by
 refine T.F_2.okL T.tb_2 sc_2 (λ vs H Q E h=>?_) (λ A outer s H vs Q E hr h=>?_)
 ·obtain ⟨x,l,c,L,C,top,k,rfl,_⟩:=h;rfl
 ·obtain ⟨x,l,c,L,C,top,k,rfl,S,tt,ht,h4,hk,hQ⟩:=h;obtain ⟨⟨dx,ob⟩,li,co,ne,l0,c0⟩:=S;refine ⟨_,(a_C (a_P (i:=3) sc_2.nd rfl (Or.inr rfl) (b_W (pv 0) rfl))
   (a_C (c_r (i:=4) (xs:=["i"]) (fr:=[("k",2),("lines",3)]) (g:=(a_M 0)) (tt:=(e_E (h_x (tOp (rI0 λ i j=>.bl (!decide (i=j))) (tOp (rIxB K) (tOp (rIxB K) (tVar 2) (tVar 0)) (tVar 1)) (tC (.int 0)))) (tVar 0))) (a_R (sc:=a_D s_2) (N:=N_2) rfl rfl (by decide +kernel)) rfl sc_2.nd rfl rfl (e_X rfl T.z_range (a_A (pv 1) (a_A (a_Q a_U rfl T.z_len (by decide +kernel) (a_A (pv 3) a_B)) a_B))) (λ _ _ _ hE1=>(a_Y (N:=["i","k","lines"]) (i:=0) hE1 rfl (by decide +kernel))) (λ _ _ _ hE1=>(o_c (a_T d_T (px (px (pv 2) (pv 0)) (pv 1)) a_E (a_V _)) (pv 0))))
   (a_F (a_N (o_z (x := "i") (fr:=[("k",2),("lines",3)]) (qual := "Steps.rising.<locals>.<lambda>") (f0:=t.a_2) (j_i (sc:=a_D s_2) (N:=N_2) rfl rfl (by decide +kernel)) ⟨rfl,rfl,λ _ _ _ _ _ _ _ _=>rfl⟩ T.tb_2 rfl Bm hr.depth rfl T.z_sorted (pv 4) (te:=(tCB (λ xs H Q=>∃ i,xs=[.int i]/\Q (.int (if i < 0 then -i else i)) H) (b_D (tOp (rIxB K) (tOp (rIxB K) (tVar 2) (tVar 0)) (tVar 1)) tNil))) (λ _ _ _ _=>(a_Q e_n rfl T.z_abs (by decide +kernel) (a_A (px (px (pv 2) (pv 0)) (pv 1)) a_B)))))))),?_⟩
  show tSeq _ _ _ [some (.ref x),some (.int top),some (.int k),none,none] H;refine st λ N1 e1=>?_;show tFld _ _ _ [some (.ref x),some (.int top),some (.int k),none,none] H _;refine c_u rfl ob T.cl_z T.h_2s (c_f l c) ?_;show N1 [some (.ref x),some (.int top),some (.int k),some (.ref l),none] H;subst e1;refine st λ N1 e1=>?_;show e_P _ _ _ [some (.ref x),some (.int top),some (.int k),some (.ref l),none] H;simp only [e_P];refine h_H λ C0 B0 eC eB=>?_;simp only [j_H];walk_at "r";have hM:MatB false false K H l L:=li.b;refine b_V hM ?_;walk_at "r";refine ⟨by omega,by omega,by omega,by omega,λ p hp=>?_⟩;have en:((L.length:Int) - (top:Int)).toNat=L.length - top:=by omega
  rw [en];have at_is:∀ {m:Nat} {r:List Int},L[m]?=some r->at2 L (m:Int) k=r.getD k 0:=λ {m r} e=>by
   unfold at2;have e0:L.getD m []=r:=by rw [zqc,e]; rfl
   rw [zR,e0]
  refine n_B (λ i zs _=>zs=((((List.range i).map λ m=>((top+m:Nat):Int)).filter λ z=>decide (at2 L z k≠0)).map V.int)) hp (by omega) rfl (λ i zs _ e=>?_) (λ _ _ _ _ e _=>e) ?_ ?_
  ·rw [e,zqe];exact zS (List.length_filter_le _ _) (by simp)
  ·intro i H1 zs hi s1 ez eP C' hC1 hC2;obtain ⟨r,er⟩:∃ r,L[top+i]?=some r:=⟨_,zqd (by omega)⟩;have hkr:k < r.length:=hk r (zqb er);subst eC;subst eB;show e_E _ _ [some (.int ((top:Int)+i)),some (.int k),some (.ref l)] H1 C';simp only [e_E];walk_at "r";refine d_D ((li.up s1).b (K:=K)) er (getD_at hkr) (by omega) rfl ?_;walk_at "r";have e2:at2 L ((top+i:Nat):Int) k=r.getD k 0:=at_is er;refine ite2 (λ z=>?_) (λ z=>?_)
   ·have zn:r.getD k 0≠0:=by simpa using z
    refine hC1 _ _ (Same.refl _) ?_;rw [eP,List.range_succ,List.map_append,List.filter_append,List.map_append,List.map_singleton,List.filter_cons_of_pos (by rw [e2]; simpa using zn)];simp
   ·have zn:r.getD k 0=0:=by simpa using z
    refine hC2 _ (Same.refl _) ?_;rw [eP,List.range_succ,List.map_append,List.filter_append,List.map_append,List.map_singleton,List.filter_cons_of_neg (by rw [e2,zn]; simp)];simp
  ·intro H1 ys s1 ey eP;subst eP;subst e1;show tRet _ _ [some (.ref x),some (.int top),some (.int k),some (.ref l),some (.ref p)] H1;have tt1:TT K t H1:=(c_n (S:=[]) s1).2 tt;obtain ⟨pt,et⟩:=tt1.r.tbl;have memS:∀ n∈g_k L top k,∃ (m:Nat) (r:List Int),n=(m:Int)/\L[m]?=some r:=λ n hn=>by
    obtain ⟨h1,_⟩:=List.mem_filter.mp hn;obtain ⟨m,hm,rfl⟩:=List.mem_map.mp h1;have:=List.mem_range.mp hm;exact ⟨top+m,_,rfl,zqd (by omega)⟩
   refine ⟨.ref p,rfl,tt1.r,p,g_k L top k,λ n=>if at2 L n k < 0 then -(at2 L n k) else at2 L n k,rfl,SqL.of ey,?_,?_,?_⟩
   ·have:(g_k L top k).length<=L.length - top:=by
     unfold g_k;exact zS (List.length_filter_le _ _) (by simp)
    omega
   ·intro n hn H2 sp Q' hQ';obtain ⟨m,r,rfl,er⟩:=memS n hn;have hkr:k < r.length:=hk r (zqb er);have li2:MatL H2 l L:=s_D (li.up s1) et sp;show tCB _ _ [some (.int (m:Int)),some (.int k),some (.ref l)] H2 Q';walk_at "r";refine d_D (li2.b (K:=K)) er (getD_at hkr) rfl rfl ?_;refine ⟨_,rfl,?_⟩;dsimp only at hQ';rw [at_is er] at hQ';exact hQ'
   ·intro q ns' H2 sp tb hq e p' o';obtain ⟨ev,tt2⟩:=tt1.rise sp tb;refine hQ q ns' H2 ((c_n s1).trans ev) tt2 ?_ e ⟨p',?_⟩
    ·cases w:H q with
     | none=>rfl
     | some z=>rw [s1 _ _ w] at hq; cases hq
    ·refine o'.imp λ {a b} hab=>?_;dsimp only at hab;split at hab <;> split at hab <;> omega
noncomputable def GL (K:Frag) (t:Adr) (H:Hp) (x l c:Addr) (L:LM) (top k d n:Nat) (cs:LM) (B0 B1:Nat) (m:Nat) (σ:St) (H2:Hp):Prop :=
 ∃ (q:Addr) (v4 v5:Option V) (ns:List Int) (L' C':LM) (F:Nat),σ=[some (.ref x),some (.int top),some (.int k),some (.ref q),v4,v5]/\Ev K t [l,c] H H2/\TT K t H2/\c_d t H2 x l c L' C'/\Mid d n k top cs B0 B1 L L' C' F/\Pot k top B0 L' F/\H2 q=some (.lst (ns.map V.int))/\p_v L' top k ns/\m=c_G (colW k top L')
theorem ok_f (T:Txt K mg t) (Bm:d_V mg base):FnOk P w K mg base CX0 3 t.a_f t.d_f pv' (sp_f K t):=by
 have G_2:=@ok_2 P w K mg base t T Bm;have G_m:=@ok_m P w K mg base t T;have G_1p:=@ok_1p P w K mg base t T;have G_16:=@ok_16 P w K mg base t T;refine T.F_f.ok sc_f (by walk_at "v") (λ cdv A outer s H vs Q E hr h=>?_)
 ·obtain ⟨x,l,c,L,C,top,k,d,n,cs,B0,B1,rfl,S,tt,md,n3,kd,d3,tn,hB0,hB1,hQ⟩:=h;refine ⟨_,(a_C (a_P (i:=3) sc_f.nd rfl (Or.inl rfl) (e_Y (C:=t.a_z) (pv 0) T.cl_z T.me_2 G_2 hr.mo T.b_2 .nil a_O (a_A (pv 1) (a_A (pv 2) a_B))))
   (a_C (e_K zG (a_T h_j (a_Q a_U rfl T.z_len (by decide +kernel) (a_A (pv 3) a_B)) a_E (a_V _))
   (a_C (a_P (i:=4) sc_f.nd rfl (Or.inl rfl) (px (pv 3) (e_D d_L a_E)))
   (a_C (a_P (i:=5) sc_f.nd rfl (Or.inl rfl) (px (pv 3) (e_D d_L a_E)))
   (a_C (c_R (e_Y (C:=t.a_z) (pv 0) T.cl_z T.me_m G_m hr.mo T.b_m .nil a_O (a_A (pv 4) (a_A (pv 5) (a_A (a_I G_1p hr.mo rfl T.m_1p T.F_1p.kp T.b_1p .nil a_O (a_A (px (px (b_W (pv 0) rfl) (pv 4)) (pv 2)) (a_A (px (px (b_W (pv 0) rfl) (pv 5)) (pv 2)) a_B))) a_B)))))
   (a_F (a_P (i:=3) sc_f.nd rfl (Or.inl rfl) (e_Y (C:=t.a_z) (pv 0) T.cl_z T.me_2 G_2 hr.mo T.b_2 .nil a_O (a_A (pv 1) (a_A (pv 2) a_B)))))))))
   (a_C (b_R (a_T c_g (a_Q a_U rfl T.z_len (by decide +kernel) (a_A (pv 3) a_B)) a_E (a_V _))
   (a_C (c_R (a_I G_16 hr.mo rfl T.m_16 T.F_16.kp T.b_16 .nil a_O (a_A (b_W (pv 0) rfl) (a_A (pv 1) (a_A (px (pv 3) a_E) a_B)))))
   (a_F (c_R (a_I G_16 hr.mo rfl T.m_16 T.F_16.kp T.b_16 .nil a_O (a_A (b_W (pv 0) rfl) (a_A (pv 1) (a_A (px (pv 3) a_E) a_B)))))))
   b_z)
   (a_F (a_N (c_S c_g (a_Q a_U rfl T.z_len (by decide +kernel) (a_A (pv 3) a_B)) a_E (a_V _))))))),?_⟩
  show tSeq _ _ _ [some (.ref x),some (.int top),some (.int k),none,none,none] H;have rise:∀ {H1:Hp} {L' C':LM} {F:Nat} {σ:St} {Q':VK},σ[0]?=some (some (.ref x))->σ[1]?=some (some (.int top))->σ[2]?=some (some (.int k))->c_d t H1 x l c L' C'->TT K t H1->Mid d n k top cs B0 B1 L L' C' F ->
    (∀ q (ns:List Int) H',Ev K t [] H1 H'->TT K t H'->H' q=some (.lst (ns.map V.int))->p_v L' top k ns->Q' (.ref q) H') ->
    l_m t.a_z "rising" (sp_2 K t) [] E0 (tVar 0) (b_D (tVar 1) (b_D (tVar 2) tNil)) σ H1 Q':=λ {H1 L' C' F σ Q'} s0 s1 s2 S1 tt1 md1 hq=>by
   obtain ⟨dx,ob⟩:=S1.ob;refine g_m s0 ob (i_e l c (by decide) (by decide)) ⟨_,s1,_,s2,?_⟩;exact ⟨x,l,c,L',C',top,k,rfl,S1,tt1,by rw [md1.len]; exact tn,by rw [md1.len]; omega,λ r hr'=>by rw [md1.wid r hr']; omega,λ q ns H' ev tt' _ e r=>hq q ns H' ev tt' e r⟩
  refine st λ N1 e1=>?_;refine rise rfl rfl rfl S tt md λ q ns H1 ev tt1 eq rs=>?_;show N1 [some (.ref x),some (.int top),some (.int k),some (.ref q),none,none] H1;subst e1;refine st λ N1 e1=>f_W λ B eB=>?_;refine ⟨GL K t H x l c L top k d n cs B0 B1,
   ⟨_,q,none,none,ns,L,C,1,rfl,ev.sub (λ _ z=>nomatch z),tt1,S.ev ev,md,Pot.start (by rw [md.len]; exact n3) md.bk,eq,rs,rfl⟩,?_⟩
  rintro m σ H2 ⟨q,v4,v5,ns,L',C',F,rfl,ev2,tt2,S2,md2,po,eq2,rs2,rfl⟩;walk_at "r";refine c_s (b:=false) (SqB.lst eq2) ?_;walk_at "r";refine ite2 (λ z=>?_) (λ z=>?_)
  ·have hlen:1 < ns.length:=by have:=zY z; omega
   obtain ⟨us,b',a',rfl⟩:=p_A (ns:=ns) (by omega);obtain ⟨perm,pw⟩:=rs2;have nd:(us++[b',a']).Nodup:=(perm.nodup_iff).mpr p_z;have hab:b'≠a':=by
    have:=(List.nodup_append.mp nd).2.1;simpa using this
   obtain ⟨i,xi,rfl,ti,exi,nzi⟩:=g_F (perm.mem_iff.mp (show a'∈us++[b',a'] by simp));obtain ⟨j,xj,rfl,tj,exj,nzj⟩:=g_F (perm.mem_iff.mp (show b'∈us++[b',(i:Int)] by simp));have hij:i≠j:=λ w=>hab (by rw [w]);have hle:(xj.getD k 0).natAbs<=(xi.getD k 0).natAbs:=by
    have:=(List.pairwise_append.mp pw).2.1;have:=(List.pairwise_cons.mp this).1 (i:Int) (List.mem_singleton.mpr rfl);rw [j_x exi,j_x exj] at this;exact this
   have il:=(zqa exi).1;have jl:=(zqa exj).1;have wi:=md2.wid xi (zqb exi);have wj:=md2.wid xj (zqb exj);have ln:=md2.len;have cn:=md2.clen;obtain ⟨ci,eci⟩:∃ u,C'[i]?=some u:=⟨_,zqd (by omega)⟩;obtain ⟨cj,ecj⟩:∃ u,C'[j]?=some u:=⟨_,zqd (by omega)⟩;have wci:=md2.cwid ci (zqb eci);have wcj:=md2.cwid cj (zqb ecj);have near:=q_U (a:=xi.getD k 0) (b:=xj.getD k 0) nzj;have po':=po.step (q:=(2*xi.getD k 0+xj.getD k 0).fdiv (2*xj.getD k 0)) ti exi (by omega) (by omega) nzj hle near;have md':=md2.step (q:=(2*xi.getD k 0+xj.getD k 0).fdiv (2*xj.getD k 0)) kd ti tj hij exi exj eci ecj nzj hle near;obtain ⟨dx,ob⟩:=S2.ob;have hM2:MatB false false K H2 l L':=S2.li.b;have atm:∀ {u:Nat} {z:Int},(us++[(j:Int),(i:Int)])[u]?=some z->((us++[(j:Int),(i:Int)]).map V.int)[u]?=some (.int z):=λ e=>by rw [zH,e]; rfl
   refine ⟨λ σ' H'=>∃ m',m' < c_G (colW k top L')/\GL K t H x l c L top k d n cs B0 B1 m' σ' H',λ σ' H' h=>h,?_⟩;subst eB;show tSeq _ _ _ [some (.ref x),some (.int top),some (.int k),some (.ref q),v4,v5] H2;refine st λ N2 e2=>?_;walk_at "r";refine ⟨false,q,_,_,_,rfl,rfl,SqB.lst eq2,k_q (atm (u:=us.length+1) (z:=(i:Int)) (by simp)) (by simp; omega),?_⟩;subst e2;refine st λ N2 e2=>?_;walk_at "r";refine ⟨false,q,_,_,_,rfl,rfl,SqB.lst eq2,k_q (atm (u:=us.length) (z:=(j:Int)) (by simp)) (by simp; omega),?_⟩;subst e2;refine st λ N2 e2=>?_;simp only [i_o];refine g_m rfl ob (i_e l c (by decide) (by decide)) ?_;walk_at "r";refine c_u rfl ob T.cl_z T.h_2s (c_f l c) ?_;refine d_D hM2 exi (getD_at (by omega)) rfl rfl ?_;refine c_u rfl ob T.cl_z T.h_2s (c_f l c) ?_;refine d_D hM2 exj (getD_at (by omega)) rfl rfl ?_;refine ⟨_,_,rfl,nzj,Nat.lt_of_le_of_lt (md2.bk j xj tj exj) (Nat.pow_lt_pow_right (by decide) (by omega)),?_⟩;generalize (2*xi.getD k 0+xj.getD k 0).fdiv (2*xj.getD k 0)=qq at *
   have hF':=po'.1.end;have hF0:=po.end;have hqb:qq.natAbs<=2 ^ (4*B0+3):=by
    by_cases f0:F=0
    ·have h0:=md2.bs j xj tj exj (xj.getD k 0) (L2.getD_mem (by omega));rw [f0,Nat.zero_mul] at h0;omega
    ·have:1*(1+qq.natAbs)<=(1+qq.natAbs)*F:=by rw [Nat.mul_comm]; exact Nat.mul_le_mul_left _ (by omega)
     omega
   have big:∀ {X:LM},BdM (F*2 ^ B1) X->∀ r∈X,∀ z∈r,z.natAbs<=2 ^ (4*B0+3+B1):=λ h r hr z hz=>zS (h r hr z hz) (by rw [Nat.pow_add]; exact zK _ hF0);refine ⟨x,l,c,L',C',i,j,qq,xi,xj,ci,cj,rfl,S2,exi,exj,eci,ecj,by omega,by omega,by omega,by omega,λ z hz=>?_,λ z hz=>?_,λ H3 b3 S3=>?_⟩
   ·exact mulOk_of_bits (c_o hqb) (c_o (big md2.bl xj (zqb exj) z hz)) (by omega)
   ·exact mulOk_of_bits (c_o (by rw [Int.natAbs_neg]; exact hqb)) (c_o (big md2.bc ci (zqb eci) z hz)) (by omega)
   ·have ev3:=S2.bt (K:=K) b3;have tt3:=ev3.2 tt2;subst e2;show l_m _ _ _ _ _ _ _ [some (.ref x),some (.int top),some (.int k),some (.ref q),some (.int i),some (.int j)] H3 _;refine rise rfl rfl rfl S3 tt3 md' λ q' ns' H4 ev4 tt4 eq4 rs4=>?_;exact ⟨_,po'.2,q',_,_,ns',_,_,_,rfl,(ev2.trans ev3).trans (ev4.sub λ _ z=>nomatch z),tt4,S3.ev ev4,md',po'.1,eq4,rs4,rfl⟩
  ·have hlen:ns.length<=1:=by
    have hz:¬ (1:Int) < ns.length:=λ w=>z (zW w);omega
   obtain ⟨perm,pw⟩:=rs2;subst e1;refine st λ N1 e1=>?_;walk_at "r";refine c_s (b:=false) (SqB.lst eq2) ?_;walk_at "r";refine ite2 (λ z1=>?_) (λ z1=>?_)
   ·have h1:ns.length=1:=by have:=zY z1; omega
    obtain ⟨a',rfl⟩:∃ a',ns=[a']:=by match ns,h1 with | [a'],_=>exact ⟨a',rfl⟩
    obtain ⟨b,y,rfl,tb,ey,nz⟩:=g_F (perm.mem_iff.mp (show a'∈[a'] by simp));have bl:=(zqa ey).1;have ln:=md2.len;have cn:=md2.clen;obtain ⟨y0,ey0⟩:∃ u,L'[top]?=some u:=⟨_,zqd (by omega)⟩;obtain ⟨u,eu⟩:∃ u,C'[top]?=some u:=⟨_,zqd (by omega)⟩;obtain ⟨v,ev'⟩:∃ u,C'[b]?=some u:=⟨_,zqd (by omega)⟩;obtain ⟨dx,ob⟩:=S2.ob;obtain ⟨zs,z1a,z1b,hz1,hz2,hz3,hz4⟩:=i_Z S2.li ey0 ey;refine c_u rfl ob T.cl_z T.h_2s (c_f l c) ?_;refine ⟨false,q,_,_,_,rfl,rfl,SqB.lst eq2,b_Y (show (([(b:Int)]:List Int).map V.int)[0]?=some (.int b) from rfl) rfl,?_⟩;refine ⟨l,zs,top,b,_,_,rfl,hz1,hz2,hz3,?_⟩;have xl:x≠l:=λ z=>by rw [z,hz1] at ob; cases ob
    have ql:q≠l:=by
     obtain ⟨ps,p1,p2,p3⟩:=S2.li;have ps0:ps≠[]:=λ z=>S2.l0 (zO (by rw [← p2,z]; rfl));exact e_W p1 ps0 eq2
    have ob3:(upd H2 l (.lst ((zs.set top z1b).set b z1a))) x=some (.ins t.a_z dx (stF l c)):=by rw [a_H xl]; exact ob
    have eq3:(upd H2 l (.lst ((zs.set top z1b).set b z1a))) q=some (.lst (([(b:Int)]:List Int).map V.int)):=by rw [a_H ql]; exact eq2
    have co3:MatL (upd H2 l (.lst ((zs.set top z1b).set b z1a))) c C':=by
     obtain ⟨ps,p1,p2,p3⟩:=S2.co;obtain ⟨ps',p1',p2',p3'⟩:=S2.li;have ps0:ps'≠[]:=λ z=>S2.l0 (zO (by rw [← p2',z]; rfl));refine ⟨ps,by rw [a_H (Ne.symm S2.ne)]; exact p1,p2,λ i p r q1 q2=>?_⟩;obtain ⟨m1,m2⟩:=p3 i p r q1 q2;exact ⟨m1,by rw [a_H (e_W p1' ps0 m2)]; exact m2⟩
    have b3:Bt [l,c] H2 (upd H2 l (.lst ((zs.set top z1b).set b z1a))):=λ a o ha e=>by rw [a_H (λ z=>ha (by simp [z]))]; exact e
    generalize upd H2 l (.lst ((zs.set top z1b).set b z1a))=H3 at *;refine c_u rfl ob3 T.cl_z T.h_1t (c_Q l c) ?_;refine ⟨false,q,_,_,_,rfl,rfl,SqB.lst eq3,b_Y (show (([(b:Int)]:List Int).map V.int)[0]?=some (.int b) from rfl) rfl,?_⟩;obtain ⟨ws,w1a,w1b,hw1,hw2,hw3,hw4⟩:=i_Z co3 eu ev';refine ⟨c,ws,top,b,_,_,rfl,hw1,hw2,hw3,?_⟩;have xc:x≠c:=λ z=>by rw [z,hw1] at ob3; cases ob3
    have qc:q≠c:=by
     obtain ⟨ps,p1,p2,p3⟩:=co3;have ps0:ps≠[]:=λ z=>S2.c0 (zO (by rw [← p2,z]; rfl));exact e_W p1 ps0 eq3
    have li4:MatL (upd H3 c (.lst ((ws.set top w1b).set b w1a))) l ((L'.set top y).set b y0):=by
     obtain ⟨ps,p1,p2,p3⟩:=hz4;obtain ⟨ps',p1',p2',p3'⟩:=co3;have ps0:ps'≠[]:=λ z=>S2.c0 (zO (by rw [← p2',z]; rfl));refine ⟨ps,by rw [a_H S2.ne]; exact p1,p2,λ i p r q1 q2=>?_⟩;obtain ⟨m1,m2⟩:=p3 i p r q1 q2;exact ⟨m1,by rw [a_H (e_W p1' ps0 m2)]; exact m2⟩
    have b4:Bt [l,c] H2 (upd H3 c (.lst ((ws.set top w1b).set b w1a))):=λ a o ha e=>by rw [a_H (λ z=>ha (by simp [z]))]; exact b3 a o ha e
    have S4:c_d t (upd H3 c (.lst ((ws.set top w1b).set b w1a))) x l c ((L'.set top y).set b y0) ((C'.set top v).set b u):=by
     refine ⟨⟨dx,by rw [a_H xc]; exact ob3⟩,li4,hw4,S2.ne,λ z=>?_,λ z=>?_⟩
     ·have:=congrArg List.length z;rw [yB,yB] at this;exact S2.l0 (zO this)
     ·have:=congrArg List.length z;rw [yB,yB] at this;exact S2.c0 (zO this)
    have eq4:(upd H3 c (.lst ((ws.set top w1b).set b w1a))) q=some (.lst (([(b:Int)]:List Int).map V.int)):=by rw [a_H qc]; exact eq3
    generalize upd H3 c (.lst ((ws.set top w1b).set b w1a))=H4 at *;have ev4:=S2.bt (K:=K) b4;subst e1;show tRet _ _ [some (.ref x),some (.int top),some (.int k),some (.ref q),v4,v5] H4;walk_at "r";refine c_s (b:=false) (SqB.lst eq4) ?_;walk_at "r";refine hQ true F _ _ H4 (ev2.trans ev4) (ev4.2 tt2) S4 (md2.swap tb ey0 ey eu ev') po.end (.inl ⟨rfl,⟨y,?_,nz⟩,λ i r hi er=>?_⟩)
    ·rw [e_b ey0 ey]
     by_cases e:top=b
     ·rw [if_pos e,← ey,← e,ey0]
     ·rw [if_neg e,if_pos rfl]
    ·have only:∀ (m:Nat) r',top<=m->L'[m]?=some r'->r'.getD k 0≠0->m=b:=λ m r' hm em hn=>by
      have:=perm.mem_iff.mpr (i_Y hm em hn);have:=List.mem_singleton.mp this;omega
     rw [e_b ey0 ey] at er
     by_cases e:i=b
     ·rw [if_pos e] at er;cases er;rcases Decidable.em (y0.getD k 0=0) with w | w
      ·exact w
      ·have:=only top y0 (zL _) ey0 w;omega
     ·rw [if_neg e,if_neg (by omega)] at er;rcases Decidable.em (r.getD k 0=0) with w | w
      ·exact w
      ·exact yJ (only i r (by omega) er w) e
   ·have h0:ns=[]:=zO (by
     have hz:¬ (ns.length:Int)=1:=λ w=>z1 (zW w);omega)
    subst h0;show N1 [some (.ref x),some (.int top),some (.int k),some (.ref q),v4,v5] H2;subst e1;walk_at "r";refine c_s (b:=false) (SqB.lst eq2) ?_;walk_at "r";refine hQ false F L' C' H2 ev2 tt2 S2 md2 po.end (.inr ⟨rfl,λ i r hi er=>?_⟩);rcases Decidable.em (r.getD k 0=0) with w | w
    ·exact w
    ·have:=perm.mem_iff.mpr (i_Y hi er w);cases this
noncomputable def SL (t:Adr) (H:Hp) (x l c:Addr) (d n k:Nat) (cs:LM) (ks:List Nat) (B B0 B1:Nat) (i:Nat) (σ:St) (H2:Hp):Prop :=
 ∃ (v3:Option V) (L' C':LM),σ=[some (.ref x),some (.int ks.length),some (.int k),v3]/\Bt [l,c] H H2/\c_d t H2 x l c L' C'/\Ech d n (k+1) cs (ks++[k]) B B0 (eF B1 i) L' C'
theorem ok_9 (T:Txt K mg t):FnOk P w K mg base CX0 3 t.a_9 t.d_9 pv' (sp_9 t):=by
 have G_m:=@ok_m P w K mg base t T;have G_i:=@ok_i P w K mg base t T;refine T.F_9.ok sc_9 (by walk_at "v") (λ cdv A outer s H vs Q E hr h=>?_)
 ·obtain ⟨x,l,c,L,C,ks,k,d,n,cs,B,B0,B1,rfl,S,hlL,hlC,ec,n3,kd,d3,hB1,hbF,hQ⟩:=h;refine ⟨_,(a_C (b_R (a_T i_p (px (px (b_W (pv 0) rfl) (pv 1)) (pv 2)) a_E (a_V _))
   (a_C (c_R (a_I G_i hr.mo rfl T.m_i T.F_i.kp T.b_i .nil a_O (a_A (b_W (pv 0) rfl) (a_A (pv 1) a_B))))
   (a_F (c_R (a_I G_i hr.mo rfl T.m_i T.F_i.kp T.b_i .nil a_O (a_A (b_W (pv 0) rfl) (a_A (pv 1) a_B))))))
   b_z)
   (a_F (c_A zG rfl (b_I rfl T.z_range (a_A (pv 1) a_B)) (b_E (i:=3) sc_9.nd rfl (Or.inl rfl))
   (a_F (c_R (e_Y (C:=t.a_z) (pv 0) T.cl_z T.me_m G_m hr.mo T.b_m .nil a_O (a_A (pv 3) (a_A (pv 1) (a_A (a_L b_N (px (px (b_W (pv 0) rfl) (pv 3)) (pv 2)) (px (px (b_W (pv 0) rfl) (pv 1)) (pv 2))) a_B))))))))),?_⟩
  show tSeq _ _ _ [some (.ref x),some (.int ks.length),some (.int k),none] H;obtain ⟨r,er⟩:∃ r,L[ks.length]?=some r:=⟨_,zqd hlL⟩;obtain ⟨u,eu⟩:∃ r,C[ks.length]?=some r:=⟨_,zqd hlC⟩;have gL:L.getD ks.length []=r:=by rw [zqc,er]; rfl
  have gC:C.getD ks.length []=u:=by rw [zqc,eu]; rfl
  have lenL:L.length=n:=by
   have:=ec.len;unfold sgn at this;split at this
   ·rw [yB] at this; exact this
   ·exact this
  have lenC:C.length=n:=by
   have:=ec.clen;unfold sgn at this;split at this
   ·rw [yB] at this; exact this
   ·exact this
  have wr:r.length=d+n:=by
   have hw:=ec.wid;unfold sgn at hw;rw [gL] at hw;split at hw
   ·have:=hw (r.map λ z=>-z) (zqb (i:=ks.length) (by rw [zP hlL]));rw [zqe] at this; exact this
   ·exact hw r (zqb er)
  have wu:u.length=n:=by
   have hw:=ec.cwid;unfold sgn at hw;rw [gL,gC] at hw;split at hw
   ·have:=hw (u.map λ z=>-z) (zqb (i:=ks.length) (by rw [zP hlC]));rw [zqe] at this; exact this
   ·exact hw u (zqb eu)
  obtain ⟨dx,ob⟩:=S.ob;refine st λ N1 e1=>?_;have key:∀ L1 C1 H1,Bt [l,c] H H1->c_d t H1 x l c L1 C1->Ech d n (k+1) cs (ks++[k]) B B0 B1 L1 C1->N1 [some (.ref x),some (.int ks.length),some (.int k),none] H1:=by
   intro L1 C1 H1 b1 S1 ec1;subst e1;refine c_C λ B' eB=>?_;simp only [c_w];walk_at "r";refine ⟨by omega,by omega,?_⟩;rw [zR];have kl:(ks++[k])[ks.length]?=some k:=by simp
   refine d_J (g:=a_M 3) (tb:=B') (SL t H x l c d n k cs ks B B0 B1) ⟨_,L1,C1,rfl,b1,S1,ec1⟩ ?_ ?_
   ·rintro i σ H2 hi ⟨v3,L',C',rfl,b2,S2,ec2⟩;have lt2:eF B1 i<=4*B1+3:=r_q B1 (by omega);have l2:=ec2.len;have c2:=ec2.clen;obtain ⟨xi,exi⟩:∃ r,L'[i]?=some r:=⟨_,zqd (by omega)⟩;obtain ⟨xj,exj⟩:∃ r,L'[ks.length]?=some r:=⟨_,zqd (by omega)⟩;obtain ⟨ci,eci⟩:∃ r,C'[i]?=some r:=⟨_,zqd (by omega)⟩;obtain ⟨cj,ecj⟩:∃ r,C'[ks.length]?=some r:=⟨_,zqd (by omega)⟩;have wi:=ec2.wid xi (zqb exi);have wj:=ec2.wid xj (zqb exj);have wci:=ec2.cwid ci (zqb eci);have wcj:=ec2.cwid cj (zqb ecj);obtain ⟨ld,lb,_⟩:=ec2.lead ks.length xj k exj kl;obtain ⟨dx2,ob2⟩:=S2.ob;have hM2:MatB false false K H2 l L':=S2.li.b;subst eB;show i_o _ _ [some (.ref x),some (.int ks.length),some (.int k),some (.int (0+(i:Int)))] H2;simp only [i_o];refine g_m rfl ob2 (i_e l c (by decide) (by decide)) ?_;walk_at "r";refine c_u rfl ob2 T.cl_z T.h_2s (c_f l c) ?_;refine d_D hM2 exi (getD_at (by omega)) (by omega) rfl ?_;refine c_u rfl ob2 T.cl_z T.h_2s (c_f l c) ?_;refine d_D hM2 exj (getD_at (by omega)) rfl rfl ?_;walk_at "r";refine ⟨⟨by omega,zI ((Nat.log2_lt (by omega)).mpr (Nat.lt_of_le_of_lt lb (Nat.pow_lt_pow_right (by decide) (show bF B k < 8990 by omega)))) (by decide)⟩,?_⟩;have hqb:((xi.getD k 0).fdiv (xj.getD k 0)).natAbs<=2 ^ eF B1 i:=zS (g_N _ _ ld) (ec2.bl xi (zqb exi) _ (L2.getD_mem (by omega)));generalize (xi.getD k 0).fdiv (xj.getD k 0)=qq at *
    refine ⟨x,l,c,L',C',i,ks.length,qq,xi,xj,ci,cj,by simp,S2,exi,exj,eci,ecj,by omega,by omega,by omega,by omega,λ z hz=>?_,λ z hz=>?_,λ H3 b3 S3=>?_⟩
    ·exact mulOk_of_bits (c_o hqb) (c_o (ec2.bl xj (zqb exj) z hz)) (by omega)
    ·exact mulOk_of_bits (c_o (by rw [Int.natAbs_neg]; exact hqb)) (c_o (ec2.bc ci (zqb eci) z hz)) (by omega)
    ·exact ⟨_,_,_,rfl,λ a o ha e=>b3 a o ha (b2 a o ha e),S3,ec2.take hi kl (by omega) exi exj eci ecj hqb⟩
   ·rintro σ H2 ⟨v3,L',C',rfl,b2,S2,ec2⟩;exact hQ L' C' H2 b2 S2 (ec2.mono (r_q B1 (by omega)))
  walk_at "r";refine c_u rfl ob T.cl_z T.h_2s (c_f l c) ?_;refine d_D (S.li.b (K:=K)) er (getD_at (by omega)) rfl rfl ?_;walk_at "r";refine ite2 (λ z=>?_) (λ z=>?_)
  ·have hz:r.getD k 0 < 0:=zY z;refine c_u rfl ob T.cl_z T.h_2s (c_f l c) ?_;refine ⟨l,L,ks.length,r,rfl,S.li,er,by omega,λ H1 b1 li1=>?_⟩;have ne1:∀ {a:Addr} {o:HO},H a=some o->a≠l->H1 a=some o:=λ e n=>b1 _ _ (by simpa using n) e;obtain ⟨ps,p1,p2,p3⟩:=id S.li;have ps0:ps≠[]:=λ z=>S.l0 (zO (by rw [← p2,z]; rfl));have ob1:=ne1 ob (λ z=>by rw [z,p1] at ob; cases ob);have co1:MatL H1 c C:=by
    obtain ⟨qs,q1,q2,q3⟩:=S.co;refine ⟨qs,ne1 q1 (Ne.symm S.ne),q2,λ m p r' z1 z2=>?_⟩;obtain ⟨m1,m2⟩:=q3 m p r' z1 z2;exact ⟨m1,ne1 m2 (e_W p1 ps0 m2)⟩
   refine c_u rfl ob1 T.cl_z T.h_1t (c_Q l c) ?_;refine ⟨c,C,ks.length,u,rfl,co1,eu,by omega,λ H2 b2 co2=>?_⟩;have ne2:∀ {a:Addr} {o:HO},H1 a=some o->a≠c->H2 a=some o:=λ e n=>b2 _ _ (by simpa using n) e;obtain ⟨qs,q1,q2,q3⟩:=id co1;have qs0:qs≠[]:=λ z=>S.c0 (zO (by rw [← q2,z]; rfl));refine key (L.set ks.length (r.map λ z=>-z)) (C.set ks.length (u.map λ z=>-z)) H2 (λ a o ha e=>?_) ⟨⟨dx,ne2 ob1 (λ z=>by rw [z,q1] at ob1; cases ob1)⟩,?_,co2,S.ne,λ z=>?_,λ z=>?_⟩ ?_
   ·have ha':a≠l/\a≠c:=by simpa using ha
    exact ne2 (ne1 e ha'.1) ha'.2
   ·obtain ⟨rs,r1,r2,r3⟩:=li1;refine ⟨rs,ne2 r1 S.ne,r2,λ m p r' z1 z2=>?_⟩;obtain ⟨m1,m2⟩:=r3 m p r' z1 z2;exact ⟨m1,ne2 m2 (e_W q1 qs0 m2)⟩
   ·have:=congrArg List.length z;rw [yB] at this;exact S.l0 (zO this)
   ·have:=congrArg List.length z;rw [yB] at this;exact S.c0 (zO this)
   ·unfold sgn at ec;rw [gL,if_pos hz,gC,if_pos hz] at ec;exact ec
  ·have hz:¬ r.getD k 0 < 0:=λ w=>z (zW w);unfold sgn at ec;rw [gL,if_neg hz,if_neg hz] at ec;exact key L C H (λ a o _ e=>e) S ec
noncomputable def SR (K:Frag) (t:Adr) (H:Hp) (a x l c:Addr) (A:LM) (d B:Nat) (k:Nat) (σ:St) (H2:Hp):Prop :=
 ∃ (vk:Option V) (ks:List Nat) (L C:LM),σ=[some (.ref a),some (.int d),some (.ref x),some (.int ks.length),vk,none,none]/\Ev K t [] H H2/\TT K t H2/\c_d t H2 x l c L C/\Ech d d k (e_H d A) ks B (bF B k) (cF B k) L C
theorem ok_1k (T:Txt K mg t) (Bm:d_V mg base):FnOk P w K mg base CX0 4 t.a_1k t.d_1k pK' (sp_1k K t):=by
 have G_d:=@ok_d P w K mg base t T;have G_f:=@ok_f P w K mg base t T Bm;have G_9:=@ok_9 P w K mg base t T;have G_1h:=@ok_1h P w K mg base t T;refine T.F_1k.ok sc_1k (by walk_at "v") (λ cdv A outer s H vs Q E hr h=>?_)
 ·obtain ⟨b1,b2,a,MA,d,B,rfl,hM,sA,hd,bA,hB,tt,hQ⟩:=h;refine ⟨_,(a_C (a_P (i:=1) sc_1k.nd rfl (Or.inr rfl) (a_Q a_U rfl T.z_len (by decide +kernel) (a_A (px (pv 0) a_E) a_B)))
   (a_C (a_P (i:=2) sc_1k.nd rfl (Or.inl rfl) (d_G (C:=t.a_z) (T.mk_z) G_d hr.mo rfl T.m_z T.b_d .nil a_O (a_A (pv 0) a_B)))
   (a_C (a_P (i:=3) sc_1k.nd rfl (Or.inl rfl) a_E)
   (a_C (c_A zG rfl (b_I rfl T.z_range (a_A (pv 1) a_B)) (b_E (i:=4) sc_1k.nd rfl (Or.inl rfl))
   (a_F (b_R (e_f (e_Y (C:=t.a_z) (pv 2) T.cl_z T.me_f G_f hr.mo T.b_f .nil a_O (a_A (pv 3) (a_A (pv 4) a_B))))
   (a_C (c_R (e_Y (C:=t.a_z) (pv 2) T.cl_z T.me_9 G_9 hr.mo T.b_9 .nil a_O (a_A (pv 3) (a_A (pv 4) a_B))))
   (a_F (n_J (i:=3) sc_1k.nd rfl (Or.inl rfl) a_E n_K)))
   b_z)))
   (a_C (c_r (i:=5) (xs:=["line"]) (fr:=[("width",1)]) (g:=(a_M 0)) (tt:=(tEl (tSl (rSlB K) (tVar 0) e_Z (i_v (tVar 1))))) (a_R (sc:=a_D s_1k) (N:=N_1k) rfl rfl (by decide +kernel)) rfl sc_1k.nd rfl rfl (b_M (b_W (pv 2) rfl)) (λ _ _ _ hE1=>(a_Y (N:=["line","width"]) (i:=0) hE1 rfl (by decide +kernel))) (λ _ _ _ hE1=>(b_J (e_M sl_B (pv 0) g_Q (f_z (pv 1))))))
   (a_C (c_r (i:=6) (xs:=["line"]) (fr:=[("width",1)]) (g:=(a_M 0)) (tt:=(tEl (tSl (rSlB K) (tVar 0) (i_v (tVar 1)) e_Z))) (a_R (sc:=a_D s_1k) (N:=N_1k) rfl rfl (by decide +kernel)) rfl sc_1k.nd rfl rfl (b_M (b_W (pv 2) rfl)) (λ _ _ _ hE1=>(a_Y (N:=["line","width"]) (i:=0) hE1 rfl (by decide +kernel))) (λ _ _ _ hE1=>(b_J (e_M sl_B (pv 0) (f_z (pv 1)) g_Q))))
   (a_F (a_N (c_T (a_A (pv 5) (a_A (pv 6) (a_A (a_I G_1h hr.mo rfl T.m_1h T.F_1h.kp T.b_1h .nil a_O (a_A (b_W (pv 2) rfl) a_B)) a_B)))))))))))),?_⟩
  show tSeq _ _ _ [some (.ref a),none,none,none,none,none,none] H;obtain ⟨r0,e0⟩:∃ r0,MA[0]?=some r0:=⟨_,zqd (by have:=sA.1; omega)⟩;refine st λ N1 e1=>?_;walk_at "r";refine f_C hM e0 rfl λ p hp=>?_;refine c_s hp ?_;rw [sA.2 r0 (zqb e0)];show N1 [some (.ref a),some (.int d),none,none,none,none,none] H;subst e1;refine st λ N1 e1=>?_;show n_P _ _ _ _ _ [some (.ref a),some (.int d),none,none,none,none,none] H _;simp only [n_P];walk_at "r";intro x dx hx hdx hne;have s1:Same H (upd (upd H dx (.own x)) x (.ins t.a_z dx [])):=λ b o e=>by rw [a_H (a_J e hx),a_H (a_J e hdx)]; exact e
  refine ⟨x,dx,a,b1,b2,MA,d,rfl,a_G,hM.up s1,by have:=sA.1; omega,by have:=sA.1; omega,sA.2,by omega,λ l c H2 b2' S2 hl hc=>⟨rfl,?_⟩⟩;rw [sA.1] at S2;have ev2:Ev K t [] H H2:=Ev.new (c_n s1) (Bt.ev b2' (λ y hy=>by rw [List.mem_singleton.mp hy]; exact .inr (.inr ⟨_,_,_,a_G⟩))) (λ y hy=>by rw [List.mem_singleton.mp hy]; exact hx);have none_of:∀ {y:Addr},(upd (upd H dx (.own x)) x (.ins t.a_z dx [])) y=none->H y=none:=λ {y} e=>by
   cases w:H y with
   | none=>rfl
   | some o=>rw [s1 _ _ w] at e; cases e
  have hl0:=none_of hl;have hc0:=none_of hc;have tt2:=ev2.2 tt;show N1 [some (.ref a),some (.int d),some (.ref x),none,none,none,none] H2;subst e1;refine st λ N1 e1=>?_;walk_at "r";subst e1;refine st λ N1 e1=>c_C λ B' eB=>?_;simp only [c_w];walk_at "r";refine ⟨by omega,by omega,?_⟩;rw [zR];refine d_J (g:=a_M 4) (tb:=B') (SR K t H a x l c MA d B) ⟨_,[],_,_,rfl,ev2,tt2,S2,n_C hd sA bA⟩ ?_ ?_
  ·rintro k σ H3 hk ⟨vk,ks,L,C,rfl,ev3,tt3,S3,ec⟩;have hbF:=r_r (k:=k) hB (by omega);have hcF:=r_s (k:=k) hB (by omega);obtain ⟨dx3,ob3⟩:=S3.ob;subst eB;show tIfS _ _ _ _ [some (.ref a),some (.int d),some (.ref x),some (.int ks.length),some (.int (0+(k:Int))),none,none] H3;simp only [tIfS,tB];refine g_m rfl ob3 (i_e l c (by decide) (by decide)) ?_;walk_at "r";refine ⟨x,l,c,L,C,ks.length,k,d,d,e_H d MA,bF B k,cF B k,by simp,S3,tt3,ec.mid,by omega,hk,by omega,ec.kn,by omega,by omega,λ b F L' C' H4 ev4 tt4 S4 md hF gat=>?_⟩;have ev34:Ev K t [] H H4:=Ev.new ev3 ev4 (λ y hy=>by
    rcases List.mem_cons.mp hy with e | e
    ·rw [e]; exact hl0
    ·rw [List.mem_singleton.mp e]; exact hc0)
   rcases gat with ⟨rfl,⟨r,er,nz⟩,g⟩ | ⟨rfl,g⟩
   ·refine ⟨_,rfl,iteT ?_⟩;obtain ⟨dx4,ob4⟩:=S4.ob;have ln:=md.len;have cn:=md.clen;have tl:=(zqa er).1;refine g_m rfl ob4 (i_e l c (by decide) (by decide)) ?_;walk_at "r";refine ⟨x,l,c,L',C',ks,k,d,d,e_H d MA,B,bF B (k+1),cF B k+4*bF B k+3,by simp,S4,by omega,by omega,q_Y ec md hF er nz g,by omega,hk,by omega,by omega,by omega,λ L5 C5 H5 b5 S5 ec5=>?_⟩;have ev5:Ev K t [] H H5:=Ev.new ev34 (S4.bt b5) (λ y hy=>by
     rcases List.mem_cons.mp hy with e | e
     ·rw [e]; exact hl0
     ·rw [List.mem_singleton.mp e]; exact hc0)
    simp only [tAug,ipI];walk_at "r";refine ⟨some (.int (0+(k:Int))),ks++[k],L5,C5,?_,ev5,(S4.bt (K:=K) b5).2 tt4,S5,ec5⟩;simp
   ·refine ⟨_,rfl,iteF ?_⟩;exact ⟨_,ks,L',C',rfl,ev34,tt4,S4,s_E ec md hF g⟩
  ·rintro σ H3 ⟨vk,ks,L,C,rfl,ev3,tt3,S3,ec⟩;have sta:=q_Z ec;obtain ⟨dx3,ob3⟩:=S3.ob;have cwl:=ec.cwid;have lw:=ec.wid;obtain ⟨ps,p1,p2,p3⟩:=id S3.li;have ln:=ec.len;subst e1;refine st λ N1 e1=>?_;show e_P _ _ _ [some (.ref a),some (.int d),some (.ref x),some (.int ks.length),vk,none,none] H3;simp only [e_P];refine a_S λ B' eB=>?_;simp only [iSeq];refine c_u rfl ob3 T.cl_z T.h_2s (c_f l c) ?_;refine ⟨false,l,rfl,⟨_,SqB.lst p1⟩,λ a1 ha1=>?_⟩;refine c_h (RowR a1 λ i=>(L.getD i []).take d) ha1 (SqB.lst p1) (by rw [zqe,p2,ln]; omega) (RowR.mono (a:=a1)) ?_ ?_
   ·intro i v H4 zs ev s4 ez Q' hQ';have hin:i < ps.length:=by have:=(zqa ev).1; simpa using this
    obtain ⟨p',hp'⟩:∃ p',ps[i]?=some p':=⟨_,zqd hin⟩;obtain ⟨r',er'⟩:∃ r',L[i]?=some r':=⟨_,zqd (by omega)⟩;rw [zH,hp'] at ev;cases ev;have hr4:=s4 _ _ (p3 i p' r' hp' er').2;have wr:=lw r' (zqb er');subst eB;show tSl _ _ _ _ [some (.ref p'),some (.int d)] H4 Q';walk_at "r";refine ⟨false,p',_,rfl,SqB.lst hr4,(by intro e; cases e),λ c1 hc1=>?_⟩;rw [o_m (by omega)];have ne1:c1≠a1:=λ z=>by rw [z,ez] at hc1; cases hc1
    refine hQ' _ _ (Same.new hc1) ⟨c1,rfl,ne1,?_⟩;show (upd H4 c1 (.lst ((r'.take d).map V.int))) c1=some (.lst (((L.getD i []).take d).map V.int));rw [a_G,zqc,er'];rfl
   ·intro H4 zs s4 ez hlz hr4;have hF:MatL H4 a1 (L.map λ r=>r.take d):=by
     have:=MatL.of ez hr4;rw [hlz,zqe,p2] at this;have e:(List.range L.length).map (λ i=>(L.getD i []).take d)=L.map λ r=>r.take d:=by
      refine yG (by simp) λ i h1 h2=>?_;have hi:i < L.length:=by simpa using h1
      rw [List.getElem_map,List.getElem_range,List.getElem_map,zqc,zqd hi];rfl
     rw [e] at this;exact this
    show N1 [some (.ref a),some (.int d),some (.ref x),some (.int ks.length),vk,some (.ref a1),none] H4;have ob4:=s4 _ _ ob3;have p14:=s4 _ _ p1;subst e1;refine st λ N1 e1=>?_;show e_P _ _ _ [some (.ref a),some (.int d),some (.ref x),some (.int ks.length),vk,some (.ref a1),none] H4;simp only [e_P];refine a_S λ B' eB=>?_;simp only [iSeq];refine c_u rfl ob4 T.cl_z T.h_2s (c_f l c) ?_;refine ⟨false,l,rfl,⟨_,SqB.lst p14⟩,λ a2 ha2=>?_⟩;refine c_h (RowR a2 λ i=>(L.getD i []).drop d) ha2 (SqB.lst p14) (by rw [zqe,p2,ln]; omega) (RowR.mono (a:=a2)) ?_ ?_
    ·intro i v H5 zs5 ev s5 ez5 Q' hQ';have hin:i < ps.length:=by have:=(zqa ev).1; simpa using this
     obtain ⟨p',hp'⟩:∃ p',ps[i]?=some p':=⟨_,zqd hin⟩;obtain ⟨r',er'⟩:∃ r',L[i]?=some r':=⟨_,zqd (by omega)⟩;rw [zH,hp'] at ev;cases ev;have hr5:=s5 _ _ (s4 _ _ (p3 i p' r' hp' er').2);have wr:=lw r' (zqb er');subst eB;show tSl _ _ _ _ [some (.ref p'),some (.int d)] H5 Q';walk_at "r";refine ⟨false,p',_,rfl,SqB.lst hr5,(by intro e; cases e),λ c1 hc1=>?_⟩;rw [j_P (by omega)];have ne1:c1≠a2:=λ z=>by rw [z,ez5] at hc1; cases hc1
     refine hQ' _ _ (Same.new hc1) ⟨c1,rfl,ne1,?_⟩;show (upd H5 c1 (.lst ((r'.drop d).map V.int))) c1=some (.lst (((L.getD i []).drop d).map V.int));rw [a_G,zqc,er'];rfl
    ·intro H5 zs5 s5 ez5 hlz5 hr5;have hR:MatL H5 a2 (L.map λ r=>r.drop d):=by
      have:=MatL.of ez5 hr5;rw [hlz5,zqe,p2] at this;have e:(List.range L.length).map (λ i=>(L.getD i []).drop d)=L.map λ r=>r.drop d:=by
       refine yG (by simp) λ i h1 h2=>?_;have hi:i < L.length:=by simpa using h1
       rw [List.getElem_map,List.getElem_range,List.getElem_map,zqc,zqd hi];rfl
      rw [e] at this;exact this
     show N1 [some (.ref a),some (.int d),some (.ref x),some (.int ks.length),vk,some (.ref a1),some (.ref a2)] H5;have ob5:=s5 _ _ ob4;have co5:=(S3.co.up s4).up s5;subst e1;show tRet _ _ [some (.ref a),some (.int d),some (.ref x),some (.int ks.length),vk,some (.ref a1),some (.ref a2)] H5;walk_at "r";refine c_u rfl ob5 T.cl_z T.h_1t (c_Q l c) ?_;refine ⟨false,false,c,C,d,rfl,co5.b,S3.c0,cwl,by omega,by rw [ec.clen]; omega,λ r H6 hr6 s6 hT=>?_⟩;refine ⟨by show 3<=sizeLine; decide,λ q hq=>?_⟩;have s7:Same H3 (upd H6 q (.tup [.ref a1,.ref a2,.ref r])):=(s4.trans (s5.trans s6)).trans (Same.new hq);refine hQ q a1 a2 (.ref r) _ _ ks _ (ev3.trans (c_n s7)) ((c_n (S:=[]) s7).2 tt3) a_G ((((hF.up s5).up s6)).up (Same.new hq)) ((hR.up s6).up (Same.new hq)) sta
theorem p_G {a:Addr} {H:Hp} {tt:St->Hp->(Option V->Hp->Prop)->Prop} {fr:List (Str × Nat)} {σ:St} {Q:VK} {b:Bool} {l:Addr} {xs:List V} (P:Nat->List V->Prop) (ha:H a=none) (hS:SqB b K H l xs) (hz:xs.length<=1000) (h0:P 0 [])
  (hl:∀ i zs,P i zs->zs.length<=i)
  (he:∀ i x H1 zs,xs[i]?=some x->Same H H1->P i zs->∀ C:Option V->Hp->Prop,
   (∀ y H2,Same H1 H2->P (i+1) (zs++[y])->C (some y) H2)->(∀ H2,Same H1 H2->P (i+1) zs->C none H2)->tt (some (.int i) :: some x :: c_q fr σ) H1 C)
  (hd:∀ H1 ys,Same H H1->H1 a=some (.lst ys)->P xs.length ys->Q (.ref a) H1):c_D (Ite K b l) (gTup K 2 (c_e (a_M 0) (c_e (a_M 1) gNil))) tt 2 fr σ a H Q:=by
 refine h_G xs.length (λ i zs _=>P i zs) ha hz h0 (λ i zs _ p=>hl i zs p) (λ _ _ _ _ p _=>p) (λ i H1 hi s=>⟨xs,xs[i],hS.up s,by simp [hi]⟩) (λ H1 s=>⟨xs,hS.up s,rfl⟩) ?_ hd;intro i H1 zs hi s1 ez pz os x H3 hos hy C hC1 hC2;obtain ⟨p,x,rfl,hp,rfl,hx⟩:=hy;refine ⟨p,[.int i,x],rfl,SqT.of a_G,rfl,_,[x],rfl,x,[],rfl,rfl,?_⟩
 match os,hos with
 | [o,o'],_ =>
  exact ⟨⟨[some (.int i),some x],rfl,rfl⟩,he i x _ zs (hx xs (hS.up s1)) (s1.trans (Same.new hp)) pz C (λ y H2 s2 r=>hC1 y H2 ((Same.new hp).trans s2) r) λ H2 s2 r=>hC2 H2 ((Same.new hp).trans s2) r⟩
noncomputable def s_H (r:List Int) (i:Nat) (zs:List V):Prop:=zs.length<=i/\((zs=[]/\∀ m,m < i->r.getD m 0=0)\/∃ j:Nat,j < i/\r.getD j 0≠0/\(∀ m,m < j->r.getD m 0=0)/\zs[0]?=some (.int (j:Int)))
noncomputable def LI (H:Hp) (f q:Addr) (ks:List Nat) (i:Nat) (σ:St) (H2:Hp):Prop:=∃ (v2 v3 v4:Option V) (ps:List Addr),σ=[some (.ref f),some (.ref q),v2,v3,v4]/\Same H H2/\H2 q=some (.lst (ps.map V.ref))/\ps.length=min i ks.length /\
 ∀ (m:Nat) p j,ps[m]?=some p->ks[m]?=some j->p≠q/\H2 p=some (.tup [.int m,.int j])
theorem ok_10 (T:Txt K mg t):FnOk P w K mg base CX0 1 t.a_10 t.d_10 ["form"] (sp_10 K):=by
 refine T.F_10.ok sc_10 (by walk_at "v") (λ cdv A outer s H vs Q E hr h=>?_)
 ·obtain ⟨b1,b2,f,F,d,ks,rfl,hM,hF4,hw,hd4,⟨hkl,hL⟩,hQ⟩:=h;refine ⟨_,(a_C (a_P (i:=1) sc_10.nd rfl (Or.inl rfl) (e_g a_B))
   (a_C (c_A zG rfl (g_S rfl T.z_enumerate (a_A (pv 0) a_B)) (c_L rfl (a_Z (b_E (i:=2) sc_10.nd rfl (Or.inl rfl)) (a_Z (b_E (i:=3) sc_10.nd rfl (Or.inl rfl)) c_x)))
   (a_C (c_r (i:=4) (xs:=["k","number"]) (fr:=[]) (g:=(gTup K 2 (c_e (a_M 0) (c_e (a_M 1) gNil)))) (tt:=(e_E (h_x (tOp (rI0 λ i j=>.bl (!decide (i=j))) (tVar 1) (tC (.int 0)))) (tVar 0))) (a_R (sc:=a_D s_10) (N:=N_10) rfl rfl (by decide +kernel)) rfl sc_10.nd rfl rfl (g_S rfl T.z_enumerate (a_A (pv 3) a_B)) (λ _ _ _ hE1=>(c_L rfl (a_Z (a_Y (N:=["k","number"]) (i:=0) hE1 rfl (by decide +kernel)) (a_Z (a_Y (N:=["k","number"]) (i:=1) hE1 rfl (by decide +kernel)) c_x)))) (λ _ _ _ hE1=>(o_c (a_T d_T (pv 1) a_E (a_V _)) (pv 0))))
   (a_F (b_R (a_T h_j (a_Q a_U rfl T.z_len (by decide +kernel) (a_A (pv 4) a_B)) a_E (a_V _))
   (a_F (c_R (j_J PySem.F.plainAttrs_list PySem.F.slot_list_append PySem.F.type_list_append e_p (pv 1) (a_A (c_T (a_A (pv 2) (a_A (px (pv 4) a_E) a_B))) a_B))))
   b_z))))
   (a_F (a_N (pv 1))))),?_⟩
  show tSeq _ _ _ [some (.ref f),none,none,none,none] H;refine st λ N1 e1=>?_;walk_at "r";refine ⟨Nat.zero_le _,λ q hq=>?_⟩;have s1:Same H (upd H q (.lst [])):=Same.new hq;have eq1:(upd H q (.lst [])) q=some (.lst []):=a_G;generalize upd H q (.lst [])=H1 at *
  subst e1;refine st λ N1 e1=>c_C λ B' eB=>?_;simp only [j_M];walk_at "r";obtain ⟨xs,x1,x2,x3⟩:=hM.walk;refine ⟨b1,⟨_,x1.up s1⟩,?_⟩;refine l_v (g:=gTup K 2 (c_e (a_M 2) (c_e (a_M 3) gNil))) (tb:=B') (LI H f q ks) ⟨none,none,none,[],rfl,s1,eq1,by simp,λ m p j e=>by simp at e⟩ (λ i σ H2 _ ⟨_,_,_,_,_,s2,_⟩=>x1.up s2) ?_ ?_
  ·rintro i x p σ H2 ex ⟨v2,v3,v4,ps,rfl,s2,eq2,pl,hps⟩ hp;obtain ⟨pr,r,rfl,er,hr2⟩:=x3 i x ex;have wr:=hw r (zqb er);obtain ⟨hl1,hl2⟩:=hL i r er;have sp:=Same.new (o:=.tup [.int (i:Int),.ref pr]) hp;refine ⟨p,[.int i,.ref pr],rfl,SqT.of a_G,rfl,_,[.ref pr],rfl,_,[],rfl,rfl,?_⟩;have eq3:=sp _ _ eq2;have hps3:∀ (m:Nat) p' j,ps[m]?=some p'->ks[m]?=some j->p'≠q/\(upd H2 p (.tup [.int (i:Int),.ref pr])) p'=some (.tup [.int m,.int j]):=λ m p' j a b=>⟨(hps m p' j a b).1,sp _ _ (hps m p' j a b).2⟩;have s3:=s2.trans sp;generalize upd H2 p (.tup [.int (i:Int),.ref pr])=H3 at *
   subst eB;show tSeq _ _ _ [some (.ref f),some (.ref q),some (.int i),some (.ref pr),v4] H3;refine st λ N2 e2=>?_;simp only [e_P];refine h_H λ C0 B0 eC eB0=>?_;simp only [j_M];walk_at "r";refine ⟨b2,⟨_,hr2.up s3⟩,λ a1 ha1=>?_⟩;refine p_G (K:=K) (s_H r) ha1 (hr2.up s3) (by rw [zqe]; omega) ⟨zL _,.inl ⟨rfl,λ m hm=>by omega⟩⟩ (λ _ _ h=>h.1) ?_ ?_
   ·intro m y H4 zs ey s4 hf C' hC1 hC2;obtain ⟨n,en,rfl⟩:=c_c ey;have gn:r.getD m 0=n:=by rw [zqc,en]; rfl
    subst eC;subst eB0;show e_E _ _ [some (.int m),some (.int n)] H4 C';simp only [e_E];walk_at "r";obtain ⟨zl,hf⟩:=hf;refine ite2 (λ z=>hC1 _ _ (Same.refl _) ⟨by simp; omega,.inr ?_⟩) (λ z=>hC2 _ (Same.refl _) ⟨by omega,?_⟩)
    ·have zn:n≠0:=by simpa using z
     rcases hf with ⟨rfl,h0⟩ | ⟨j,h1,h2,h3,h4⟩
     ·exact ⟨m,by omega,by rw [gn]; exact zn,h0,by simp⟩
     ·refine ⟨j,by omega,h2,h3,?_⟩;have:=(zqa h4).1;rw [yC this]; exact h4
    ·have zn:n=0:=by simpa using z
     rcases hf with ⟨rfl,h0⟩ | ⟨j,h1,h2,h3,h4⟩
     ·refine .inl ⟨rfl,λ m' hm'=>?_⟩;rcases Nat.lt_or_ge m' m with u | u
      ·exact h0 m' u
      ·rw [show m'=m by omega,gn]; exact zn
     ·exact .inr ⟨j,by omega,h2,h3,h4⟩
   ·intro H4 ys s4 ey hf;rw [zqe,wr] at hf;obtain ⟨_,hf⟩:=hf;show N2 [some (.ref f),some (.ref q),some (.int i),some (.ref pr),some (.ref a1)] H4;have eq4:=s4 _ _ eq3;have s04:=s3.trans s4;subst e2;walk_at "r";refine ⟨false,a1,ys,rfl,SqB.lst ey,?_⟩;walk_at "r";rcases hf with ⟨rfl,h0⟩ | ⟨j,h1,h2,h3,h4⟩
    ·have hno:ks.length<=i:=by
      rcases Nat.lt_or_ge i ks.length with u | u
      ·obtain ⟨w1,w2,_⟩:=hl1 ks[i] (zqd u);exact yJ (h0 _ w1) w2
      ·exact u
     refine iteF ?_;exact ⟨_,_,_,ps,rfl,s04,eq4,by omega,λ m p' j a b=>⟨(hps3 m p' j a b).1,s4 _ _ (hps3 m p' j a b).2⟩⟩
    ·have hyes:ks[i]?=some j:=by
      rcases Nat.lt_or_ge i ks.length with u | u
      ·have e:=zqd u;obtain ⟨w1,w2,w3⟩:=hl1 ks[i] e;rcases Nat.lt_trichotomy j ks[i] with v | v | v
       ·exact yJ (w3 j v) h2
       ·rw [e,v]
       ·exact yJ (h3 _ v) w2
      ·exact yJ (hl2 u j) h2
     have ik:=(zqa hyes).1;have yl:=(zqa h4).1;refine ite2 (λ _=>?_) (λ z=>yJ (zW (by omega)) z);refine ⟨.inl ⟨rfl,_,SqL.of eq4⟩,false,a1,_,_,_,rfl,rfl,SqB.lst ey,b_Y h4 rfl,by show 2<=sizeLine; decide,λ pp hpp=>?_⟩;have s5:=Same.new (o:=.tup [.int (i:Int),.int (j:Int)]) hpp;have e5:(upd H4 pp (.tup [.int (i:Int),.int (j:Int)])) pp=some (.tup [.int (i:Int),.int (j:Int)]):=a_G;have eq5:=s5 _ _ eq4;have ppq:pp≠q:=λ z=>by rw [z,eq4] at hpp; cases hpp
     generalize upd H4 pp (.tup [.int (i:Int),.int (j:Int)])=H5 at *;refine ⟨q,_,_,rfl,rfl,eq5,by rw [zqe]; exact Nat.le_of_lt (c_p (by omega)),?_⟩;refine ⟨_,_,_,ps++[pp],rfl,λ b o e=>?_,by rw [a_G]; simp,by simp; omega,λ m p' j' a b=>?_⟩
     ·have:b≠q:=a_J e hq;rw [a_H this]; exact s5 _ _ (s04 _ _ e)
     ·by_cases hm:m < ps.length
      ·rw [yC hm] at a;obtain ⟨n1,n2⟩:=hps3 m p' j' a b;exact ⟨n1,by rw [a_H n1]; exact s5 _ _ (s4 _ _ n2)⟩
      ·have hml:=(zqa a).1;have hmi:m=i:=by simp at hml; omega
       subst hmi;have e6:(ps++[pp])[m]?=some pp:=by rw [yD (by omega)]; simp [show m - ps.length=0 by omega]
       rw [e6] at a;cases a;rw [hyes] at b;cases b;exact ⟨ppq,by rw [a_H ppq]; exact e5⟩
  ·rintro σ H2 ⟨v2,v3,v4,ps,rfl,s2,eq2,pl,hps⟩;subst e1;walk_at "r";refine hQ q H2 s2 hq ⟨ps,eq2,by rw [pl,x2]; omega,λ m p j a b=>(hps m p j a b).2⟩
noncomputable def CI (H:Hp) (f q tp nm:Addr) (u:Int) (d:Nat) (F:LM) (ks:List Nat) (ts:List Int) (W:Nat) (i:Nat) (σ:St) (H2:Hp):Prop:=∃ (v5 v7 v8:Option V) (ns:List Int),
 σ=[some (.ref f),some (.ref q),some (.ref tp),some (.int u),some (.int (scl F ks ks.length)),v5,some (.ref nm),v7,v8]/\Same H H2/\H2 nm=some (.lst (ns.map V.int))/\Cl d F ks ts W (ks.length - i) ns
theorem ok_1c (T:Txt K mg t):FnOk P w K mg base CX0 3 t.a_1c t.d_1c pg' (sp_1c K):=by
 have G_1z:=@ok_1z P w K mg base t T;have G_19:=@ok_19 P w K mg base t T;refine T.F_1c.ok sc_1c (by walk_at "v") (λ cdv A outer s H vs Q E hr h=>?_)
 ·obtain ⟨b1,b2,b3,f,q,tp,F,d,ks,ts,u,W,rfl,hM,⟨ps,hq1,hq2,hq3⟩,hT,fl,fw,tl,d1,d3,kd,ksS,ksK,hld,su,u0,bF',bT,hW,hQ⟩:=h;have bts:∀ z∈ts,z.natAbs<=2 ^ W:=λ z hz=>bT ts zU z hz;refine ⟨_,(a_C (a_P (i:=4) sc_1c.nd rfl (Or.inl rfl) a_E)
   (a_C (c_A zG rfl (b_M (pv 1)) (b_E (i:=5) sc_1c.nd rfl (Or.inl rfl))
   (a_F (a_P (i:=4) sc_1c.nd rfl (Or.inl rfl) (a_L b_C (pv 4) (px (px (pv 0) (px (pv 5) a_E)) (px (pv 5) a_E))))))
   (a_C (a_P (i:=6) sc_1c.nd rfl (Or.inl rfl) (a_L n_X (e_g (a_A a_E a_B)) (a_Q a_U rfl T.z_len (by decide +kernel) (a_A (px (pv 0) a_E) a_B))))
   (a_C (c_A zG rfl (r_N rfl T.z_reversed (a_A (pv 1) a_B)) (b_E (i:=5) sc_1c.nd rfl (Or.inl rfl))
   (a_C (a_P (i:=7) sc_1c.nd rfl (Or.inl rfl) (px (pv 0) (px (pv 5) a_E)))
   (a_C (a_P (i:=8) sc_1c.nd rfl (Or.inl rfl) (a_L d_R (a_L b_C (px (pv 2) (px (pv 5) a_E)) (pv 4)) (a_I G_1z hr.mo rfl T.m_1z T.F_1z.kp T.b_1z .nil a_O (a_A (pv 7) (a_A (pv 6) a_B)))))
   (a_F (d_B (a_L b_N (pv 8) (px (pv 7) (px (pv 5) a_E))) (e_J (pv 6) (px (pv 5) a_E) d_I))))))
   (a_F (a_N (a_I G_19 hr.mo rfl T.m_19 T.F_19.kp T.b_19 .nil e_x (a_A (pv 6) (a_A (a_L b_C (pv 3) (pv 4)) a_B))))))))),?_⟩
  show tSeq _ _ _ [some (.ref f),some (.ref q),some (.ref tp),some (.int u),none,none,none,none,none] H;have mref:∀ {m:Nat} {p:Addr},ps[m]?=some p->(ps.map V.ref)[m]?=some (.ref p):=λ e=>by rw [zH,e]; rfl
  have pair:∀ {i:Nat} {x:V},(ps.map V.ref)[i]?=some x->∃ p j r,x=.ref p/\i < ks.length/\ps[i]?=some p/\ks[i]?=some j/\H p=some (.tup [.int i,.int j])/\F[i]?=some r/\r.length=d/\j < d:=λ {i x} e=>by
   have hi:i < ps.length:=by have:=(zqa e).1; simpa using this
   obtain ⟨p,hp⟩:∃ p,ps[i]?=some p:=⟨_,zqd hi⟩;obtain ⟨j,hj⟩:∃ j,ks[i]?=some j:=⟨_,zqd (by omega)⟩;obtain ⟨r,hr⟩:∃ r,F[i]?=some r:=⟨_,zqd (by omega)⟩;rw [mref hp] at e;cases e;exact ⟨p,j,r,rfl,by omega,hp,hj,hq3 i p j hp hj,hr,fw r (zqb hr),ksK j (zqb hj)⟩
  have ix0:∀ {H2:Hp} {p:Addr} {i j:Nat} {Q':VK},H2 p=some (.tup [.int i,.int j])->Q' (.int i) H2->rIxB K (.ref p) (.int 0) H2 Q':=λ e q=>⟨true,_,_,_,_,rfl,rfl,SqB.tup e,rfl,q⟩;have ix1:∀ {H2:Hp} {p:Addr} {i j:Nat} {Q':VK},H2 p=some (.tup [.int i,.int j])->Q' (.int j) H2->rIxB K (.ref p) (.int 1) H2 Q':=λ e q=>⟨true,_,_,_,_,rfl,rfl,SqB.tup e,rfl,q⟩;have lv:∀ {i j:Nat} {r:List Int},F[i]?=some r->ks[i]?=some j->c_H F ks i=r.getD j 0:=λ {i j r} e1 e2=>by
   unfold c_H;rw [zqc (l:=F),e1,zqc (l:=ks),e2];rfl
  refine st λ N1 e1=>?_;walk_at "r";subst e1;refine st λ N1 e1=>c_C λ B' eB=>?_;simp only [iSeq];walk_at "r";refine ⟨false,⟨_,SqB.lst hq1⟩,?_⟩;refine g_u (g:=a_M 5) (tb:=B') (λ i σ H2=>∃ v5,σ=[some (.ref f),some (.ref q),some (.ref tp),some (.int u),some (.int (scl F ks i)),v5,none,none,none]/\H2=H) ⟨none,rfl,rfl⟩ (λ i σ H2 _ ⟨_,_,e⟩=>e ▸ SqB.lst hq1) ?_ ?_
  ·rintro i x σ H2 ex ⟨v5,rfl,rfl⟩;obtain ⟨p,j,r,rfl,hi,hp,hj,hpt,hr',wr,jd⟩:=pair ex;subst eB;show tAsg _ _ _ [some (.ref f),some (.ref q),some (.ref tp),some (.int u),some (.int (scl F ks i)),some (.ref p),none,none,none] H2;walk_at "r";refine ix0 hpt ?_;refine f_C hM hr' rfl λ pr hpr=>?_;refine ix1 hpt ?_;refine g_l hpr (show (r.map V.int)[j]?=some (.int (r.getD j 0)) from c_N (getD_at (by omega))) ?_;walk_at "r";refine ⟨mulOk_of_bits (c_o (j_A bF' i)) (c_o (bF' r (zqb hr') _ (L2.getD_mem (by omega)))) (by have:i*W<=3*W:=zK _ (by omega); omega),?_⟩;show _=scl F ks i*c_H F ks i;rw [lv hr' hj]
  ·rintro σ H2 ⟨v5,rfl,rfl⟩;rw [zqe,hq2];have bS:=j_A (ks:=ks) bF' ks.length;obtain ⟨r0,e0⟩:∃ r,F[0]?=some r:=⟨_,zqd (by omega)⟩;subst e1;refine st λ N1 e1=>?_;walk_at "r";refine ⟨by show 1<=sizeLine; decide,λ z1 hz1=>?_⟩;have s1:=Same.new (o:=.lst [.int 0]) hz1;have ez1:(upd H2 z1 (.lst [.int 0])) z1=some (.lst [.int 0]):=a_G;generalize upd H2 z1 (.lst [.int 0])=H3 at *
   refine f_C (hM.up s1) e0 rfl λ p0 hp0=>?_;refine c_s hp0 ?_;rw [fw r0 (zqb e0)];refine ⟨z1,(d:Int),_,rfl,rfl,ez1,by omega,by omega,by show 1*_<=_; rw [zR]; exact Nat.le_of_lt (c_p (by omega)),λ nm hnm=>?_⟩;have er:(List.replicate (d:Int).toNat [V.int 0]).flatten=(List.replicate d (0:Int)).map V.int:=by
    rw [zR];have:d=1\/d=2\/d=3:=by omega
    rcases this with rfl | rfl | rfl <;> rfl
   rw [er];have s2:=s1.trans (Same.new (o:=.lst ((List.replicate d (0:Int)).map V.int)) hnm);have enm:(upd H3 nm (.lst ((List.replicate d (0:Int)).map V.int))) nm=some (.lst ((List.replicate d (0:Int)).map V.int)):=a_G;have nm0:H2 nm=none:=by
    cases w:H2 nm with
    | none=>rfl
    | some o=>rw [s1 _ _ w] at hnm; cases hnm
   generalize upd H3 nm (.lst ((List.replicate d (0:Int)).map V.int))=H4 at *;show N1 [some (.ref f),some (.ref q),some (.ref tp),some (.int u),some (.int (scl F ks ks.length)),v5,some (.ref nm),none,none] H4;subst e1;refine st λ N1 e1=>c_C λ B' eB=>?_;simp only [iRev];walk_at "r";refine ⟨_,SqL.of (s2 _ _ hq1),?_⟩;rw [zqe,hq2];have start:Cl d F ks ts W (ks.length - 0) (List.replicate d 0):=by
    refine ⟨by simp,λ i r x h1 h2=>by omega,λ i j _ hj=>?_,λ z hz=>?_,λ z hz=>?_⟩
    ·rw [zqc,List.getElem?_replicate]; split <;> rfl
    ·rw [List.eq_of_mem_replicate hz]; exact Int.dvd_zero _
    ·rw [List.eq_of_mem_replicate hz]; exact Nat.zero_le _
   refine r_O (xs:=ps.map V.ref) (g:=a_M 5) (tb:=B') (CI H2 f q tp nm u d F ks ts W) ⟨_,_,_,_,rfl,s2,enm,start⟩ (by rw [zqe,hq2]) (λ i σ H5 _ ⟨_,_,_,_,_,s5,_⟩=>SqL.of (s5 _ _ hq1)) ?_ ?_
   ·rintro i x σ H5 ex hi ⟨v5',v7,v8,ns,rfl,s5,en5,cl⟩;obtain ⟨p,j,r,rfl,him,hp,hj,hpt,hr',wr,jd⟩:=pair ex;have hpt5:=s5 _ _ hpt;obtain ⟨lp,lb,_⟩:=hld _ r j hr' hj;obtain ⟨xt,ext⟩:∃ xt,ts[ks.length - 1 - i]?=some xt:=⟨_,zqd (by omega)⟩;have jl:j < ns.length:=by rw [cl.len]; exact jd
    subst eB;show tSeq _ _ _ [some (.ref f),some (.ref q),some (.ref tp),some (.int u),some (.int (scl F ks ks.length)),some (.ref p),some (.ref nm),v7,v8] H5;refine st λ N2 e2=>?_;walk_at "r";refine ix0 hpt5 ?_;refine f_C (hM.up s5) hr' rfl λ pr hpr=>?_;show N2 [some (.ref f),some (.ref q),some (.ref tp),some (.int u),some (.int (scl F ks ks.length)),some (.ref p),some (.ref nm),some (.ref pr),v8] H5;subst e2;refine st λ N2 e2=>?_;walk_at "r";refine ix0 hpt5 ?_;refine g_l (hT.up s5) (c_N ext) ?_;walk_at "r";have bx:=bts xt (zqb ext);have b4:∀ z∈ns,z.natAbs<=2 ^ (4*W+3*(W+4)):=λ z hz=>zS (cl.bd z hz) (zM (by decide) (Nat.add_le_add_left (zK _ (by omega)) _));refine ⟨mulOk_of_bits (c_o bx) (c_o bS) (by have:ks.length*W<=3*W:=zK _ (by omega); omega),?_⟩;refine ⟨b2,false,pr,nm,r,ns,rfl,hpr,SqB.lst en5,by rw [wr,cl.len],by omega,λ i' m' n' e1' e2'=>mulOk_of_bits (c_o (bF' r (zqb hr') m' (zqb e1'))) (c_o (b4 n' (zqb e2'))) (by omega),λ H6 s6=>?_⟩;subst e2;simp only [tAsg,gSub,f_T];walk_at "r";refine ix1 (s6 _ _ hpt5) ?_;refine g_l (hpr.up s6) (show (r.map V.int)[j]?=some (.int (r.getD j 0)) from c_N (getD_at (by omega))) ?_;walk_at "r";refine ⟨⟨by omega,zI ((Nat.log2_lt (by omega)).mpr lb) (by decide)⟩,?_⟩;refine ix1 (s6 _ _ hpt5) ?_;refine ⟨_,_,rfl,s6 _ _ en5,j,d_N (by rw [zqe]; exact jl),?_⟩;have e3:ks.length - i=(ks.length - 1 - i)+1:=by omega
    rw [e3] at cl;have st':=cl.step (by omega) d3 (by omega) ksS hj jd hr' ext (λ i r j a b=>⟨(hld i r j a b).1,(hld i r j a b).2.2⟩) wr bF' bx;rw [show ks.length - 1 - i=ks.length - (i+1) by omega] at st';refine ⟨_,_,_,_,rfl,λ b o e=>?_,?_,st'⟩
    ·rw [a_H (a_J e nm0)]; exact s6 _ _ (s5 _ _ e)
    ·rw [a_G,List.map_set]
   ·rintro σ H5 ⟨v5',v7,v8,ns,rfl,s5,en5,cl⟩;rw [Nat.sub_self] at cl;subst e1;walk_at "r";have sc0:scl F ks ks.length≠0:=by
     have go:∀ m,m<=ks.length->scl F ks m≠0:=by
      intro m
      induction m with
      | zero=>intro _; show (1:Int)≠0; decide
      | succ m ih =>
       intro hm;obtain ⟨j,hj⟩:∃ j,ks[m]?=some j:=⟨_,zqd (by omega)⟩;obtain ⟨r,hr⟩:∃ r,F[m]?=some r:=⟨_,zqd (by omega)⟩;show scl F ks m*c_H F ks m≠0;rw [lv hr hj];have:=(hld m r j hr hj).1;exact Int.mul_ne_zero (ih (by omega)) (by omega)
     exact go _ (zL _)
    refine ⟨mulOk_of_bits (m:=9000) (b_G (zI (show u.natAbs < 2 ^ 8990 from ?_) (zM (by decide) (by decide)))) (c_o bS) (by have:ks.length*W<=3*W:=zK _ (by omega); omega),?_⟩
    ·have h1:1<=(scl F ks ks.length).natAbs:=by omega
     have h2:(u*scl F ks ks.length).natAbs < 2 ^ 8990:=su;rw [yE] at h2;exact Nat.lt_of_le_of_lt (by have:=Nat.mul_le_mul_left u.natAbs h1; omega) h2
    have un:u*scl F ks ks.length≠0:=Int.mul_ne_zero u0 sc0;have nn:ns≠[]:=λ z=>by have:=cl.len; rw [z] at this; simp at this; omega
    refine ⟨false,nm,ns,_,rfl,SqB.lst en5,by rw [cl.len]; omega,su,λ z=>?_,λ _ _ p H6 s6 hp=>?_⟩
    ·rcases z with z | z
     ·exact yJ z un
     ·exact yJ z nn
    ·refine hQ p H6 ns (s5.trans s6) hp cl.len (λ z hz=>Nat.lt_of_le_of_lt (cl.bd z hz) (Nat.pow_lt_pow_right (by decide) ?_)) λ i r x hi er ex=>cl.eq i r x (Nat.zero_le _) hi er ex;have:(ks.length - 0)*(W+4)<=3*(W+4):=zK _ (by omega);omega
theorem ok_18 (T:Txt K mg t) (Bm:d_V mg base):FnOk P w K mg base CX0 5 t.a_18 t.d_18 pt' (sp_18 K t):=by
 have G_1k:=@ok_1k P w K mg base t T Bm;have G_10:=@ok_10 P w K mg base t T;have G_1z:=@ok_1z P w K mg base t T;have G_1c:=@ok_1c P w K mg base t T;refine T.F_18.ok sc_18 (by walk_at "v") (λ cdv A outer s H vs Q E hr h=>?_)
 ·obtain ⟨b1,b2,a,sp,f,c,pm,ctv,MA,ts,u,d,B,rfl,hM,sA,hd,bA,hB,hP,u0,u71,tl,bts,tt,ef,ec,hQ⟩:=h;refine ⟨_,(a_C (a_P (i:=3) sc_18.nd rfl (Or.inl rfl) (a_I G_1k hr.mo rfl T.m_1k T.F_1k.kp T.b_1k .nil a_O (a_A (pv 0) a_B)))
   (a_C (a_P (i:=4) sc_18.nd rfl (Or.inl rfl) (px (pv 3) a_E))
   (a_C (a_P (i:=5) sc_18.nd rfl (Or.inl rfl) (px (pv 3) a_E))
   (a_C (a_P (i:=6) sc_18.nd rfl (Or.inl rfl) (a_I G_10 hr.mo rfl T.m_10 T.F_10.kp T.b_10 .nil a_O (a_A (pv 4) a_B)))
   (a_C (c_r (i:=7) (xs:=["line"]) (fr:=[("spot",1)]) (g:=(a_M 0)) (tt:=(tEl (e_o (sp_1z K) [] E0 (b_D (tVar 0) (b_D (tOp (rIxB K) (tVar 1) (tC (.int 0))) tNil))))) (a_R (sc:=a_D s_18) (N:=N_18) rfl rfl (by decide +kernel)) rfl sc_18.nd rfl rfl (b_M (pv 5)) (λ _ _ _ hE1=>(a_Y (N:=["line","spot"]) (i:=0) hE1 rfl (by decide +kernel))) (λ _ _ _ hE1=>(b_J (a_I G_1z hr.mo rfl T.m_1z T.F_1z.kp T.b_1z .nil a_O (a_A (pv 0) (a_A (px (pv 1) a_E) a_B))))))
   (a_C (c_A zG rfl (e_X rfl T.z_range (a_A (a_Q a_U rfl T.z_len (by decide +kernel) (a_A (pv 6) a_B)) (a_A (a_Q a_U rfl T.z_len (by decide +kernel) (a_A (pv 4) a_B)) a_B))) (b_E (i:=8) sc_18.nd rfl (Or.inl rfl))
   (a_F (b_R (k_t (e_f (o_B (x := "top") (qual := "met.<locals>.<lambda>") (params:=lamP d_z) (body:=lamB d_z) (scope:=lamS d_z) (i:=2) (j_i (sc:=a_D s_18) (N:=N_18) rfl rfl (by decide +kernel)) rfl ⟨rfl,rfl,λ _ _ _ _ _ _ _ _=>rfl⟩ hr.depth rfl (Or.inl rfl) (px (pv 7) (pv 8)) (te:=(tOp (rI0 λ i j=>.bl (decide (i=j))) (tVar 0) (tC (.int 0)))) (λ _ _ _ _=>(c_S c_g (pv 0) a_E (a_V _))))))
   (a_F (a_N (c_T (a_A c_z (a_A (b_T d_C rfl T.z_tuple (by decide +kernel) (a_A (px (pv 5) (pv 8)) a_B)) a_B)))))
   b_z)))
   (a_F (a_N (c_T (a_A c_z (a_A (a_I G_1c hr.mo rfl T.m_1c T.F_1c.kp T.b_1c .nil a_O (a_A (pv 4) (a_A (pv 6) (a_A (pv 7) (a_A (px (pv 1) a_E) a_B))))) a_B))))))))))),?_⟩
  show tSeq _ _ _ [some (.ref a),some (.ref sp),some (.ref f),none,none,none,none,none,none] H;have hcF:cF B d<=254000:=r_s hB (by omega);refine st λ N1 e1=>?_;walk_at "r";refine ⟨b1,b2,a,MA,d,B,rfl,hM,sA,hd,bA,hB,tt,λ r fo re h3 F R ks H1 ev1 tt1 er hF hR sta=>?_⟩;have hP1:=k_o hP ev1;have ef1:H1 f=some (lamO f c "met.<locals>.<lambda>" (lamP d_z) (lamB d_z) (lamS d_z) [] pm ctv):=ev1.1 _ _ (λ z=>nomatch z) (λ _ z=>by unfold lamO at z; cases z) ef;have ec1:H1 c=some (d_K c "met.<locals>.<lambda>"):=ev1.1 _ _ (λ z=>nomatch z) (λ _ z=>by unfold d_K at z; cases z) ec;subst e1;refine st λ N1 e1=>?_;walk_at "r";refine ⟨true,r,_,_,_,rfl,rfl,SqB.tup er,rfl,?_⟩;subst e1;refine st λ N1 e1=>?_;walk_at "r";refine ⟨true,r,_,_,_,rfl,rfl,SqB.tup er,rfl,?_⟩;subst e1;refine st λ N1 e1=>?_;walk_at "r";have fl:=sta.fl;have rl:=sta.rl;refine ⟨false,false,fo,F,d,ks,rfl,hF.b,by omega,sta.fw,by omega,⟨by rw [fl]; exact sta.kn,λ i r' e=>⟨λ j ej=>⟨sta.ksK j (zqb ej),by have:=(sta.lead i r' j e ej).1; omega,(sta.lead i r' j e ej).2.2⟩,λ hi=>sta.zero i r' hi e⟩⟩,λ q H2 s2 hq0 hq=>?_⟩;show N1 [some (.ref a),some (.ref sp),some (.ref f),some (.ref r),some (.ref fo),some (.ref re),some (.ref q),none,none] H2;subst e1;refine st λ N1 e1=>?_;show e_P _ _ _ [some (.ref a),some (.ref sp),some (.ref f),some (.ref r),some (.ref fo),some (.ref re),some (.ref q),none,none] H2;simp only [e_P];refine a_S λ B' eB=>?_;simp only [iSeq];walk_at "r";obtain ⟨ps,p1,p2,p3⟩:=hR.up s2;obtain ⟨pt,hP1a,hP1b⟩:=hP1;refine ⟨false,⟨_,SqB.lst p1⟩,λ tp htp=>?_⟩;refine c_h (λ j y _=>∃ s',R[j]?=some s'/\y=.int (dotI s' ts)) htp (SqB.lst p1) (by rw [zqe,p2,rl]; omega) (λ _ _ _ _ h _=>h) ?_ ?_
  ·intro i v H3 zs ev s3 ez Q' hQ';have hin:i < ps.length:=by have:=(zqa ev).1; simpa using this
   obtain ⟨p',hp'⟩:∃ p',ps[i]?=some p':=⟨_,zqd hin⟩;obtain ⟨r',er'⟩:∃ r',R[i]?=some r':=⟨_,zqd (by omega)⟩;rw [zH,hp'] at ev;cases ev;subst eB;show e_o _ _ _ _ [some (.ref p'),some (.ref sp)] H3 Q';walk_at "r";refine ⟨true,sp,_,_,_,rfl,rfl,SqB.tup (s3 _ _ (s2 _ _ hP1a)),rfl,?_⟩;refine ⟨false,true,p',pt,r',ts,rfl,SqB.lst (s3 _ _ (p3 i p' r' hp' er').2),SqB.tup (s3 _ _ (s2 _ _ hP1b)),by rw [sta.rw r' (zqb er'),tl],by rw [sta.rw r' (zqb er')]; omega,λ _ m n e1 e2=>mulOk_of_bits (c_o (sta.br r' (zqb er') m (zqb e1))) (b_G (bts n (zqb e2))) (by omega),λ H4 s4=>?_⟩;exact hQ' _ _ s4 ⟨r',er',rfl⟩
  ·intro H3 zs s3 ez hlz hr3;have ey:zs=(R.map λ s'=>dotI s' ts).map V.int:=by
    refine b_K (by rw [hlz,zqe,zqe,p2]) λ j y e=>?_;obtain ⟨s',es,rfl⟩:=hr3 j y e;exact ⟨_,by rw [zH,es]; rfl,rfl⟩
   subst ey;have sam:=s2.trans s3;have hF3:=hF.up sam;have hR3:=hR.up sam;have tt3:TT K t H3:=(c_n (S:=[]) sam).2 tt1;have ev3:Ev K t [] H H3:=ev1.trans (c_n sam);have ef3:=sam _ _ ef1;have ec3:=sam _ _ ec1;have hsp3:=sam _ _ hP1a;obtain ⟨qs,hq1,hq2,hq3⟩:=hq;have hqS:SqB false K H3 q (qs.map V.ref):=SqB.lst (s3 _ _ hq1);show N1 [some (.ref a),some (.ref sp),some (.ref f),some (.ref r),some (.ref fo),some (.ref re),some (.ref q),some (.ref tp),none] H3;subst e1;refine st λ N1 e1=>c_C λ B' eB=>?_;simp only [j_H];walk_at "r";refine ⟨false,q,_,rfl,hqS,?_⟩;rw [zqe,hq2];refine b_V (hF3.b (K:=K)) ?_;rw [fl];have kn:=sta.kn;walk_at "r";refine ⟨by omega,by omega,by omega,by omega,?_⟩;refine d_J (g:=a_M 8) (tb:=B') (λ i σ H4=>∃ v8,σ=[some (.ref a),some (.ref sp),some (.ref f),some (.ref r),some (.ref fo),some (.ref re),some (.ref q),some (.ref tp),v8]/\H4=H3/\∀ (m:Nat) s',ks.length<=m->m < ks.length+i->R[m]?=some s'->dotI s' ts=0) ⟨none,rfl,rfl,λ m _ h1 h2=>by omega⟩ ?_ ?_
   ·rintro i σ H4 hi ⟨v8,rfl,rfl,hz⟩;obtain ⟨s',es⟩:∃ s',R[ks.length+i]?=some s':=⟨_,zqd (by omega)⟩;subst eB;show tIfS _ _ _ _ [some (.ref a),some (.ref sp),some (.ref f),some (.ref r),some (.ref fo),some (.ref re),some (.ref q),some (.ref tp),some (.int ((ks.length:Int)+i))] H4;simp only [tIfS,tNot,tB,o_A];refine ⟨f,c,pm,ctv,rfl,?_⟩;walk_at "r";refine ⟨false,tp,_,_,_,rfl,rfl,SqB.lst ez,b_Y (k:=ks.length+i) (show ((R.map λ s'=>dotI s' ts).map V.int)[ks.length+i]?=some (.int (dotI s' ts)) by rw [zH,zH,es]; rfl) (by omega),ef3,ec3,?_⟩;walk_at "r"
    by_cases h0:dotI s' ts=0
    ·rw [zW h0];refine iteF ?_;refine λ m s'' h1 h2 e=>?_;rcases Nat.lt_or_ge m (ks.length+i) with w1 | w1
     ·exact hz m s'' h1 w1 e
     ·rw [show m=ks.length+i by omega,es] at e; cases e; exact h0
    ·rw [zX h0];refine iteT ?_;obtain ⟨rs,r1,r2,r3⟩:=id hR3;obtain ⟨p',hp'⟩:∃ p',rs[ks.length+i]?=some p':=⟨_,zqd (by omega)⟩;refine ⟨false,re,_,_,_,rfl,rfl,SqB.lst r1,b_Y (k:=ks.length+i) (show (rs.map V.ref)[ks.length+i]?=some (.ref p') by rw [zH,hp']; rfl) (by omega),p',_,rfl,.inl ⟨SqL.of (r3 _ p' s' hp' es).2,λ tu htu=>?_⟩⟩;have s5:=Same.new (o:=.tup (s'.map V.int)) htu;refine ⟨by show 2<=sizeLine; decide,λ z hz'=>?_⟩;have s6:=s5.trans (Same.new (o:=.tup [.str "row",.ref tu]) hz');have eF':F[ks.length+i]?=some F[ks.length+i]:=zqd (by omega);refine hQ _ _ (ev3.trans (c_n s6)) ((c_n (S:=[]) s6).2 tt3) ⟨z,rfl,.inr ⟨tu,s',a_G,?_,sta.rw s' (zqb es),λ x hx=>Nat.lt_of_le_of_lt (sta.br s' (zqb es) x hx) (Nat.pow_lt_pow_right (by decide) (by omega)),λ k hk=>?_,h0⟩⟩
     ·rw [a_H (a_J a_G hz'),a_G]
     ·have e:=sta.lin _ _ _ eF' es;have zk:=sta.zero _ _ (Nat.le_add_right _ _) eF' k;rw [e] at zk;unfold rowT e_H at zk;rw [List.map_map,zqc,zH,yH hk] at zk;exact zk
   ·rintro σ H4 ⟨v8,rfl,rfl,hz⟩;subst e1;walk_at "r";have e71:u.natAbs < 2 ^ 71:=by omega
    have lead3:∀ (i:Nat) r j,F[i]?=some r->ks[i]?=some j->0 < r.getD j 0:=λ i r j h1 h2=>(sta.lead i r j h1 h2).1;have sp0:=m_a lead3 (by rw [fl]; exact kn) ks.length (zL _);have ssm:=n_D (by omega) (by rw [fl]; exact kn) sta.ksS sta.ksK (B:=B) λ i r j h1 h2=>(sta.lead i r j h1 h2).2.1;have e1:bF B 0+bF B 1+bF B 2<=7600:=by show B+(5*B+3)+(5*(5*B+3)+3)<=7600; omega
    have smu:c_V (u*scl F ks ks.length):=by
     show (u*scl F ks ks.length).natAbs < 2 ^ 8990;rw [yE];refine zI (Nat.mul_lt_mul_of_lt_of_le e71 ssm (Nat.pow_pos (by decide))) ?_;rw [← Nat.pow_add];exact zM (by decide) (by omega)
    refine ⟨true,sp,_,_,_,rfl,rfl,SqB.tup hsp3,rfl,?_⟩;have wF:BdM (2 ^ 260000) F:=λ r' hr' z hz'=>zS (sta.bf r' hr' z hz') (zM (by decide) (by omega));have wT:BdM (2 ^ 260000) [R.map λ s'=>dotI s' ts]:=λ r' hr' z hz'=>by
     rw [List.mem_singleton.mp hr'] at hz';obtain ⟨s',hs',rfl⟩:=List.mem_map.mp hz';have b:=l_h s' ts (sta.br s' hs') (B:=2 ^ 1700) λ z hz=>Nat.le_of_lt (bts z hz);refine zS b ?_;rw [sta.rw s' hs',← Nat.pow_add];refine zS (zK _ (show d<=2 ^ 2 by omega)) ?_;rw [← Nat.pow_add];exact zM (by decide) (by omega)
    refine ⟨false,false,false,fo,q,tp,F,d,ks,R.map λ s'=>dotI s' ts,u,260000,rfl,hF3.b,⟨qs,s3 _ _ hq1,hq2,λ i p j h1 h2=>s3 _ _ (hq3 i p j h1 h2)⟩,SqB.lst ez,fl,sta.fw,by rw [zqe]; exact rl,by omega,by omega,kn,sta.ksS,sta.ksK,
     λ i r' j h1 h2=>⟨lead3 i r' j h1 h2,Nat.lt_of_le_of_lt (sta.lead i r' j h1 h2).2.1 (Nat.pow_lt_pow_right (by decide) ?_),(sta.lead i r' j h1 h2).2.2⟩,smu,by omega,wF,wT,by omega,λ p H5 ns s5 hp nl nb neq=>?_⟩
    ·have hj:=sta.ksK j (zqb h2);have:=r_r (k:=j) hB (by omega);omega
    ·refine ⟨by show 2<=sizeLine; decide,λ z hz'=>?_⟩;have s6:=s5.trans (Same.new (o:=.tup [.str "place",.ref p]) hz');have pos:0 < u*scl F ks ks.length:=Int.mul_pos u0 sp0;have rle:=d_H ns pos;have key:=n_F hd sA sta tl nl (S:=scl F ks ks.length) (λ i r' s' hi h1 h2=>neq i r' _ hi h1 (by rw [zH,h2]; rfl)) λ i s' hi h2=>hz i s' hi (by have:=(zqa h2).1; omega) h2;refine hQ _ _ (ev3.trans (c_n s6)) ((c_n (S:=[]) s6).2 tt3) ⟨z,rfl,.inl ⟨p,_,_,a_G,hp.up (Same.new hz'),rle.1,?_,j_l (by omega),by unfold redT; rw [zqe]; exact nl,f_G (by omega) nb,λ i row x h1 h2=>?_⟩⟩
     ·show (redU (u*scl F ks ks.length) ns).natAbs < 2 ^ 8990;have:(u*scl F ks ks.length).natAbs < 2 ^ 8990:=smu;omega
     ·have e2:=key i row x h1 h2;have e3:=i_f (w:=redU (u*scl F ks ks.length) ns) (c:=u*scl F ks ks.length) row ns (redT (u*scl F ks ks.length) ns) (by unfold redT; rw [zqe]) λ i a b h3 h4=>c_t (by omega) h3 h4;rw [e2] at e3;have:scl F ks ks.length*(dotI row (redT (u*scl F ks ks.length) ns)*u)=scl F ks ks.length*(x*redU (u*scl F ks ks.length) ns):=by grind
      exact Int.eq_of_mul_eq_mul_left (by omega) this
theorem ok_24 (T:Txt K mg t) (Bm:d_V mg base):FnOk P w K mg base CX0 6 t.a_24 t.d_24 pq' (sp_24 K t):=by
 have G_18:=@ok_18 P w K mg base t T Bm;have G_19:=@ok_19 P w K mg base t T;refine T.F_24.okL T.tb_24 sc_24 (λ vs H Q E h=>?_) (λ A outer s H vs Q E hr h=>?_)
 ·obtain ⟨b1,b2,b3,a,tp,A,ts,u,d,B,rfl,_⟩:=h;rfl
 ·obtain ⟨b1,b2,b3,a,tp,MA,ts,u,d,B,rfl,hM,hT,sA,hd,bA,hB,u0,u71,hg,tl,bts,tt,hQ⟩:=h;refine ⟨_,(a_F (a_N (a_I G_18 hr.mo rfl T.m_18 T.F_18.kp T.b_18 .nil a_O (a_A (pv 0) (a_A (a_I G_19 hr.mo rfl T.m_19 T.F_19.kp T.b_19 .nil e_x (a_A (pv 1) (a_A (pv 2) a_B))) (a_A (o_w (x := "top") (fr:=[]) (qual := "met.<locals>.<lambda>") (f0:=t.a_24) (j_i (sc:=a_D s_24) (N:=N_24) rfl rfl (by decide +kernel)) T.tb_24 rfl Bm) a_B)))))),?_⟩;show tRet _ _ [some (.ref a),some (.ref tp),some (.int u)] H;walk_at "r";have rs:=g_b u0 hg;refine ⟨b3,tp,ts,u,rfl,hT,by omega,zI (show u.natAbs < 2 ^ 71 by omega) (zM (by decide) (by decide)),λ z=>?_,λ _ _ p H1 s1 hp=>?_⟩
  ·rcases z with z | z
   ·omega
   ·rw [z] at tl; simp at tl; omega
  ·have hp':b_P H1 p ts u:=by
    unfold redT redU at hp;rw [rs.1,rs.2] at hp;exact hp
   have tt1:=(c_n (K:=K) (t:=t) (S:=[]) s1).2 tt;refine ⟨tt1.m,λ f c pm ctv H2 sp hf e1 e2 e3=>?_⟩;obtain ⟨ev2,tt2⟩:=tt1.meet sp (.inr ⟨c,e3,e2⟩);have ev:Ev K t [] H H2:=(c_n s1).trans ev2;exact ⟨b1,b2,a,p,f,c,pm,ctv,MA,ts,u,d,B,rfl,l_T hM ev,sA,hd,bA,hB,k_o hp' ev2,u0,u71,tl,bts,tt2,e1,e2,λ v H3 ev3 tt3 hm=>hQ v H3 (ev.trans ev3) tt3 hm⟩
theorem s_I {d:Nat} {A:LM} (sA:Sq d A):(List.range A.length).map (λ i=>List.zipWith (· - ·) (A.getD i []) ((idM d).getD i []))=lsM d A:=by
 have il:(idM d).length=d:=by simp [idM]
 unfold lsM;refine yG (by simp [il,sA.1]) λ i h1 h2=>?_;have hi:i < A.length:=by simpa using h1
 rw [List.getElem_map,List.getElem_range,List.getElem_zipWith,zqc,zqc,zqd hi,zqd (by rw [il,← sA.1]; exact hi)];rfl
theorem ok_p (T:Txt K mg t):FnOk P w K mg base CX0 2 t.a_p t.d_p pK' (sp_p K):=by
 have G_7:=@ok_7 P w K mg base t T;refine T.F_p.ok sc_p (by walk_at "v") (λ cdv A outer s H vs Q E hr h=>?_)
 ·obtain ⟨b1,b2,a,MA,d,rfl,hM,sA,hd,hQ⟩:=h;refine ⟨_,(a_F (a_N (a_X (xs:=["row","units"]) (fr:=[]) (g:=(gTup K 2 (c_e (a_M 0) (c_e (a_M 1) gNil)))) (tt:=(tEl (b_X (iZip K (b_D (tVar 0) (b_D (tVar 1) tNil))) (gTup K 2 (c_e (a_M 0) (c_e (a_M 1) gNil))) (tEl (tOp (rI0 λ i j=>.int (i - j)) (tVar 0) (tVar 1))) 2 []))) (a_R (sc:=a_D s_p) (N:=N_p) rfl rfl (by decide +kernel)) rfl (g_s rfl T.z_zip (a_A (pv 0) (a_A (a_I G_7 hr.mo rfl T.m_7 T.F_7.kp T.b_7 .nil a_O (a_A (a_Q a_U rfl T.z_len (by decide +kernel) (a_A (pv 0) a_B)) a_B)) a_B))) (λ _ _ _ hE1=>(c_L rfl (a_Z (a_Y (N:=["row","units"]) (i:=0) hE1 rfl (by decide +kernel)) (a_Z (a_Y (N:=["row","units"]) (i:=1) hE1 rfl (by decide +kernel)) c_x)))) (λ _ _ _ hE1=>(b_J (a_X (xs:=["number","unit"]) (fr:=[]) (g:=(gTup K 2 (c_e (a_M 0) (c_e (a_M 1) gNil)))) (tt:=(tEl (tOp (rI0 λ i j=>.int (i - j)) (tVar 0) (tVar 1)))) (a_R (N:=["row","units"]) hE1 rfl (by decide +kernel)) rfl (g_s rfl T.z_zip (a_A (pv 0) (a_A (pv 1) a_B))) (λ _ _ _ hE2=>(c_L rfl (a_Z (a_Y (N:=["number","unit"]) (i:=0) hE2 rfl (by decide +kernel)) (a_Z (a_Y (N:=["number","unit"]) (i:=1) hE2 rfl (by decide +kernel)) c_x)))) (λ _ _ _ hE2=>(b_J (a_L d_R (pv 0) (pv 1)))))))))),?_⟩;show tRet _ _ [some (.ref a)] H;walk_at "r";have il:(idM d).length=d:=by simp [idM]
  have iw:∀ r∈idM d,r.length=d:=λ r hr=>by
   unfold idM at hr;obtain ⟨i,_,rfl⟩:=List.mem_map.mp hr;simp
  refine a_S λ B eB=>?_;simp only [iZip];walk_at "r";refine b_V hM ?_;rw [sA.1];refine ⟨d,rfl,by omega,λ un H1 hun s1 hU=>?_⟩;obtain ⟨xs,x1,x2,x3⟩:=(hM.up s1).walk;obtain ⟨us,u1,u2,u3⟩:=hU;walk_at "r";refine ⟨b1,⟨_,x1⟩,false,⟨_,SqB.lst u1⟩,λ l hl=>?_⟩;refine g_t (RowR l λ i=>List.zipWith (· - ·) (MA.getD i []) ((idM d).getD i [])) hl x1 (SqB.lst u1) (by rw [x2,zqe,u2,il,sA.1]) (by rw [x2,sA.1]; omega) (RowR.mono (a:=l)) ?_ ?_
  ·intro i u v H2 zs eu ev s2 ez Q' hQ';obtain ⟨p,r,rfl,er,hp⟩:=x3 i u eu;have hin:i < us.length:=by have:=(zqa ev).1; simpa using this
   obtain ⟨p',hp'⟩:∃ p',us[i]?=some p':=⟨_,zqd hin⟩;obtain ⟨r',er'⟩:∃ r',(idM d)[i]?=some r':=⟨_,zqd (by omega)⟩;rw [zH,hp'] at ev;cases ev;have hp2:SqB false K H2 p' (r'.map V.int):=SqB.lst (s2 _ _ (u3 i p' r' hp' er').2);have lr:=sA.2 r (zqb er);have lr':=iw r' (zqb er');subst eB;show b_X _ _ _ _ _ [some (.ref p),some (.ref p')] H2 Q';refine a_S λ B eB=>?_;simp only [iZip];walk_at "r";refine ⟨b2,⟨_,hp.up s2⟩,false,⟨_,hp2⟩,λ l2 hl2=>?_⟩;refine g_t (λ j y _=>∃ m n,r[j]?=some m/\r'[j]?=some n/\y=.int (m - n)) hl2 (hp.up s2) hp2 (by simp; omega) (by simp; omega) (λ _ _ _ _ r _=>r) ?_ ?_
   ·intro j x y H3 zs3 ex ey s3 ez3 Q2 hQ2;obtain ⟨m,em,rfl⟩:=c_c ex;obtain ⟨n,en,rfl⟩:=c_c ey;subst eB;show tOp _ _ _ [some (.int m),some (.int n)] H3 Q2;walk_at "r";exact hQ2 _ _ (Same.refl _) ⟨m,n,em,en,rfl⟩
   ·intro H3 zs3 s3 ez3 hlz3 hr3;have ey:zs3=(List.zipWith (· - ·) r r').map V.int:=by
     refine b_K (by simp at hlz3 ⊢; omega) λ j y e=>?_;obtain ⟨m,n,em,en,rfl⟩:=hr3 j y e;exact ⟨m - n,by rw [List.getElem?_zipWith,em,en],rfl⟩
    subst ey;have ne2:l2≠l:=λ z=>by rw [z,ez] at hl2; cases hl2
    refine hQ' _ _ s3 ⟨l2,rfl,ne2,?_⟩;show H3 l2=some (.lst ((List.zipWith (· - ·) (MA.getD i []) ((idM d).getD i [])).map V.int));rw [zqc,zqc,er,er'];exact ez3
  ·intro H2 zs s2 ez hlz hr';have hm:=MatL.of ez hr';rw [hlz,x2,s_I sA] at hm;exact hQ l H2 (s1.trans s2) hm
theorem r_c {d:Nat} (hd:d=2\/d=3) {M:LM} (sM:Sq d M) {ts:List Int} (tl:ts.length=d) {H:Hp} {v:V} {u:Int} (h:p_x H v (lsM d M) (ts.map λ z=>-z) u d):p_y H v M ts u d:=by
 obtain ⟨r,rfl,h⟩:=h;refine ⟨r,rfl,?_⟩;rcases h with ⟨p,ns,w,h1,h2,h3,h4,h5,h6,h7,h8⟩ | ⟨p,ns,h1,h2,h3,h4,h5,h6⟩
 ·refine .inl ⟨p,ns,w,h1,h2,h3,h4,h5,h6,h7,λ k hk=>?_⟩;have key:∀ row,(lsM d M)[k]?=some row->dotI row ns=(mv M ns).getD k 0 - ns.getD k 0:=by
   clear h8 h7 h5 h4 h3 h2 h1;rcases hd with rfl | rfl
   ·obtain ⟨a,b,c,e,rfl⟩:=sq2 sM;obtain ⟨x,y,rfl⟩:=v2 h6;intro row er;rw [show lsM 2 [[a,b],[c,e]]=[[a - 1,b - 0],[c - 0,e - 1]] by rw [lsM,id2]; rfl] at er;have:k=0\/k=1:=by omega
    rcases this with rfl | rfl <;> (cases er; rw [mv2]; simp [dotI] <;> grind)
   ·obtain ⟨a1,a2,a3,a4,a5,a6,a7,a8,a9,rfl⟩:=sq3 sM;obtain ⟨x,y,z,rfl⟩:=v3 h6;intro row er;rw [show lsM 3 [[a1,a2,a3],[a4,a5,a6],[a7,a8,a9]]=[[a1 - 1,a2 - 0,a3 - 0],[a4 - 0,a5 - 1,a6 - 0],[a7 - 0,a8 - 0,a9 - 1]] by rw [lsM,id3]; rfl] at er;have:k=0\/k=1\/k=2:=by omega
    rcases this with rfl | rfl | rfl <;> (cases er; rw [mv3]; simp [dotI] <;> grind)
  have ll:(lsM d M).length=d:=by unfold lsM; rw [List.length_zipWith,sM.1]; simp [idM]
  obtain ⟨row,er⟩:∃ row,(lsM d M)[k]?=some row:=⟨_,zqd (by omega)⟩;obtain ⟨x,ex⟩:∃ x,ts[k]?=some x:=⟨_,zqd (by omega)⟩;have e:=h8 k row (-x) er (by rw [zH,ex]; rfl);rw [key row er] at e;rw [e,zqc (l:=ts),ex];show -x*w+x*w=0;rw [Int.neg_mul]; omega
 ·refine .inr ⟨p,ns,h1,h2,h3,h4,λ k hk=>?_,λ z=>h6 ?_⟩
  ·have e:=h5 k hk;clear h6 h5 h4 h2 h1;rcases hd with rfl | rfl
   ·obtain ⟨a,b,c,e',rfl⟩:=sq2 sM;obtain ⟨x,y,rfl⟩:=v2 h3;rw [show lsM 2 [[a,b],[c,e']]=[[a - 1,b - 0],[c - 0,e' - 1]] by rw [lsM,id2]; rfl] at e;have:k=0\/k=1:=by omega
    rcases this with rfl | rfl <;> (simp [dotI,colI] at e ⊢ <;> grind)
   ·obtain ⟨a1,a2,a3,a4,a5,a6,a7,a8,a9,rfl⟩:=sq3 sM;obtain ⟨x,y,z,rfl⟩:=v3 h3;rw [show lsM 3 [[a1,a2,a3],[a4,a5,a6],[a7,a8,a9]]=[[a1 - 1,a2 - 0,a3 - 0],[a4 - 0,a5 - 1,a6 - 0],[a7 - 0,a8 - 0,a9 - 1]] by rw [lsM,id3]; rfl] at e;have:k=0\/k=1\/k=2:=by omega
    rcases this with rfl | rfl | rfl <;> (simp [dotI,colI] at e ⊢ <;> grind)
  ·rcases hd with rfl | rfl
   ·obtain ⟨a,b,rfl⟩:=v2 tl;obtain ⟨x,y,rfl⟩:=v2 h3;simp [dotI] at z ⊢ <;> grind
   ·obtain ⟨a,b,c,rfl⟩:=v3 tl;obtain ⟨x,y,z',rfl⟩:=v3 h3;simp [dotI] at z ⊢ <;> grind
theorem s_Z {d:Nat} {M:LM} (h:b_B 242 M):BdM (2 ^ 243) (lsM d M):=λ r hr z hz=>by
 unfold lsM at hr;obtain ⟨i,hi,rfl⟩:=yF hr;rw [List.getElem_zipWith] at hz;obtain ⟨k,hk,rfl⟩:=yF hz;rw [List.getElem_zipWith];have a:=h _ (yA (l:=M) (n:=i) (by simp at hi; omega)) _ (yA (n:=k) (by simp at hk; omega));have b:∀ r∈idM d,∀ z∈r,z.natAbs<=1:=λ r hr z hz=>by
  unfold idM at hr;obtain ⟨i,_,rfl⟩:=List.mem_map.mp hr;obtain ⟨k,_,rfl⟩:=List.mem_map.mp hz;split <;> simp
 have c:=b _ (yA (l:=idM d) (n:=i) (by simp at hi; omega)) _ (yA (n:=k) (by simp at hk; omega));have e:(2:Nat) ^ 243=2*2 ^ 242:=by rw [Nat.pow_succ,Nat.mul_comm]
 have p:1<=2 ^ 242:=Nat.pow_pos (by decide);rw [e];generalize 2 ^ 242=N at *
 omega
theorem ok_5 (T:Txt K mg t) (Bm:d_V mg base):∀ C,b_F t C->FnOk P w K mg base CX0 7 t.a_5 t.d_5 pL' (sp_5 K t C):=by
 intro C hC;have G_24:=@ok_24 P w K mg base t T Bm;have G_p:=@ok_p P w K mg base t T;refine T.F_5.ok sc_5 (by walk_at "v") (λ cdv A outer s H vs Q E hr h=>?_)
 ·obtain ⟨a,p,M,ts,u,d,rfl,_,⟨⟨dx,hK⟩,⟨pr,pt,hp1,hp2,hp3⟩,kd⟩,bM,tt,hQ⟩:=h;refine ⟨_,(a_F (a_N (a_I G_24 hr.mo rfl T.m_24 T.F_24.kp T.b_24 .nil a_O (a_A (a_I G_p hr.mo rfl T.m_p T.F_p.kp T.b_p .nil a_O (a_A (px (b_W (pv 0) rfl) a_E) a_B)) (a_A (a_X (xs:=["top"]) (fr:=[]) (g:=(a_M 0)) (tt:=(tEl (tUn (rU λ i=>.int (-i)) (tVar 0)))) (a_R (sc:=a_D s_5) (N:=N_5) rfl rfl (by decide +kernel)) rfl (b_M (px (b_W (pv 0) rfl) a_E)) (λ _ _ _ hE1=>(a_Y (N:=["top"]) (i:=0) hE1 rfl (by decide +kernel))) (λ _ _ _ hE1=>(b_J (e_D d_L (pv 0))))) (a_A (px (b_W (pv 0) rfl) a_E) a_B)))))),?_⟩;have hd:=kd.hd;have sM:=kd.af.sq;have tl:=kd.af.len;show tRet _ _ [some (.ref a)] H;walk_at "r";have one:∀ {H2:Hp} {Q':VK},Same H H2->Q' (.ref p) H2->tFld K (tVar 0) "one" [some (.ref a)] H2 Q':=λ s2 q=>c_u rfl (s2 _ _ hK) (i_V T hC) (k_h T hC) (g_g p) q;refine one (Same.refl _) ?_;refine ⟨true,p,_,_,_,rfl,rfl,SqB.tup hp1,rfl,?_⟩;refine ⟨true,true,pr,M,d,rfl,hp2,sM,by omega,λ r H1 s1 hr1=>?_⟩;refine a_S λ B eB=>?_;simp only [iSeq];refine one s1 ?_;refine ⟨true,p,_,_,_,rfl,rfl,SqB.tup (s1 _ _ hp1),rfl,true,pt,rfl,⟨_,SqB.tup (s1 _ _ hp3)⟩,λ l hl=>?_⟩;refine c_h (λ k z _=>∃ n,ts[k]?=some n/\z=.int (-n)) hl (SqB.tup (s1 _ _ hp3)) (by rw [zqe]; omega) (λ _ _ _ _ r _=>r) ?_ ?_
  ·intro k z H3 zs3 ez2 s3 _ Q2 hQ2;obtain ⟨n,en,rfl⟩:=c_c ez2;subst eB;show tUn _ _ [some (.int n)] H3 Q2;walk_at "r";exact hQ2 _ _ (Same.refl _) ⟨n,en,rfl⟩
  ·intro H2 zs s2 ez hlz hr2;have ey:zs=(ts.map λ z=>-z).map V.int:=by
    refine b_K (by simpa using hlz) λ j y e=>?_;obtain ⟨n,en,rfl⟩:=hr2 j y e;exact ⟨-n,by rw [zH,en]; rfl,rfl⟩
   subst ey;have s12:=s1.trans s2;refine one s12 ?_;refine ⟨true,p,_,_,_,rfl,rfl,SqB.tup (s12 _ _ hp1),rfl,?_⟩;have sls:Sq d (lsM d M):=by
    refine ⟨by unfold lsM; rw [List.length_zipWith,sM.1]; simp [idM],λ r hr=>?_⟩;unfold lsM at hr;obtain ⟨i,hi,rfl⟩:=yF hr;rw [List.getElem_zipWith,List.length_zipWith,sM.2 _ (yA _)];simp [idM]
   have gneg:gl u (ts.map λ z=>-z)=1:=by
    rw [← kd.low];refine o_F λ c=>?_;constructor
    ·rintro ⟨q1,q2⟩;exact ⟨q1,λ x hx=>Int.dvd_neg.mp (q2 (-x) (List.mem_map.mpr ⟨x,hx,rfl⟩))⟩
    ·rintro ⟨q1,q2⟩;refine ⟨q1,λ x hx=>?_⟩;obtain ⟨y,hy,rfl⟩:=List.mem_map.mp hx;exact Int.dvd_neg.mpr (q2 y hy)
   refine ⟨false,false,false,r,l,lsM d M,ts.map λ z=>-z,u,d,243,rfl,(hr1.up s2).b,SqB.lst ez,sls,hd,s_Z bM,by omega,kd.pos,kd.bu,gneg,by rw [zqe]; exact tl,λ x hx=>?_,(c_n (S:=[]) s12).2 tt,λ v H3 ev3 tt3 hm=>hQ v H3 ((c_n s12).trans ev3) tt3 (r_c hd sM tl hm)⟩;obtain ⟨y,hy,rfl⟩:=List.mem_map.mp hx;rw [Int.natAbs_neg];exact kd.bt y hy
theorem dd3 {d:Nat} (h:d=2\/d=3):d<=3:=by omega
theorem ddk {d:Nat} (h:d=2\/d=3):d<=1000:=by omega
theorem r62 {d:Nat} (h:d=2\/d=3):-2 ^ 62<=(d:Int)/\(d:Int) < 2 ^ 62:=by omega
theorem u64 {u:Int} (h:0 < u) (g:u<=12):Builtin.Int.intBits u<=64:=intBits_le_64 (by omega) (by omega)
theorem m_f {d:Nat} (hd:d=2\/d=3) {tn:Bool} {A:LM} (hA:Sq d A):cjM d (chP d tn []) (chQ d tn []) A=if tn=true then l_O A else A:=by
 unfold chP chQ;cases tn
 ·show cjM d (idM d) (idM d) A=A;unfold cjM;rw [(c_m hd hA).1,(c_m hd hA).2]
 ·exact ((p_g hd).2.2 A hA).symm
theorem g_Z {d:Nat} {ys:List V} {f:Nat->Int} (hl:ys.length=d) (h:∀ (j:Nat) (y:V),ys[j]?=some y->y=.int (f j)):ys=((List.range d).map f).map V.int:=by
 refine b_K (by simpa using hl) λ j y e=>⟨f j,?_,h j y e⟩;have hj:=(zqa e).1;rw [zH,yH (by omega)];rfl
theorem i_g {d B:Nat} {f:Nat->Int} (h:∀ j,(f j).natAbs < 2 ^ B):c_a B ((List.range d).map f):=λ x hx=>by
 obtain ⟨j,_,rfl⟩:=List.mem_map.mp hx;exact h j
theorem n_G {b:Int} {k:Nat} {x:Int} (h:¬ 0 < x):digs b k x=[]:=by
 cases k with
 | zero=>rfl
 | succ k=>unfold digs; rw [if_neg h]
theorem ok_b (T:Txt K mg t):FnOk P w K mg base CX0 1 t.a_b t.d_b pc' sp_b:=by
 refine T.F_b.ok sc_b (by walk_at "v") (λ cdv A outer s H vs Q E hr h=>?_)
 ·obtain ⟨c,b,m,rfl,b2,b1,m4,hQ⟩:=h;refine ⟨_,(a_C (a_P (i:=3) sc_b.nd rfl (Or.inl rfl) (a_L d_R (pv 0) (a_L h_i a_E a_E)))
   (a_C (a_P (i:=4) sc_b.nd rfl (Or.inl rfl) (e_g a_B))
   (a_C (e_K zG (PW.pt (n_I (a_T h_j (pv 3) a_E (a_V _)) (l_k (a_T i_p (a_Q a_U rfl T.z_len (by decide +kernel) (a_A (pv 4) a_B)) (pv 2) (a_V _)))))
   (a_C (c_R (j_J PySem.F.plainAttrs_list PySem.F.slot_list_append PySem.F.type_list_append e_p (pv 4) (a_A (a_L b_S (pv 3) (pv 1)) a_B)))
   (a_F (a_P (i:=3) sc_b.nd rfl (Or.inl rfl) (a_L b_N (pv 3) (pv 1))))))
   (a_F (a_N (pv 4)))))),?_⟩
  show tSeq _ _ _ [some (.int c),some (.int b),some (.int m),none,none] H;refine st λ N1 e1=>?_;walk_at "r";refine ⟨⟨by decide,by decide,by decide⟩,?_⟩;generalize c - 10 ^ (Int.toNat 18)=x0 at hQ;subst e1;refine st λ N1 e1=>?_;walk_at "r";refine ⟨by show 0<=sizeLine; decide,λ r hr0=>?_⟩;subst e1;refine st λ N1 e1=>f_W λ B eB=>?_;refine ⟨λ k σ H1=>∃ (x:Int) (ns:List Int),σ=[some (.int c),some (.int b),some (.int m),some (.int x),some (.ref r)]/\Same H H1/\H1 r=some (.lst (ns.map V.int))/\ns.length+k=m/\ns++digs b k x=digs b m x0,⟨m,x0,[],rfl,Same.new hr0,a_G,Nat.zero_add _,rfl⟩,?_⟩;rintro k σ H1 ⟨x,ns,rfl,s1,e1',hk,hg⟩;walk_at "r";have stop:digs b k x=[]->N1 [some (.int c),some (.int b),some (.int m),some (.int x),some (.ref r)] H1:=by
   intro z;rw [z,List.append_nil] at hg;subst e1;walk_at "r";exact hQ r H1 s1 (by rw [← hg]; exact e1')
  refine ite2 (λ zx=>?_) λ z=>stop (n_G λ q=>z (zW q));refine c_s (SqB.lst e1') ?_;refine ⟨_,_,rfl,rfl,_,rfl,ite2 (λ z=>?_) λ z=>stop ?_⟩
  ·have z':=zY z;obtain ⟨k,rfl⟩:∃ j,k=j+1:=⟨k - 1,by omega⟩;refine ⟨λ σ' H'=>σ'=[some (.int c),some (.int b),some (.int m),some (.int (x.fdiv b)),some (.ref r)]/\Same H H'/\H' r=some (.lst ((ns++[x.fmod b]).map V.int)),?_,?_⟩
   ·rintro σ' H' ⟨rfl,s2,e2⟩;refine ⟨k,Nat.lt_succ_self _,_,rfl,s2,_,e2,by rw [List.length_append]; show ns.length+1+k=m; omega,?_⟩;rw [← hg,List.append_assoc]
    conv=>rhs; unfold digs
    rw [if_pos (zY zx)];rfl
   ·subst eB;refine st λ N2 e2=>?_;walk_at "r";refine ⟨.inl ⟨rfl,_,SqL.of e1'⟩,by omega,r,_,_,rfl,rfl,e1',by rw [zqe]; exact zS (show ns.length+1<=1000 by omega) (by decide),?_⟩;subst e2;walk_at "r";refine ⟨dvs x b (by omega) (by omega),Same.over hr0 s1,?_⟩;rw [a_G,List.map_append];rfl
  ·have z':¬ (ns.length:Int) < (m:Int):=λ q=>z (zW q);have:k=0:=by omega
   subst this;rfl
theorem b_A.upS {a:Addr} {H H':Hp} {zs:List V} {M:LM} (h:b_A a H zs M) (s:Same H H'):b_A a H' zs M:=by
 obtain ⟨ps,rfl,hl,hr⟩:=h;exact ⟨ps,rfl,hl,λ i p r e1 e2=>⟨(hr i p r e1 e2).1,s _ _ (hr i p r e1 e2).2⟩⟩
theorem j_a {α β:Type} (f:α->β):∀ (L:List α) (i:Nat),(L.map f).eraseIdx i=(L.eraseIdx i).map f
 | [],_=>rfl
 | _ :: _,0=>rfl
 | x :: L,i+1=>by
  show f x :: (L.map f).eraseIdx i=f x :: (L.eraseIdx i).map f;rw [j_a f L i]
theorem r_d {H H':Hp} {b:Addr} (s:Same H H') (h:H' b=none):H b=none:=by
 cases e:H b with
 | none=>rfl
 | some o=>rw [s _ _ e] at h; cases h
theorem b_A.off2 {a:Addr} {H:Hp} {zs:List V} {M:LM} {o:HO} (h:b_A a H zs M):b_A a (upd H a o) zs M:=by
 obtain ⟨ps,rfl,hl,hr⟩:=h;refine ⟨ps,rfl,hl,λ i p r e1 e2=>?_⟩;obtain ⟨q1,q2⟩:=hr i p r e1 e2;exact ⟨q1,by rw [a_H q1]; exact q2⟩
theorem b_A.off {a l:Addr} {H:Hp} {zs:List V} {M:LM} {o:HO} (h:b_A a H zs M) (hn:V.ref l ∉ zs):b_A a (upd H l o) zs M:=by
 obtain ⟨ps,rfl,hl,hr⟩:=h;refine ⟨ps,rfl,hl,λ i p r e1 e2=>?_⟩;obtain ⟨q1,q2⟩:=hr i p r e1 e2;refine ⟨q1,?_⟩;rw [a_H (λ e=>hn (List.mem_map.mpr ⟨p,zqb e1,by rw [e]⟩))];exact q2
theorem ok_c (T:Txt K mg t):FnOk P w K mg base CX0 1 t.a_c t.d_c pu' sp_c:=by
 refine T.F_c.ok sc_c (by walk_at "v") (λ cdv A outer s H vs Q E hr h=>?_)
 ·obtain ⟨c,d,rfl,hd,hQ⟩:=h;refine ⟨_,(a_C (a_P (i:=2) sc_c.nd rfl (Or.inl rfl) (k_Q rfl rfl T.z_list rfl T.z_range (a_A (pv 1) a_B)))
   (a_C (a_P (i:=3) sc_c.nd rfl (Or.inl rfl) (e_g a_B))
   (a_C (c_A zG rfl (b_I rfl T.z_range (a_A (pv 1) a_B)) (b_E (i:=4) sc_c.nd rfl (Or.inl rfl))
   (a_C (a_P (i:=5) sc_c.nd rfl (Or.inr rfl) (j_J PySem.F.plainAttrs_list PySem.F.slot_list_pop PySem.F.type_list_pop n_W (pv 2) (a_A (a_L b_S (a_L b_N (pv 0) (a_L c_y (a_L b_C (a_L b_C a_E (pv 4)) (pv 4)) a_E)) (a_Q a_U rfl T.z_len (by decide +kernel) (a_A (pv 2) a_B))) a_B)))
   (a_C (a_P (i:=6) sc_c.nd rfl (Or.inr rfl) (a_L d_R a_E (a_L b_C a_E (a_L b_S (a_L b_N (pv 0) (a_L c_y (a_L b_C a_E (pv 4)) a_E)) a_E))))
   (a_F (c_R (j_J PySem.F.plainAttrs_list PySem.F.slot_list_append PySem.F.type_list_append e_p (pv 3) (a_A (a_X (xs:=["_law_j"]) (fr:=[("_law_at",5),("_law_sign",6)]) (g:=(a_M 0)) (tt:=(tEl (tOp (rI (λ i j=>IntMulOk i j) λ i j=>.int (i*j)) (tVar 2) (tCB (λ xs H Q=>(∃ i,xs=[.int i]/\Q (.int i) H)\/∃ k,xs=[.bl k]/\Q (.int (if k then 1 else 0)) H) (b_D (tOp (rI0 λ i j=>.bl (decide (i=j))) (tVar 1) (tVar 0)) tNil))))) (a_R (sc:=a_D s_c) (N:=N_c) rfl rfl (by decide +kernel)) rfl (b_I rfl T.z_range (a_A (pv 1) a_B)) (λ _ _ _ hE1=>(a_Y (N:=["_law_j","_law_at","_law_sign"]) (i:=0) hE1 rfl (by decide +kernel))) (λ _ _ _ hE1=>(b_J (a_L b_C (pv 2) (b_T i_q rfl T.z_int (by decide +kernel) (a_A (c_S c_g (pv 1) (pv 0) (a_V _)) a_B)))))) a_B)))))))
   (a_F (a_N (pv 3)))))),?_⟩
  show tSeq _ _ _ [some (.int c),some (.int d),none,none,none,none,none] H;refine st λ N1 e1=>?_;walk_at "r";refine ⟨d,rfl,by omega,λ l hl=>?_⟩;have s1:Same H (upd H l (.lst ((List.range d).map λ (i:Nat)=>V.int (i:Int)))):=Same.new hl;have el:(upd H l (.lst ((List.range d).map λ (i:Nat)=>V.int (i:Int)))) l=some (.lst (((List.range d).map λ (i:Nat)=>(i:Int)).map V.int)):=by rw [a_G,List.map_map]; rfl
  generalize upd H l (.lst ((List.range d).map λ (i:Nat)=>V.int (i:Int)))=H1 at s1 el;subst e1;refine st λ N1 e1=>?_;walk_at "r";refine ⟨Nat.zero_le _,λ rr hrr=>?_⟩;have s2:Same H1 (upd H1 rr (.lst [])):=Same.new hrr;have er:(upd H1 rr (.lst [])) rr=some (.lst []):=a_G;have nlr:rr≠l:=λ e=>by rw [e,el] at hrr; cases hrr
  generalize upd H1 rr (.lst [])=H2 at s2 er;subst e1;refine st λ N1 e1=>c_C λ B eB=>?_;simp only [c_w];walk_at "r";refine ⟨by omega,by omega,?_⟩;rw [zR];refine d_J (g:=a_M 4) (tb:=B) (λ k σ H3=>∃ v4 v5 v6 L R zs,σ=[some (.int c),some (.int d),some (.ref l),some (.ref rr),v4,v5,v6]/\Same H H3/\H3 l=some (.lst (L.map V.int))/\(L,R)∈exs d k/\H3 rr=some (.lst zs)/\zs.length=k/\b_A rr H3 zs R/\V.ref l ∉ zs) ⟨none,none,none,_,[],[],rfl,s1.trans s2,s2 _ _ el,List.mem_singleton.mpr rfl,er,rfl,b_A.nil,by simp⟩ ?_ ?_
  ·rintro k σ H3 hk ⟨v4,v5,v6,L,R,zs,rfl,s3,e3,hx,er3,hz,hR,hn⟩;have ll:=l_P k _ hx;dsimp only at ll;subst eB;show tSeq _ _ _ [some (.int c),some (.int d),some (.ref l),some (.ref rr),some (.int (0+(k:Int))),v5,v6] H3;rw [Int.zero_add];refine st λ N2 e2=>?_;walk_at "r";have kk:(k:Int) < 3:=by omega
   have hk2:(7*(k:Int)*(k:Int)+1)≠0/\(7*(k:Int)*(k:Int)+1).natAbs < 1073741824:=by
    have:k=0\/k=1\/k=2:=by omega
    rcases this with e | e | e <;> subst e <;> decide
   refine ⟨.inl ⟨rfl,_,SqL.of e3⟩,IntMulOk.of_left (by decide),IntMulOk.of_right (intBits_le_64 (by omega) (by omega)),dvs _ _ hk2.1 hk2.2,?_⟩;refine c_s (SqB.lst e3) ?_;have fm:=fms (c.fdiv (7*(k:Int)*(k:Int)+1)) L.length (by omega);refine ⟨_,_,rfl,rfl,(show ¬ (L.length:Int)=0 by omega),?_⟩;show n_V (.ref l) [.int ((c.fdiv (7*(k:Int)*(k:Int)+1)).fmod L.length)] H3 _;generalize (c.fdiv (7*(k:Int)*(k:Int)+1)).fmod L.length=iz at fm;obtain ⟨i,ei⟩:=Int.eq_ofNat_of_zero_le fm.1;subst ei;have hi:i < L.length:=by omega
   refine ⟨l,_,_,i,.int (L.getD i 0),rfl,rfl,e3,by omega,by omega,(j_d (d_N (by rw [zqe]; exact hi))).1,c_N (getD_at hi),?_⟩;rw [j_a];have l3:V.ref l ∉ zs:=hn;have s4:Same H (upd H3 l (.lst ((L.eraseIdx i).map V.int))):=Same.over hl s3;have e4:(upd H3 l (.lst ((L.eraseIdx i).map V.int))) l=some (.lst ((L.eraseIdx i).map V.int)):=a_G;have er4:(upd H3 l (.lst ((L.eraseIdx i).map V.int))) rr=some (.lst zs):=by rw [a_H nlr]; exact er3
   have hR4:b_A rr (upd H3 l (.lst ((L.eraseIdx i).map V.int))) zs R:=b_A.off hR hn;generalize upd H3 l (.lst ((L.eraseIdx i).map V.int))=H4 at s4 e4 er4 hR4;generalize hat:L.getD i 0=av;subst e2;refine st λ N2 e2=>?_;walk_at "r";refine ⟨IntMulOk.of_left (by decide),dvs _ _ (by omega) (by omega),by decide,IntMulOk.of_left (by decide),?_⟩;have f2:=fms (c.fdiv (11*(k:Int)+64)) 2 (by decide);have hs:1 - 2*(c.fdiv (11*(k:Int)+64)).fmod 2=1\/1 - 2*(c.fdiv (11*(k:Int)+64)).fmod 2=-1:=by omega
   generalize 1 - 2*(c.fdiv (11*(k:Int)+64)).fmod 2=sg at hs;subst e2;walk_at "r";refine ⟨.inl ⟨rfl,_,SqL.of er4⟩,?_⟩;refine a_S λ B0 eB=>?_;simp only [c_w];walk_at "r";refine ⟨by omega,by omega,λ a2 ha2=>?_⟩;rw [zR];refine c_l (λ j y _=>y=.int (sg*(if av=(j:Int) then 1 else 0))) ha2 (by omega) (λ _ _ _ _ h _=>h) ?_ ?_
   ·intro j H5 ys hj s5 ez Q' hQ';subst eB;show tOp _ _ _ [some (.int (0+(j:Int))),some (.int av),some (.int sg)] H5 Q';rw [Int.zero_add];walk_at "r";refine .inr ⟨IntMulOk.of_left (intBits_le_64 (by omega) (by omega)),hQ' _ _ (Same.refl _) ?_⟩
    by_cases z:av=(j:Int)
    ·rw [if_pos z,if_pos (zW z)]
    ·rw [if_neg z,if_neg (by rw [decide_eq_true_eq]; exact z)]
   ·intro H5 ys s5 e5 hly hr5;have ey:=g_Z (f:=λ j=>sg*(if av=(j:Int) then 1 else 0)) hly hr5;subst ey;have er5:=s5 _ _ er4;have ne:a2≠rr:=Ne.symm (a_J er4 ha2);have nl2:l≠a2:=a_J e4 ha2;refine ⟨rr,zs,_,rfl,rfl,er5,c_p (by omega),?_⟩;have hrow:H5 a2=some (.lst ((k_f d sg av).map V.int)):=e5;refine ⟨Same.over (r_d s1 hrr) (s4.trans s5),L.eraseIdx i,?_,R++[k_f d sg av],?_,zs++[.ref a2],a_G,by rw [List.length_append,hz]; rfl,?_,?_⟩
    ·rw [a_H (Ne.symm nlr)];exact s5 _ _ e4
    ·rw [← hat];exact p_l hx hi hs
    ·exact b_A.off2 ((b_A.upS hR4 s5).snoc ne hrow)
    ·intro hm;rcases List.mem_append.mp hm with h | h
     ·exact hn h
     ·exact nl2 (V.ref.inj (List.mem_singleton.mp h))
  ·rintro σ H3 ⟨v4,v5,v6,L,R,zs,rfl,s3,e3,hx,er3,hz,hR,hn⟩;subst e1;walk_at "r";exact hQ rr H3 R s3 (b_A.mat er3 hR) (List.mem_map.mpr ⟨_,hx,rfl⟩)
theorem ok_n (T:Txt K mg t):FnOk P w K mg base CX0 1 t.a_n t.d_n pi' sp_n:=by
 refine T.F_n.ok sc_n (by walk_at "v") (λ cdv A outer s H vs Q E hr h=>?_)
 ·obtain ⟨a,MA,c,d,B,rfl,hA,sA,hd,hb,hB,q⟩:=h;refine ⟨_,(a_C (a_P (i:=2) sc_n.nd rfl (Or.inl rfl) (a_Q a_U rfl T.z_len (by decide +kernel) (a_A (pv 0) a_B)))
   (a_C (a_P (i:=3) sc_n.nd rfl (Or.inl rfl) (a_L b_S (pv 1) (pv 2)))
   (a_C (a_P (i:=4) sc_n.nd rfl (Or.inl rfl) (a_L b_S (a_L c_y (a_L c_y (pv 3) a_E) (a_L b_S (a_L b_N (pv 1) (pv 2)) (a_L d_R (pv 2) a_E))) (pv 2)))
   (a_C (a_P (i:=5) sc_n.nd rfl (Or.inl rfl) (a_L d_R (a_L b_S (a_L c_y (a_L b_N (pv 1) (a_L b_C (pv 2) (a_L d_R (pv 2) a_E))) a_E) a_E) a_E))
   (a_C (c_r (i:=6) (xs:=["_law_row"]) (fr:=[]) (g:=(a_M 0)) (tt:=(tEl (tCB (e_S K) (b_D (tVar 0) tNil)))) (a_R (sc:=a_D s_n) (N:=N_n) rfl rfl (by decide +kernel)) rfl sc_n.nd rfl rfl (b_M (pv 0)) (λ _ _ _ hE1=>(a_Y (N:=["_law_row"]) (i:=0) hE1 rfl (by decide +kernel))) (λ _ _ _ hE1=>(b_J (b_T d_U rfl T.z_list (by decide +kernel) (a_A (pv 0) a_B)))))
   (a_C (c_A zG rfl (b_I rfl T.z_range (a_A (pv 2) a_B)) (b_E (i:=7) sc_n.nd rfl (Or.inl rfl))
   (a_F (d_B (a_L c_y (px (px (pv 6) (pv 3)) (pv 7)) (a_L b_C (pv 5) (px (px (pv 6) (pv 4)) (pv 7)))) (e_J (px (pv 6) (pv 3)) (pv 7) d_I))))
   (a_C (c_A zG rfl (b_M (pv 6)) (b_E (i:=8) sc_n.nd rfl (Or.inl rfl))
   (a_F (d_B (a_L d_R (px (pv 8) (pv 4)) (a_L b_C (pv 5) (px (pv 8) (pv 3)))) (e_J (pv 8) (pv 4) d_I))))
   (a_F (a_N (pv 6)))))))))),?_⟩
  show tSeq _ _ _ [some (.ref a),some (.int c),none,none,none,none,none,none,none] H;have dv:∀ x y:Int,y≠0->y.natAbs < 1073741824->f_K x y:=λ x y h1 h2=>⟨h1,zI ((Nat.log2_lt (by omega)).mpr (show y.natAbs < 2 ^ 30 from h2)) (by decide)⟩;have fm:∀ (x y:Int),0 < y->0<=x.fmod y/\x.fmod y < y:=λ x y h=>⟨Int.fmod_nonneg_of_pos x h,Int.fmod_lt_of_pos x h⟩;refine st λ N1 e1=>?_;walk_at "r";refine b_V (hA.b (K:=K)) ?_;rw [sA.1];subst e1;refine st λ N1 e1=>?_;walk_at "r";refine ⟨by omega,?_⟩;have fi:=fm c d (by omega);obtain ⟨i,ei⟩:=Int.eq_ofNat_of_zero_le fi.1;rw [ei] at fi ⊢;subst e1;refine st λ N1 e1=>?_;walk_at "r";refine ⟨dv c d (by omega) (by omega),by omega,by omega,?_⟩;have fj0:=fm (c.fdiv d) ((d:Int) - 1) (by omega);have fj:=fm ((i:Int)+1+(c.fdiv d).fmod ((d:Int) - 1)) d (by omega);have hij:(i:Int)≠((i:Int)+1+(c.fdiv d).fmod ((d:Int) - 1)).fmod d:=by
   generalize (c.fdiv d).fmod ((d:Int) - 1)=z at fj0 fj;rw [Int.fmod_eq_emod_of_nonneg _ (by omega)] at fj ⊢;rcases hd with e | e <;> subst e <;> omega
  generalize hjz:((i:Int)+1+(c.fdiv d).fmod ((d:Int) - 1)).fmod d=jz at fj hij;obtain ⟨j,ej⟩:=Int.eq_ofNat_of_zero_le fj.1;subst ej;have hi:i < d:=by omega
  have hj:j < d:=by omega
  have hne:i≠j:=λ e=>hij (by rw [e]);subst e1;refine st λ N1 e1=>?_;walk_at "r";have hdd:(d:Int)*((d:Int) - 1)≠0/\((d:Int)*((d:Int) - 1)).natAbs < 1073741824:=by rcases hd with e | e <;> subst e <;> decide
  refine ⟨IntMulOk.of_left (intBits_le_64 (by omega) (by omega)),dv c _ hdd.1 hdd.2,by decide,?_⟩;have fq:=fm (c.fdiv ((d:Int)*((d:Int) - 1))+3) 7 (by decide);generalize hmz:(c.fdiv ((d:Int)*((d:Int) - 1))+3).fmod 7 - 3=mz;have hm3:mz.natAbs<=3:=by omega
  have es:d_A d c=⟨i,j,mz⟩:=by
   unfold d_A;rw [ei,hjz,hmz,zR,zR]
  rw [es] at q;have hmz1:mz.natAbs < 2 ^ 20:=by have:(2:Nat) ^ 20=1048576:=rfl; omega
  subst e1;refine st λ N1 e1=>?_;walk_at "r";refine a_S λ B0 eB=>?_;simp only [iSeq];walk_at "r";obtain ⟨zsA,hzA,_⟩:=hA.refs;refine ⟨false,⟨_,SqB.lst hzA⟩,λ r hr0=>?_⟩;subst eB;refine k_M (hA.b (K:=K)) (by rw [sA.1]; omega) hr0 λ H1 s1 hD=>?_;have eri:MA[i]?=some (MA.getD i []):=by have:=sA.1; simp [show i < MA.length by omega]
  have erj:MA[j]?=some (MA.getD j []):=by have:=sA.1; simp [show j < MA.length by omega]
  generalize hx:MA.getD i []=x at eri;generalize hy:MA.getD j []=y at erj;have hxl:x.length=d:=sA.2 x (zqb eri);have hyl:y.length=d:=sA.2 y (zqb erj);have bx:∀ z∈x,z.natAbs < 2 ^ B:=hb x (zqb eri);have by':∀ z∈y,z.natAbs < 2 ^ B:=hb y (zqb erj);subst e1;refine st λ N1 e1=>c_C λ B0 eB=>?_;simp only [c_w];walk_at "r";refine ⟨by omega,by omega,?_⟩;rw [zR];have hset0:MA.set i (mixI d x y mz 0)=MA:=by
   rw [o_N hxl];refine yG (by simp) λ s h1 h2=>?_;rw [List.getElem_set];split
   ·rename_i e;subst e;have:=zqa eri;exact this.2.symm
   ·rfl
  refine d_J (g:=a_M 7) (tb:=B0) (λ k σ H2=>∃ v8 v9,σ=[some (.ref a),some (.int c),some (.int d),some (.int i),some (.int j),some (.int mz),some (.ref r),v8,v9]/\Same H H2/\MatD H H2 r (MA.set i (mixI d x y mz k))) ⟨_,_,rfl,s1,by rw [hset0]; exact hD⟩ ?_ ?_
  ·rintro k σ H2 hk ⟨v8,v9,rfl,s2,hM⟩;have ei2:(MA.set i (mixI d x y mz k))[i]?=some (mixI d x y mz k):=by rw [zP (by have:=sA.1; omega)]
   have ej2:(MA.set i (mixI d x y mz k))[j]?=some y:=by rw [zQ hne]; exact erj
   have emk:(mixI d x y mz k)[k]?=some (x.getD k 0):=by unfold mixI; rw [zH,yH hk]; simp
   have hML:MatB false false K H2 r (MA.set i (mixI d x y mz k)):=hM.l.b;obtain ⟨zs,p,z1,z2,z3,_,z4,z5,z6⟩:=hM.row ei2;subst eB;show tAsg _ _ _ [some (.ref a),some (.int c),some (.int d),some (.int i),some (.int j),some (.int mz),some (.ref r),some (.int (0+(k:Int))),v9] H2;simp only [tAsg,gSub,f_T];walk_at "r";refine d_D hML ei2 emk rfl (by omega) ?_;refine d_D hML ej2 (getD_at (k:=k) (by omega)) rfl (by omega) ?_;walk_at "r";refine ⟨mulOk_of_bits (b_G hmz1) (b_G (by' _ (L2.getD_mem (by omega)))) (by omega),?_⟩;refine ⟨false,r,_,_,_,rfl,rfl,SqB.lst z1,b_Y z2 rfl,?_⟩;refine ⟨p,rfl,_,z5,k,?_,?_⟩
   ·rw [Int.zero_add];exact d_N (by rw [zqe]; unfold mixI; simpa using hk)
   ·have hnew:=z6 (mixI d x y mz (k+1));rw [List.set_set] at hnew;have e:((mixI d x y mz k).map V.int).set k (.int (x.getD k 0+mz*y.getD k 0))=(mixI d x y mz (k+1)).map V.int:=by rw [← o_O,List.map_set]
    rw [e];exact ⟨Same.over z4 s2,hnew⟩
  ·rintro σ H2 ⟨v8,v9,rfl,s2,hM⟩;have hil:i < MA.length:=by have:=sA.1; omega
   generalize hR:MA.set i (mixI d x y mz d)=R at hM;have sR:Sq d R:=by
    rw [← hR];refine ⟨by simp [sA.1],λ z hz=>?_⟩;rcases List.mem_or_eq_of_mem_set hz with h | h
    ·exact sA.2 z h
    ·rw [h]; simp [mixI]
   have bR:b_B (B+2) R:=by
    rw [← hR];intro z hz;rcases List.mem_or_eq_of_mem_set hz with h | h
    ·exact λ u hu=>zI (hb z h u hu) (zM (by decide) (by omega))
    ·rw [h]; exact m_Z hxl hyl bx by' hm3
   obtain ⟨zs,hzs⟩:∃ zs,H2 r=some (.lst zs):=let ⟨ps,h,_⟩:=hM; ⟨_,h⟩
   have hzl:zs.length=d:=by
    obtain ⟨ps,h,hl,_⟩:=hM;rw [hzs] at h;cases h;rw [zqe,hl,sR.1]
   subst e1;refine st λ N1 e1=>c_C λ B0 eB=>?_;simp only [iSeq];walk_at "r";refine ⟨false,⟨_,SqB.lst hzs⟩,?_⟩;refine g_u (g:=a_M 8) (tb:=B0) (λ u σ H3=>∃ v9,σ=[some (.ref a),some (.int c),some (.int d),some (.int i),some (.int j),some (.int mz),some (.ref r),v8,v9]/\Same H H3/\MatD H H3 r (colT d i j mz R u)/\H3 r=some (.lst zs)) ⟨_,rfl,s2,by rw [o_P sR.1]; exact hM,hzs⟩ (λ _ _ _ _ ⟨_,_,_,_,h⟩=>SqB.lst h) ?_ ?_
   ·rintro u x0 σ H3 ex ⟨v9,rfl,s3,hC,hr3⟩;have hud:u < d:=by have:=(zqa ex).1; omega
    have eu:(colT d i j mz R u)[u]?=some (R.getD u []):=by unfold colT; rw [zH,yH hud]; simp
    have hul:(R.getD u []).length=d:=sR.2 _ (by rw [show R.getD u []=R[u]'(by have:=sR.1; omega) by have:=sR.1; simp [show u < R.length by omega]]; exact yA _);have hum:R.getD u []∈R:=by rw [show R.getD u []=R[u]'(by have:=sR.1; omega) by have:=sR.1; simp [show u < R.length by omega]]; exact yA _
    obtain ⟨zs',p,z1,z2,z3,zne,z4,z5,z6⟩:=hC.row eu;rw [hr3] at z1;cases z1;rw [ex] at z2;cases z2;generalize hrt:R.getD u []=rt at eu hul hum z5;subst eB;show tAsg _ _ _ [some (.ref a),some (.int c),some (.int d),some (.int i),some (.int j),some (.int mz),some (.ref r),v8,some (.ref p)] H3;simp only [tAsg,gSub,f_T];walk_at "r";refine ⟨false,p,_,_,_,rfl,rfl,SqB.lst z5,b_Y (c_N (getD_at (k:=j) (by omega))) rfl,false,p,_,_,_,rfl,rfl,SqB.lst z5,b_Y (c_N (getD_at (k:=i) (by omega))) rfl,?_⟩;walk_at "r";refine ⟨mulOk_of_bits (b_G hmz1) (b_G (bR rt hum _ (L2.getD_mem (by omega)))) (by omega),?_⟩;refine ⟨_,z5,j,d_N (by rw [zqe]; omega),?_⟩;have hnew:=z6 (colO i j mz rt);rw [← hrt,o_Q] at hnew;rw [hrt] at hnew;have e:(rt.map V.int).set j (.int (rt.getD j 0 - mz*rt.getD i 0))=(colO i j mz rt).map V.int:=by unfold colO; rw [List.map_set]
    rw [e];refine ⟨Same.over z4 s3,hnew,?_⟩;rw [a_H (Ne.symm zne)];exact hr3
   ·rintro σ H3 ⟨v9,rfl,s3,hC,hr3⟩;rw [hzl] at hC;subst e1;walk_at "r";have e:colT d i j mz R d=d_M d i j mz MA:=by unfold d_M; rw [hx,hy,hR]
    have bq:=l_e sR hi hj bR hm3;have hl:=hC.l;rw [e] at bq hl;exact q r H3 s3 hl bq
theorem ok_y (T:Txt K mg t):FnOk P w K mg base CX0 3 t.a_y t.d_y pb' (sp_y K):=by
 have G_k:=@ok_k P w K mg base t T;refine T.F_y.ok sc_y (by walk_at "v") (λ cdv A outer s H vs Q E hr h=>?_)
 ·obtain ⟨b1,b2,b3,a,b,MA,ts,u,d,rfl,hA,hS,sA,hd,lt,u0,us,hQ⟩:=h;refine ⟨_,(a_C (d_B (a_I G_k hr.mo rfl T.m_k T.F_k.kp T.b_k .nil a_O (a_A (pv 1) (a_A (pv 2) a_B))) (c_L rfl (a_Z (b_E (i:=1) sc_y.nd rfl (Or.inl rfl)) (a_Z (b_E (i:=2) sc_y.nd rfl (Or.inl rfl)) c_x))))
   (a_F (a_N (c_T (a_A (b_T d_C rfl T.z_tuple (by decide +kernel) (a_A (a_X (xs:=["_law_row"]) (fr:=[]) (g:=(a_M 0)) (tt:=(tEl (tCB (j_N K) (b_D (tVar 0) tNil)))) (a_R (sc:=a_D s_y) (N:=N_y) rfl rfl (by decide +kernel)) rfl (b_M (pv 0)) (λ _ _ _ hE1=>(a_Y (N:=["_law_row"]) (i:=0) hE1 rfl (by decide +kernel))) (λ _ _ _ hE1=>(b_J (b_T d_C rfl T.z_tuple (by decide +kernel) (a_A (pv 0) a_B))))) a_B)) (a_A (pv 1) (a_A (pv 2) a_B))))))),?_⟩
  show tSeq _ _ _ [some (.ref a),some (.ref b),some (.int u)] H;refine st λ N1 e1=>?_;walk_at "r";refine ⟨b3,b,ts,u,rfl,hS,lt,u0,us,λ p H1 s1 hp=>?_⟩;obtain ⟨q,hp1,hp2⟩:=hp;refine ⟨p,_,rfl,SqT.of hp1,rfl,?_⟩;simp only [c_e,gNil,a_M];refine ⟨_,_,rfl,_,_,rfl,rfl,?_⟩;show N1 [some (.ref a),some (.ref q),some (.int (redU u ts))] H1;subst e1;walk_at "r";refine a_S λ B0 eB=>?_;simp only [iSeq];walk_at "r";obtain ⟨xsA,hxA⟩:∃ xs,SqB b1 K H1 a xs:=let ⟨ps,h,_⟩:=hA.up s1; ⟨_,h⟩
  refine ⟨b1,⟨_,hxA⟩,λ a2 ha2=>?_⟩;subst eB;refine i_I (hA.up s1) (by rw [sA.1]; omega) ha2 λ H6 zs s6 hz hB=>?_;refine ⟨a2,_,rfl,.inl ⟨SqL.of hz,λ l hl1=>?_⟩⟩;have s7:Same H1 (upd H6 l (.tup zs)):=s6.trans (Same.new hl1);replace hB:=hB l hl1;generalize upd H6 l (.tup zs)=H7 at s7 hB;exact ⟨(by show 3<=sizeLine; decide),λ x hx=>hQ x _ ((s1.trans s7).trans (Same.new hx)) ⟨l,q,a_G,hB.up (Same.new hx),Same.new hx _ _ (s7 _ _ hp2)⟩⟩
theorem ok_1f (T:Txt K mg t):FnOk P w K mg base CX0 14 t.a_1f t.d_1f pl' (sp_1f K t):=by
 refine T.F_1f.ok sc_1f (by walk_at "v") (λ cdv A outer s H vs Q E hr h=>?_)
 ·obtain ⟨a,b,C,C',p,p',M,M',ts,ts',u,u',d,rfl,hC,hC',ok1,ok2,al,hQ⟩:=h;refine ⟨_,(a_C (b_R (PW.pt (h_g (a_T r_i (b_Q (Fm:=b_F t) (pv 0) (p_C T) hr.mo) (b_Q (Fm:=b_F t) (pv 1) (p_C T) hr.mo) (a_V _)) (g_n (a_T d_T (b_Q (Fm:=b_F t) (pv 0) (p_E T) hr.mo) (b_Q (Fm:=b_F t) (pv 1) (p_E T) hr.mo) (a_V _)))))
   (a_F (a_N j_F))
   b_z)
   (a_F (a_N (c_S c_g (b_Q (Fm:=b_F t) (pv 0) (m_d T) hr.mo) (b_Q (Fm:=b_F t) (pv 1) (m_d T) hr.mo) (a_V _))))),?_⟩
  have w1:=j_r d M ts;have w2:=j_r d M' ts';have kc:b_F t C:=⟨_,w1,hC⟩;have kc':b_F t C':=⟨_,w2,hC'⟩;obtain ⟨dx,ob⟩:=ok1.1;obtain ⟨dx',ob'⟩:=ok2.1;show tSeq _ _ _ [some (.ref a),some (.ref b)] H;refine st λ N1 e1=>?_;walk_at "r";refine ⟨_,rfl,a,C,dx,_,rfl,ob,kc,c_W p (by decide +kernel),a,rfl,λ i hi ei=>?_⟩;have ew:=k_i T hi w1 ei hC;subst ew;refine ⟨_,rfl,b,C',dx',_,rfl,ob',kc',c_W p' (by decide +kernel),b,rfl,λ i hi ei=>?_⟩;have ew:=k_i T hi w2 ei hC';subst ew;rw [al.word];refine ⟨rfl,false,by simp,iteF ?_⟩;refine ⟨_,rfl,a,C,dx,_,rfl,ob,kc,c_W p (by decide +kernel),a,p,M,ts,u,d,rfl,kc,ok1,λ H1 s1=>?_⟩;refine ⟨_,rfl,b,C',dx',_,rfl,s1 _ _ ob',kc',c_W p' (by decide +kernel),b,p',M',ts',u',d,rfl,kc',ok2.up s1,λ H2 s2=>?_⟩;rw [al.fold];refine ⟨_,_,rfl,rfl,false,by simp,iteF ?_⟩;have s12:=s1.trans s2;subst e1;walk_at "r";refine ⟨_,rfl,a,C,dx,_,rfl,s12 _ _ ob,kc,c_W p (by decide +kernel),a,p,M,ts,u,d,rfl,kc,ok1.up s12,λ H3 s3=>?_⟩;refine ⟨_,rfl,b,C',dx',_,rfl,s3 _ _ (s12 _ _ ob'),kc',c_W p' (by decide +kernel),b,p',M',ts',u',d,rfl,kc',(ok2.up s12).up s3,λ H4 s4=>?_⟩;rw [al.order];refine ⟨_,_,rfl,rfl,?_⟩;simpa using hQ H4 ((s12.trans s3).trans s4)
theorem ok_e (T:Txt K mg t):FnOk P w K mg base CX0 2 t.a_e t.d_e pp' (sp_e K):=by
 have G_3:=@ok_3 P w K mg base t T;have G_b:=@ok_b P w K mg base t T;refine T.F_e.ok sc_e (by walk_at "v") (λ cdv A outer s H vs Q E hr h=>?_)
 ·obtain ⟨a,ns,d,rfl,hS,hd,hQ⟩:=h;have hS':SqB false K H a (ns.map V.int):=hS;refine ⟨_,(a_C (b_R (a_T i_p (a_I G_3 hr.mo rfl T.m_3 T.F_3.kp T.b_3 .nil a_O (a_A (pv 0) (a_A a_E a_B))) (a_L h_i a_E a_E) (a_V _))
   (a_F (a_N (e_M sl_B (pv 0) (f_z a_E) (f_z a_E))))
   b_z)
   (a_F (a_N (a_I G_b hr.mo rfl T.m_b T.F_b.kp T.b_b .nil a_O (a_A (a_I G_3 hr.mo rfl T.m_3 T.F_3.kp T.b_3 .nil a_O (a_A (pv 0) (a_A a_E a_B))) (a_A (a_L b_C (a_L b_C (pv 1) (a_L d_R (pv 1) a_E)) a_E) (a_A a_E a_B))))))),?_⟩
  show tSeq _ _ _ [some (.ref a),some (.int d)] H;refine st λ N1 e1=>?_;walk_at "r";refine ⟨a,ns,10,rfl,hS',by decide,?_⟩;refine ⟨⟨by decide,by decide,by decide⟩,_,_,rfl,rfl,_,rfl,ite2 (λ z=>?_) λ z=>?_⟩
  ·refine ⟨false,a,_,rfl,hS',(by intro e; cases e),λ p hp=>?_⟩;rw [h_J];refine hQ p _ (Same.new hp) ?_;rw [a_G];unfold c_Z;rw [if_pos (show ns.getD 10 0 < _ from zY z)];rfl
  ·subst e1;walk_at "r";refine ⟨a,ns,10,rfl,hS',by decide,?_⟩;have hd1:2<=(d:Int)*((d:Int) - 1)*7/\(d:Int)*((d:Int) - 1)*7<=1000:=by rcases hd with e | e <;> subst e <;> decide
   refine ⟨IntMulOk.of_left (intBits_le_64 (by omega) (by omega)),IntMulOk.of_right (by decide),_,_,20,rfl,hd1.1,hd1.2,by decide,λ r H2 s2 er=>hQ r H2 s2 ?_⟩;unfold c_Z;rw [if_neg (λ q:ns.getD 10 0 < _=>z (zW q))];exact er
theorem ok_w (T:Txt K mg t):FnOk P w K mg base CX0 3 t.a_w t.d_w pd' (sp_w K):=by
 have G_3:=@ok_3 P w K mg base t T;have G_c:=@ok_c P w K mg base t T;have G_8:=@ok_8 P w K mg base t T;have G_e:=@ok_e P w K mg base t T;have G_n:=@ok_n P w K mg base t T;refine T.F_w.ok sc_w (by walk_at "v") (λ cdv A outer s H vs Q E hr h=>?_)
 ·obtain ⟨a,ns,k,d,e,rfl,hS,hd,hde,hQ⟩:=h;have hS':SqB false K H a (ns.map V.int):=hS;refine ⟨_,(a_C (a_P (i:=3) sc_w.nd rfl (Or.inl rfl) (a_I G_3 hr.mo rfl T.m_3 T.F_3.kp T.b_3 .nil a_O (a_A (pv 0) (a_A (pv 1) a_B))))
   (a_C (b_R (a_T c_g (a_L b_S (a_L b_N (a_I G_3 hr.mo rfl T.m_3 T.F_3.kp T.b_3 .nil a_O (a_A (pv 0) (a_A a_E a_B))) a_E) a_E) a_E (a_V _))
   (a_F (a_P (i:=4) sc_w.nd rfl (Or.inl rfl) (a_I G_c hr.mo rfl T.m_c T.F_c.kp T.b_c .nil a_O (a_A (pv 3) (a_A (a_L c_y a_E (pv 2)) a_B)))))
   (a_F (a_P (i:=4) sc_w.nd rfl (Or.inl rfl) (a_I G_8 hr.mo rfl T.m_8 T.F_8.kp T.b_8 .nil a_O (a_A (a_L c_y (a_L b_C a_E (pv 3)) (pv 2)) a_B)))))
   (a_C (c_A zG rfl (b_M (a_I G_e hr.mo rfl T.m_e T.F_e.kp T.b_e .nil a_O (a_A (pv 0) (a_A (a_Q a_U rfl T.z_len (by decide +kernel) (a_A (pv 4) a_B)) a_B)))) (b_E (i:=5) sc_w.nd rfl (Or.inl rfl))
   (a_F (a_P (i:=4) sc_w.nd rfl (Or.inl rfl) (a_I G_n hr.mo rfl T.m_n T.F_n.kp T.b_n .nil a_O (a_A (pv 4) (a_A (pv 5) a_B))))))
   (a_F (a_N (pv 4)))))),?_⟩
  show tSeq _ _ _ [some (.ref a),some (.int k),some (.int e),none,none,none] H;refine st λ N1 e1=>?_;walk_at "r";refine ⟨a,ns,k,rfl,hS',by omega,?_⟩;subst e1;refine st λ N1 e1=>?_;walk_at "r";refine ⟨a,ns,0,rfl,hS',by decide,?_⟩;have go:∀ r H1 N,Same H H1->MatL H1 r N->BsM (exF ns) d N->N1 [some (.ref a),some (.int k),some (.int e),some (.int (ns.getD (k:Int).toNat 0)),some (.ref r),none] H1:=by
   intro r0 H1 N s1 hM bs;obtain ⟨sN,bN⟩:=l_b hd bs;subst e1;refine st λ N1 e1=>c_C λ B eB=>?_;simp only [iSeq];walk_at "r";refine b_V (hM.b (K:=K)) ?_;rw [sN.1];refine ⟨a,ns,d,rfl,hS'.up s1,hd,λ r2 H2 s2 er2=>?_⟩;refine ⟨false,r2,rfl,⟨_,SqB.lst er2⟩,?_⟩;have al:=p_r ns d;have okA:∀ j,∀ s∈(((c_Z ns d).take j).map (d_A d)).reverse,s.Ok d:=λ j s hs=>by
    obtain ⟨c,_,rfl⟩:=List.mem_map.mp (List.mem_reverse.mp hs);exact i_b hd c
   refine g_u (g:=a_M 5) (tb:=B) (xs:=(c_Z ns d).map V.int) (λ j σ H3=>∃ r v5,σ=[some (.ref a),some (.int k),some (.int e),some (.int (ns.getD (k:Int).toNat 0)),some (.ref r),v5]/\Same H2 H3/\MatL H3 r (cjM d (chP d false (((c_Z ns d).take j).map (d_A d)).reverse) (chQ d false (((c_Z ns d).take j).map (d_A d)).reverse) N)/\b_B (2+4*j) (cjM d (chP d false (((c_Z ns d).take j).map (d_A d)).reverse) (chQ d false (((c_Z ns d).take j).map (d_A d)).reverse) N)) ⟨r0,none,rfl,Same.refl _,?_,?_⟩ ?_ ?_ ?_
   ·show MatL H2 r0 (cjM d (chP d false []) (chQ d false []) N);rw [m_f hd sN];exact hM.up s2
   ·show b_B 2 (cjM d (chP d false []) (chQ d false []) N);rw [m_f hd sN];exact bN
   ·rintro j σ H3 _ ⟨r,v5,rfl,s3,_⟩;exact SqB.lst (s3 _ _ er2)
   ·rintro j x σ H3 ex ⟨r,v5,rfl,s3,hM3,b3⟩;obtain ⟨c,ec,rfl⟩:=c_c ex;have hj:=(zqa ec).1;have cg:=k_e (tn:=false) hd (okA j);have nx:=q_Q (tn:=false) hd (okA j) (i_b hd c) sN;have et:(((c_Z ns d).take (j+1)).map (d_A d)).reverse=d_A d c :: (((c_Z ns d).take j).map (d_A d)).reverse:=by
     rw [g_w ec,List.map_append,List.reverse_append];rfl
    rw [et,← nx];subst eB;show tAsg _ _ _ [some (.ref a),some (.int k),some (.int e),some (.int (ns.getD (k:Int).toNat 0)),some (.ref r),some (.int c)] H3;walk_at "r";refine ⟨r,_,c,d,2+4*j,rfl,hM3,e_G cg N,hd,b3,by omega,λ r4 H4 s4 hM4 b4=>?_⟩;exact ⟨_,rfl,s3.trans s4,hM4,b4.le (by omega)⟩
   ·rintro σ H3 ⟨r,v5,rfl,s3,hM3,b3⟩;rw [zqe,List.take_length] at hM3 b3;subst e1;walk_at "r";exact hQ r H3 N ((s1.trans s2).trans s3) hM3 bs (b3.le (by omega))
  refine ⟨_,_,rfl,rfl,dvs _ 2 (by decide) (by decide),?_⟩;refine ⟨_,_,rfl,rfl,(show ¬ (2:Int)=0 by decide),?_⟩;refine ⟨_,_,rfl,rfl,_,rfl,ite2 (λ z=>?_) λ z=>?_⟩
  ·rw [← hde];refine ⟨_,d,rfl,hd,λ r H1 N s1 hM hN=>go r H1 N s1 hM ?_⟩;unfold BsM exF;rw [if_pos (show decide (((ns.getD 0 0).fdiv 2).fmod 2=1)=true from z)];exact hN
  ·refine ⟨IntMulOk.of_left (by decide),_,rfl,λ r H1 M s1 hM hm hl=>go r H1 M s1 hM ?_⟩;unfold BsM exF;rw [if_neg (show ¬ decide (((ns.getD 0 0).fdiv 2).fmod 2=1)=true from z)];refine ⟨hm,?_⟩;rw [Int.fmod_eq_emod_of_nonneg _ (by decide)] at hl;omega
theorem ok_u (T:Txt K mg t):FnOk P w K mg base CX0 2 t.a_u t.d_u pf' (sp_u K):=by
 have G_3:=@ok_3 P w K mg base t T;refine T.F_u.ok sc_u (by walk_at "v") (λ cdv A outer s H vs Q E hr h=>?_)
 ·obtain ⟨a,ns,k,d,rfl,hS,hd,hQ⟩:=h;have hS':SqB false K H a (ns.map V.int):=hS;refine ⟨_,(a_C (a_P (i:=3) sc_u.nd rfl (Or.inr rfl) (a_I G_3 hr.mo rfl T.m_3 T.F_3.kp T.b_3 .nil a_O (a_A (pv 0) (a_A (pv 1) a_B))))
   (a_C (b_R (a_T c_g (a_L b_S (pv 3) a_E) a_E (a_V _))
   (a_F (a_N (c_T (a_A (a_X (xs:=["_law_k"]) (fr:=[("_law_cell",3)]) (g:=(a_M 0)) (tt:=(tEl (tOp (rI (λ _ j=>j≠0) λ i j=>.int (i.fmod j)) (tOp (rI f_K λ i j=>.int (i.fdiv j)) (tVar 1) (tOp (rI0 λ i j=>.int (i+j)) (tC (.int 4)) (tOp (rI (λ i j=>IntMulOk i j) λ i j=>.int (i*j)) (tC (.int 44)) (tVar 0)))) (tC (.int 12))))) (a_R (sc:=a_D s_u) (N:=N_u) rfl rfl (by decide +kernel)) rfl (b_I rfl T.z_range (a_A (pv 2) a_B)) (λ _ _ _ hE1=>(a_Y (N:=["_law_k","_law_cell"]) (i:=0) hE1 rfl (by decide +kernel))) (λ _ _ _ hE1=>(b_J (a_L b_S (a_L b_N (pv 1) (a_L c_y a_E (a_L b_C a_E (pv 0)))) a_E)))) (a_A (px (e_g (a_A a_E (a_A a_E a_B))) (a_L b_S (a_L b_N (pv 3) a_E) a_E)) a_B)))))
   b_z)
   (a_C (c_r (i:=4) (xs:=["_law_k"]) (fr:=[("_law_script",0),("_law_at",1)]) (g:=(a_M 0)) (tt:=(tEl (tOp (rI0 λ i j=>.int (i - j)) (tOp (rI (λ _ j=>j≠0) λ i j=>.int (i.fmod j)) (tOp (rI0 λ i j=>.int (i+j)) (e_o (sp_3 K) [] E0 (b_D (tVar 1) (b_D (tOp (rI0 λ i j=>.int (i+j)) (tOp (rI0 λ i j=>.int (i+j)) (tVar 2) (tC (.int 1))) (tVar 0)) tNil))) (tOp (rI CPow λ i j=>.int (i ^ j.toNat)) (tC (.int 10)) (tC (.int 20)))) (tOp (rI0 λ i j=>.int (i+j)) (tOp (rI (λ i j=>IntMulOk i j) λ i j=>.int (i*j)) (tC (.int 2)) (tOp (rI CPow λ i j=>.int (i ^ j.toNat)) (tC (.int 10)) (tC (.int 20)))) (tC (.int 1)))) (tOp (rI CPow λ i j=>.int (i ^ j.toNat)) (tC (.int 10)) (tC (.int 20)))))) (a_R (sc:=a_D s_u) (N:=N_u) rfl rfl (by decide +kernel)) rfl sc_u.nd rfl rfl (b_I rfl T.z_range (a_A (pv 2) a_B)) (λ _ _ _ hE1=>(a_Y (N:=["_law_k","_law_script","_law_at"]) (i:=0) hE1 rfl (by decide +kernel))) (λ _ _ _ hE1=>(b_J (a_L d_R (a_L b_S (a_L c_y (a_I G_3 hr.mo rfl T.m_3 T.F_3.kp T.b_3 .nil a_O (a_A (pv 1) (a_A (a_L c_y (a_L c_y (pv 2) a_E) (pv 0)) a_B))) (a_L h_i a_E a_E)) (a_L c_y (a_L b_C a_E (a_L h_i a_E a_E)) a_E)) (a_L h_i a_E a_E)))))
   (a_F (a_N (c_T (a_A (pv 4) (a_A (a_L c_y a_E (a_L b_S (a_L b_N (pv 3) a_E) a_E)) a_B)))))))),?_⟩
  show tSeq _ _ _ [some (.ref a),some (.int k),some (.int d),none,none] H;refine st λ N1 e1=>?_;walk_at "r";refine ⟨a,ns,k,rfl,hS',by omega,?_⟩;generalize ns.getD (k:Int).toNat 0=c;subst e1;refine st λ N1 e1=>?_;walk_at "r";refine ⟨by decide,ite2 (λ _=>?_) λ _=>?_⟩
  ·refine a_S λ B0 eB=>?_;simp only [c_w];walk_at "r";refine ⟨(r62 hd).1,(r62 hd).2,λ a2 ha2=>?_⟩;rw [zR];refine c_l (λ j y _=>y=.int ((c.fdiv (4+44*(j:Int))).fmod 12)) ha2 (ddk hd) (λ _ _ _ _ h _=>h) ?_ ?_
   ·intro j H4 zs hj s4 ez Q' hQ';subst eB;show tOp _ _ _ [some (.int (0+(j:Int))),some (.int c)] H4 Q';rw [Int.zero_add];walk_at "r";refine ⟨IntMulOk.of_left (by decide),dvs _ _ (by omega) (by omega),by decide,hQ' _ _ (Same.refl _) rfl⟩
   ·intro H4 zs s4 ez hlz hr4;have ey:=g_Z (f:=λ j=>(c.fdiv (4+44*(j:Int))).fmod 12) hlz hr4;subst ey;refine ⟨by show 2<=sizeLine; decide,λ p hp=>⟨dvs _ 2 (by decide) (by decide),by decide,?_⟩⟩;have f2:=fms (c.fdiv 2) 2 (by decide);have e2:(c.fdiv 2).fmod 2=0\/(c.fdiv 2).fmod 2=1:=by omega
    have s5:Same H (upd H4 p (.lst [.int 4,.int 6])):=s4.trans (Same.new hp);have e5:=Same.new hp (o:=.lst [.int 4,.int 6]) _ _ ez;have ep:(upd H4 p (.lst [.int 4,.int 6])) p=some (.lst [.int 4,.int 6]):=a_G;generalize upd H4 p (.lst [.int 4,.int 6])=H5 at s5 e5 ep;have bt:c_a 70 ((List.range d).map λ j:Nat=>(c.fdiv (4+44*(j:Int))).fmod 12):=i_g λ j=>by
     have:=fms (c.fdiv (4+44*(j:Int))) 12 (by decide);have e70:(12:Nat) < 2 ^ 70:=by decide
     omega
    have fin:∀ v:Int,0 < v->v<=12->([V.ref a2,V.int v].length<=sizeLine/\∀ (p:Addr),H5 p=none->Q (V.ref p) (upd H5 p (HO.tup [V.ref a2,V.int v]))):=λ v v0 v12 =>
     ⟨by show 2<=sizeLine; decide,λ q hq=>hQ q a2 _ _ v (s5.trans (Same.new hq)) a_G (Same.new hq _ _ e5) (by rw [zqe,List.length_range]) bt v0 v12⟩
    rcases e2 with e | e <;> rw [e]
    ·exact ⟨false,p,_,_,_,rfl,rfl,SqB.lst ep,b_Y (i:=0) rfl rfl,fin 4 (by decide) (by decide)⟩
    ·exact ⟨false,p,_,_,_,rfl,rfl,SqB.lst ep,b_Y (i:=1) rfl rfl,fin 6 (by decide) (by decide)⟩
  ·subst e1;refine st λ N1 e1=>?_;walk_at "r";refine a_S λ B0 eB=>?_;simp only [c_w];walk_at "r";refine ⟨(r62 hd).1,(r62 hd).2,λ a2 ha2=>?_⟩;rw [zR];refine c_l (λ j y _=>y=.int ((ns.getD (k+1+j) 0+100000000000000000000).fmod (2*100000000000000000000+1) - 100000000000000000000)) ha2 (ddk hd) (λ _ _ _ _ h _=>h) ?_ ?_
   ·intro j H4 zs hj s4 ez Q' hQ';subst eB;show tOp _ _ _ [some (.int (0+(j:Int))),some (.ref a),some (.int k)] H4 Q';rw [Int.zero_add];walk_at "r";refine ⟨a,ns,_,rfl,hS'.up s4,by omega,?_⟩;have p20:CPow 10 20:=⟨by decide,by decide,by decide⟩;have e20:(10:Int) ^ Int.toNat 20=100000000000000000000:=by decide
    try walk_at "r"
    rw [e20,show ((k:Int)+1+(j:Int)).toNat=k+1+j by omega];exact ⟨p20,p20,mulOk_of_bits (m:=2) (n:=70) (b_G (by decide)) (b_G (by decide)) (by decide),by decide,p20,hQ' _ _ (Same.refl _) rfl⟩
   ·intro H4 zs s4 ez hlz hr4;have ey:=g_Z (f:=λ j=>(ns.getD (k+1+j) 0+100000000000000000000).fmod (2*100000000000000000000+1) - 100000000000000000000) hlz hr4;subst ey;subst e1;walk_at "r";refine ⟨dvs _ 2 (by decide) (by decide),by decide,by show 2<=sizeLine; decide,λ q hq=>?_⟩;have f12:=fms (c.fdiv 2) 12 (by decide);refine hQ q a2 _ _ _ (s4.trans (Same.new hq)) a_G (Same.new hq _ _ ez) (by rw [zqe,List.length_range]) (i_g λ j=>?_) (by omega) (by omega);have fm:=fms (ns.getD (k+1+j) 0+100000000000000000000) (2*100000000000000000000+1) (by decide);have e70:(100000000000000000000:Nat) < 2 ^ 70:=by decide
    omega
theorem ok_h (T:Txt K mg t):FnOk P w K mg base CX0 2 t.a_h t.d_h pa' (sp_h K):=by
 have G_1a:=@ok_1a P w K mg base t T;refine T.F_h.ok sc_h (by walk_at "v") (λ cdv A outer s H vs Q E hr h=>?_)
 ·obtain ⟨b,tp,a,sp,MB,MA,ts,ss,d,rfl,hBL,hts,hAL,hss,sB,sA,hd,lt,ls,bB,bA,bt,hQ⟩:=h;have hA:MatB false false K H a MA:=hAL.b;have hB:MatB false false K H b MB:=hBL.b;refine ⟨_,(a_C (a_P (i:=4) sc_h.nd rfl (Or.inl rfl) (e_g a_B))
   (a_C (c_A zG rfl (b_M (pv 2)) (b_E (i:=5) sc_h.nd rfl (Or.inr rfl))
   (a_F (c_R (j_J PySem.F.plainAttrs_list PySem.F.slot_list_append PySem.F.type_list_append e_p (pv 4) (a_A (a_X (xs:=["_law_j"]) (fr:=[("_law_rows_here",0),("_law_row",5)]) (g:=(a_M 0)) (tt:=(tEl (tCB (λ xs H Q=>∃ (p:Addr) (ns:List Int),xs=[.ref p]/\SqL K H p (ns.map V.int)/\Q (.int ns.sum) H) (b_D (b_X (c_w (b_D (tCB (f_Z K) (b_D (tVar 1) tNil)) tNil)) (a_M 0) (tEl (tOp (rI (λ i j=>IntMulOk i j) λ i j=>.int (i*j)) (tOp (rIxB K) (tVar 3) (tVar 0)) (tOp (rIxB K) (tOp (rIxB K) (tVar 2) (tVar 0)) (tVar 1)))) 1 [("_law_j",0),("_law_rows_here",1),("_law_row",2)]) tNil)))) (a_R (sc:=a_D s_h) (N:=N_h) rfl rfl (by decide +kernel)) rfl (b_I rfl T.z_range (a_A (a_Q a_U rfl T.z_len (by decide +kernel) (a_A (pv 0) a_B)) a_B)) (λ _ _ _ hE1=>(d_Z (N:=["_law_j","_law_rows_here","_law_row"]) (i:=0) hE1 rfl (by decide +kernel) rfl)) (λ _ _ _ hE1=>(b_J (a_Q (e_R rfl) rfl T.z_sum (by decide +kernel) (a_A (a_X (xs:=["_law_k"]) (fr:=[("_law_j",0),("_law_rows_here",1),("_law_row",2)]) (g:=(a_M 0)) (tt:=(tEl (tOp (rI (λ i j=>IntMulOk i j) λ i j=>.int (i*j)) (tOp (rIxB K) (tVar 3) (tVar 0)) (tOp (rIxB K) (tOp (rIxB K) (tVar 2) (tVar 0)) (tVar 1))))) (a_R (N:=["_law_j","_law_rows_here","_law_row"]) hE1 rfl (by decide +kernel)) rfl (b_I rfl T.z_range (a_A (a_Q a_U rfl T.z_len (by decide +kernel) (a_A (pv 1) a_B)) a_B)) (λ _ _ _ hE2=>(a_Y (N:=["_law_k","_law_j","_law_rows_here","_law_row"]) (i:=0) hE2 rfl (by decide +kernel))) (λ _ _ _ hE2=>(b_J (a_L b_C (px (pv 3) (pv 0)) (px (px (pv 2) (pv 0)) (pv 1)))))) a_B))))) a_B)))))
   (a_C (a_P (i:=6) sc_h.nd rfl (Or.inr rfl) (a_I G_1a hr.mo rfl T.m_1a T.F_1a.kp T.b_1a .nil a_O (a_A (pv 2) (a_A (pv 1) a_B))))
   (a_F (a_N (c_T (a_A (pv 4) (a_A (a_X (xs:=["_law_k"]) (fr:=[("_law_other_tops",3),("_law_led_here",6)]) (g:=(a_M 0)) (tt:=(tEl (tOp (rI0 λ i j=>.int (i+j)) (tOp (rIxB K) (tVar 2) (tVar 0)) (tOp (rIxB K) (tVar 1) (tVar 0))))) (a_R (sc:=a_D s_h) (N:=N_h) rfl rfl (by decide +kernel)) rfl (b_I rfl T.z_range (a_A (a_Q a_U rfl T.z_len (by decide +kernel) (a_A (pv 0) a_B)) a_B)) (λ _ _ _ hE1=>(a_Y (N:=["_law_k","_law_other_tops","_law_led_here"]) (i:=0) hE1 rfl (by decide +kernel))) (λ _ _ _ hE1=>(b_J (a_L c_y (px (pv 2) (pv 0)) (px (pv 1) (pv 0)))))) a_B)))))))),?_⟩
  show tSeq _ _ _ [some (.ref b),some (.ref tp),some (.ref a),some (.ref sp),none,none,none] H;refine st λ N1 e1=>?_;walk_at "r";refine ⟨Nat.zero_le _,λ m hm=>?_⟩;subst e1;refine st λ N1 e1=>c_C λ B0 eB=>?_;simp only [iSeq];walk_at "r";have s0:Same H (upd H m (.lst [])):=Same.new hm;obtain ⟨xs,x1,x2,x3⟩:=hA.walk;refine ⟨false,⟨_,x1.up s0⟩,?_⟩;refine g_u (g:=a_M 5) (tb:=B0) (λ i σ H1=>∃ v5,σ=[some (.ref b),some (.ref tp),some (.ref a),some (.ref sp),some (.ref m),v5,none]/\Same H H1/\MatL H1 m ((mulM d MA MB).take i)) ⟨_,rfl,s0,b_A.mat a_G b_A.nil⟩ (λ _ _ _ _ ⟨_,_,s2,_⟩=>x1.up s2) ?_ ?_
  ·rintro i x σ H1 ex ⟨v5,rfl,s1,hM⟩;obtain ⟨p,r,rfl,er,hp⟩:=x3 i x ex;have hrl:r.length=d:=sA.2 r (zqb er);have eM:=l_t (w:=d) (B:=MB) er;have hid:i < d:=by have:=(zqa er).1; have:=sA.1; omega
   subst eB;show i_o _ _ [some (.ref b),some (.ref tp),some (.ref a),some (.ref sp),some (.ref m),some (.ref p),none] H1;walk_at "r";obtain ⟨zs0,hm0,_⟩:=hM.refs;refine ⟨.inl ⟨rfl,_,SqL.of hm0⟩,?_⟩;refine a_S λ B0 eB=>?_;simp only [c_w];walk_at "r";refine b_V (hB.up s1) ⟨_,rfl,by rw [sB.1]; omega,by rw [sB.1]; omega,λ a1 ha1=>?_⟩;rw [zR,sB.1];refine c_l (λ j y _=>j < d/\y=.int (dotI r (colI j MB))) ha1 (by omega) (λ _ _ _ _ r _=>r) ?_ ?_
   ·intro j H2 zs hj s2 ez Q' hQ';subst eB;show tCB _ _ [some (.int (0+(j:Int))),some (.ref b),some (.ref p)] H2 Q';walk_at "r";refine a_S λ B0 eB=>?_;simp only [c_w];walk_at "r";refine b_V ((hB.up s1).up s2) ⟨_,rfl,by rw [sB.1]; omega,by rw [sB.1]; omega,λ a2 ha2=>?_⟩;rw [zR,sB.1];refine c_l (λ k y _=>∃ x,(List.zipWith (·*·) r (colI j MB))[k]?=some x/\y=.int x) ha2 (by omega) (λ _ _ _ _ r _=>r) ?_ ?_
    ·intro k H3 zs3 hk s3 ez3 Q2 hQ2;have eb:MB[k]?=some (MB.getD k []):=by have:=sB.1; simp [show k < MB.length by omega]
     have hbl:(MB.getD k []).length=d:=sB.2 _ (zqb eb);have hkr:k < r.length:=by omega
     subst eB;show tOp _ _ _ [some (.int (0+(k:Int))),some (.int (0+(j:Int))),some (.ref b),some (.ref p)] H3 Q2;walk_at "r";refine ⟨false,p,_,_,_,rfl,rfl,((hp.up s1).up s2).up s3,b_Y (c_N (getD_at hkr)) (by omega),?_⟩;refine d_D (((hB.up s1).up s2).up s3) eb (getD_at (k:=j) (by omega)) (by omega) (by omega) ?_;walk_at "r";refine ⟨mulOk_of_bits (b_G (bA r (zqb er) _ (L2.getD_mem hkr))) (b_G (bB _ (zqb eb) _ (L2.getD_mem (by omega)))) (by decide),hQ2 _ _ (Same.refl _) ⟨_,?_,rfl⟩⟩;have ec:(colI j MB)[k]?=some ((MB.getD k []).getD j 0):=by unfold colI; rw [zH,eb]; rfl
     rw [List.getElem?_zipWith,L2.getD_at hkr,ec]
    ·intro H3 ys s3 e3 hly hr3;have ey:ys=(List.zipWith (·*·) r (colI j MB)).map V.int:=by
      refine b_K (by have:=sB.1; simp [colI]; omega) λ k y e=>?_;obtain ⟨x,ex,rfl⟩:=hr3 k y e;exact ⟨x,ex,rfl⟩
     subst ey;exact ⟨a2,rfl,_,SqL.of e3,hQ' _ _ s3 ⟨hj,rfl⟩⟩
   ·intro H2 ys s2 e2 hly hr2;have ey:ys=((List.range d).map λ k=>dotI r (colI k MB)).map V.int:=by
     refine b_K (by simpa using hly) λ j y e=>?_;obtain ⟨hj,rfl⟩:=hr2 j y e;exact ⟨_,by rw [zH,yH hj]; rfl,rfl⟩
    subst ey;have ne:a1≠m:=Ne.symm (a_J hm0 ha1);obtain ⟨zs,z1,z2,z3⟩:=(hM.up s2).app e2 ne;refine ⟨m,zs,_,rfl,rfl,z1,c_p (by rw [z2,List.length_take]; omega),?_⟩;have et:(mulM d MA MB).take (i+1)=(mulM d MA MB).take i++[(List.range d).map λ k=>dotI r (colI k MB)]:=by rw [List.take_add_one,eM]; rfl
    rw [et];exact ⟨Same.over hm (s1.trans s2),z3⟩
  ·rintro σ H1 ⟨v5,rfl,s1,hM⟩;rw [List.take_of_length_le (by rw [x2]; simp [mulM])] at hM;subst e1;refine st λ N1 e1=>?_;walk_at "r";refine ⟨false,false,false,a,tp,MA,ts,d,rfl,hA.up s1,SqB.lst (s1 _ _ hts),sA,hd,lt,bA.le (by decide),bt.le (by decide),λ r5 H2 s2 _ e5=>?_⟩;subst e1;walk_at "r";refine a_S λ B0 eB=>?_;simp only [c_w];walk_at "r";refine b_V ((hB.up s1).up s2) ⟨_,rfl,by rw [sB.1]; omega,by rw [sB.1]; omega,λ a3 ha3=>?_⟩;rw [zR,sB.1];have ll:(mv MA ts).length=d:=b_H sA;refine c_l (λ k y _=>∃ x,(va (mv MA ts) ss)[k]?=some x/\y=.int x) ha3 (by omega) (λ _ _ _ _ r _=>r) ?_ ?_
   ·intro k H3 zs3 hk s3 ez3 Q2 hQ2;subst eB;show tOp _ _ _ [some (.int (0+(k:Int))),some (.ref sp),some (.ref r5)] H3 Q2;rw [Int.zero_add];walk_at "r";refine g_l (SqB.lst (s3 _ _ e5)) (c_N (getD_at (k:=k) (by omega))) ?_;refine g_l (SqB.lst (s3 _ _ (s2 _ _ (s1 _ _ hss)))) (c_N (getD_at (k:=k) (by omega))) ?_;refine ⟨_,_,rfl,rfl,hQ2 _ _ (Same.refl _) ⟨_,?_,rfl⟩⟩;unfold va;rw [List.getElem?_zipWith,L2.getD_at (by omega),L2.getD_at (by omega)]
   ·intro H3 ys s3 e3 hly hr3;have ey:ys=(va (mv MA ts) ss).map V.int:=b_K (by rw [e_B ll ls]; exact hly) hr3;subst ey;refine ⟨by show 2<=sizeLine; decide,λ p hp=>?_⟩;exact hQ p m a3 _ (((s1.trans s2).trans s3).trans (Same.new hp)) a_G (((hM.up s2).up s3).up (Same.new hp)) (Same.new hp _ _ e3)
theorem s_J {d i:Nat} (hi:i < d):(idM d).getD i []=(List.range d).map (λ k=>if i=k then (1:Int) else 0):=by unfold idM; simp [hi]
theorem ok_v (T:Txt K mg t):FnOk P w K mg base CX0 1 t.a_v t.d_v pw' sp_v:=by
 refine T.F_v.ok sc_v (by walk_at "v") (λ cdv A outer s H vs Q E hr h=>?_)
 ·obtain ⟨a,MA,d,rfl,hM,sA,hd,hQ⟩:=h;have hu:=hr.units;have hA:MatB false false K H a MA:=hM.b;refine ⟨_,(a_C (c_A zG rfl (b_I rfl T.z_range (a_A (a_Q a_U rfl T.z_len (by decide +kernel) (a_A (pv 0) a_B)) a_B)) (b_E (i:=1) sc_v.nd rfl (Or.inr rfl))
   (a_F (b_R (a_T (r_J hu) (px (pv 0) (pv 1)) (a_X (xs:=["_law_k"]) (fr:=[("_law_i",1)]) (g:=(a_M 0)) (tt:=(tEl (tCB (λ xs H Q=>(∃ i,xs=[.int i]/\Q (.int i) H)\/∃ k,xs=[.bl k]/\Q (.int (if k then 1 else 0)) H) (b_D (tOp (rI0 λ i j=>.bl (decide (i=j))) (tVar 1) (tVar 0)) tNil)))) (a_R (sc:=a_D s_v) (N:=N_v) rfl rfl (by decide +kernel)) rfl (b_I rfl T.z_range (a_A (a_Q a_U rfl T.z_len (by decide +kernel) (a_A (pv 0) a_B)) a_B)) (λ _ _ _ hE1=>(a_Y (N:=["_law_k","_law_i"]) (i:=0) hE1 rfl (by decide +kernel))) (λ _ _ _ hE1=>(b_J (b_T i_q rfl T.z_int (by decide +kernel) (a_A (c_S c_g (pv 1) (pv 0) (a_V _)) a_B))))) (a_V _))
   (a_F (a_N j_F))
   b_z)))
   (a_F (a_N j_F))),?_⟩
  show tSeq _ _ _ [some (.ref a),none] H;refine st λ N1 e1=>c_C λ B eB=>?_;simp only [c_w];walk_at "r";refine b_V hA ⟨_,rfl,by rw [sA.1]; omega,by rw [sA.1]; omega,?_⟩;rw [zR,sA.1];have la:∀ i,i < d->MA[i]?=some (MA.getD i []):=λ i hi=>by have:=sA.1; simp [show i < MA.length by omega]
  have li:∀ i,i < d->(idM d)[i]?=some ((idM d).getD i []):=λ i hi=>by have h:(idM d).length=d:=e_j.1; simp [show i < (idM d).length by omega]
  refine d_J (g:=a_M 1) (tb:=B) (λ i σ H1=>∃ v1,σ=[some (.ref a),v1]/\Same H H1/\∀ j < i,MA.getD j []=(idM d).getD j []) ⟨_,rfl,Same.refl _,λ j hj=>by omega⟩ ?_ ?_
  ·rintro i σ H1 hi ⟨v1,rfl,s1,hprev⟩;subst eB;show tIfS _ _ _ _ [some (.ref a),some (.int (0+(i:Int)))] H1;rw [Int.zero_add];walk_at "r";refine f_C (hA.up s1) (la i hi) rfl λ p hp=>?_;refine a_S λ B0 eB=>?_;simp only [c_w];walk_at "r";refine b_V (hA.up s1) ⟨_,rfl,by rw [sA.1]; omega,by rw [sA.1]; omega,λ a2 ha2=>?_⟩;rw [zR,sA.1];refine c_l (λ k y _=>k < d/\y=.int (if i=k then 1 else 0)) ha2 (by omega) (λ _ _ _ _ r _=>r) ?_ ?_
   ·intro k H3 zs3 hk s3 ez3 Q2 hQ2;subst eB;show tCB _ _ [some (.int (0+(k:Int))),some (.int i)] H3 Q2;rw [Int.zero_add];walk_at "r";refine .inr (hQ2 _ _ (Same.refl _) ⟨hk,?_⟩)
    by_cases z:i=k
    ·rw [if_pos z,if_pos (zW (by omega))]
    ·rw [if_neg z,if_neg (by rw [decide_eq_true_eq]; omega)]
   ·intro H3 ys s3 e3 hly hr3;have ey:ys=((idM d).getD i []).map V.int:=by
     rw [s_J hi];refine b_K (by simpa using hly) λ k y e=>?_;obtain ⟨hk,rfl⟩:=hr3 k y e;exact ⟨_,by rw [zH,yH hk]; rfl,rfl⟩
    subst ey;refine r_L 1 (by decide) (Dt.intsB (hp.up s3)) (Dt.intsB (SqB.lst e3)) (g_T _ 0 _) (g_T _ 0 _) (b:=decide (MA.getD i []=(idM d).getD i [])) (by rw [i_A,decide_eq_true_eq]) ?_;walk_at "r"
    by_cases z:MA.getD i []=(idM d).getD i []
    ·rw [zW z];refine iteF ⟨s1.trans s3,λ j hj=>?_⟩
     by_cases e:j=i
     ·rw [e]; exact z
     ·exact hprev j (by omega)
    ·rw [zX z];refine iteT ?_;have:=hQ H3 (s1.trans s3);rw [zX (λ e=>z (by rw [e]))] at this;exact this
  ·rintro σ H1 ⟨v1,rfl,s1,hall⟩;subst e1;walk_at "r";have e:MA=idM d:=by
    refine List.ext_getElem? λ j=>?_
    by_cases hj:j < d
    ·rw [la j hj,li j hj,hall j hj]
    ·rw [List.getElem?_eq_none (by rw [sA.1]; omega),List.getElem?_eq_none (by rw [e_j.1]; omega)]
   have:=hQ H1 s1;rw [zW e] at this;exact this
theorem ok_s (T:Txt K mg t):FnOk P w K mg base CX0 2 t.a_s t.d_s pj' sp_s:=by
 have G_v:=@ok_v P w K mg base t T;refine T.F_s.ok sc_s (by walk_at "v") (λ cdv A outer s H vs Q E hr h=>?_)
 ·obtain ⟨b,MB,d,rfl,hM,sB,hd,bB,hQ⟩:=h;have hB:MatB false false K H b MB:=hM.b;refine ⟨_,(a_C (a_P (i:=2) sc_s.nd rfl (Or.inl rfl) (pv 0))
   (a_C (c_A zG rfl (e_X rfl T.z_range (a_A a_E (a_A a_E a_B))) (b_E (i:=3) sc_s.nd rfl (Or.inl rfl))
   (a_C (b_R (e_f (a_I G_v hr.mo rfl T.m_v T.F_v.kp T.b_v .nil a_O (a_A (pv 2) a_B)))
   (a_F (a_N (c_S c_g (pv 3) (pv 1) (a_V _))))
   b_z)
   (a_F (c_r (i:=2) (xs:=["_law_row"]) (fr:=[("_law_rows_here",0)]) (g:=(a_M 0)) (tt:=(tEl (b_X (c_w (b_D (tCB (f_Z K) (b_D (tVar 1) tNil)) tNil)) (a_M 0) (tEl (tCB (λ xs H Q=>∃ (p:Addr) (ns:List Int),xs=[.ref p]/\SqL K H p (ns.map V.int)/\Q (.int ns.sum) H) (b_D (b_X (c_w (b_D (tCB (f_Z K) (b_D (tVar 2) tNil)) tNil)) (a_M 0) (tEl (tOp (rI (λ i j=>IntMulOk i j) λ i j=>.int (i*j)) (tOp (rIxB K) (tVar 2) (tVar 0)) (tOp (rIxB K) (tOp (rIxB K) (tVar 3) (tVar 0)) (tVar 1)))) 1 [("_law_j",0),("_law_row",1),("_law_rows_here",2)]) tNil))) 1 [("_law_row",0),("_law_rows_here",1)]))) (a_R (sc:=a_D s_s) (N:=N_s) rfl rfl (by decide +kernel)) rfl sc_s.nd rfl rfl (b_M (pv 2)) (λ _ _ _ hE1=>(d_Z (N:=["_law_row","_law_rows_here"]) (i:=0) hE1 rfl (by decide +kernel) rfl)) (λ _ _ _ hE1=>(b_J (a_X (xs:=["_law_j"]) (fr:=[("_law_row",0),("_law_rows_here",1)]) (g:=(a_M 0)) (tt:=(tEl (tCB (λ xs H Q=>∃ (p:Addr) (ns:List Int),xs=[.ref p]/\SqL K H p (ns.map V.int)/\Q (.int ns.sum) H) (b_D (b_X (c_w (b_D (tCB (f_Z K) (b_D (tVar 2) tNil)) tNil)) (a_M 0) (tEl (tOp (rI (λ i j=>IntMulOk i j) λ i j=>.int (i*j)) (tOp (rIxB K) (tVar 2) (tVar 0)) (tOp (rIxB K) (tOp (rIxB K) (tVar 3) (tVar 0)) (tVar 1)))) 1 [("_law_j",0),("_law_row",1),("_law_rows_here",2)]) tNil)))) (a_R (N:=["_law_row","_law_rows_here"]) hE1 rfl (by decide +kernel)) rfl (b_I rfl T.z_range (a_A (a_Q a_U rfl T.z_len (by decide +kernel) (a_A (pv 1) a_B)) a_B)) (λ _ _ _ hE2=>(d_Z (N:=["_law_j","_law_row","_law_rows_here"]) (i:=0) hE2 rfl (by decide +kernel) rfl)) (λ _ _ _ hE2=>(b_J (a_Q (e_R rfl) rfl T.z_sum (by decide +kernel) (a_A (a_X (xs:=["_law_i"]) (fr:=[("_law_j",0),("_law_row",1),("_law_rows_here",2)]) (g:=(a_M 0)) (tt:=(tEl (tOp (rI (λ i j=>IntMulOk i j) λ i j=>.int (i*j)) (tOp (rIxB K) (tVar 2) (tVar 0)) (tOp (rIxB K) (tOp (rIxB K) (tVar 3) (tVar 0)) (tVar 1))))) (a_R (N:=["_law_j","_law_row","_law_rows_here"]) hE2 rfl (by decide +kernel)) rfl (b_I rfl T.z_range (a_A (a_Q a_U rfl T.z_len (by decide +kernel) (a_A (pv 2) a_B)) a_B)) (λ _ _ _ hE3=>(a_Y (N:=["_law_i","_law_j","_law_row","_law_rows_here"]) (i:=0) hE3 rfl (by decide +kernel))) (λ _ _ _ hE3=>(b_J (a_L b_C (px (pv 2) (pv 0)) (px (px (pv 3) (pv 0)) (pv 1)))))) a_B)))))))))))
   (a_F (a_N (c_S c_g (pv 1) a_E (a_V _)))))),?_⟩
  show tSeq _ _ _ [some (.ref b),some (.int (spn d MB)),none,none] H;refine st λ N1 e1=>?_;walk_at "r";subst e1;refine st λ N1 e1=>c_C λ B0 eB=>?_;simp only [j_H];walk_at "r";refine ⟨by decide,by decide,by decide,by decide,?_⟩;rw [show ((7:Int) - 1).toNat=6 from rfl];have so:=f_H d MB;refine d_J (g:=a_M 3) (tb:=B0) (λ i σ H3=>∃ r v3,σ=[some (.ref b),some (.int (spn d MB)),some (.ref r),v3]/\Same H H3/\MatL H3 r (pw d MB i)/\∀ j < i,pw d MB j≠idM d) ⟨_,_,rfl,Same.refl _,hM,λ j hj=>by omega⟩ ?_ ?_
  ·rintro i σ H3 hi ⟨r,v3,rfl,s3,hP,hno⟩;have sP:=Sq.pw sB i;have bP:=b_B.pw (by omega) sB bB i;subst eB;show tSeq _ _ _ [some (.ref b),some (.int (spn d MB)),some (.ref r),some (.int (1+(i:Int)))] H3;refine st λ N2 e2=>?_;walk_at "r";refine ⟨r,_,d,rfl,hP,sP,hd,λ H4 s4=>?_⟩;refine ⟨_,rfl,ite2 (λ z=>?_) λ z=>?_⟩
   ·have z:=zY z;have e:1+(i:Int)=spn d MB:=by
     rw [← d_O (.inr ⟨i,hi,Int.add_comm _ _,z,hno⟩)]
    rw [zW e];exact hQ H4 (s3.trans s4)
   ·have hne:pw d MB i≠idM d:=λ e=>z (zW e);have hPB:MatB false false K H4 r (pw d MB i):=(hP.up s4).b;have hB4:=hB.up (s3.trans s4);subst e2;walk_at "r";refine a_S λ B1 eB1=>?_;simp only [iSeq];walk_at "r";obtain ⟨xs,x1,x2,x3⟩:=hPB.walk;refine ⟨false,⟨_,x1⟩,λ a1 ha1=>?_⟩;refine c_h (RowR a1 λ j=>(mulM d (pw d MB i) MB).getD j []) ha1 x1 (by rw [x2,sP.1]; omega) (RowR.mono (a:=a1)) ?_ ?_
    ·intro m x H5 zs ex s5 ez Q' hQ';obtain ⟨p,rr,rfl,er,hp⟩:=x3 m x ex;have hrl:rr.length=d:=sP.2 rr (zqb er);subst eB1;show b_X _ _ _ _ _ [some (.ref p),some (.ref b)] H5 Q';refine a_S λ B2 eB2=>?_;simp only [c_w];walk_at "r";refine b_V (hB4.up s5) ⟨_,rfl,by rw [sB.1]; omega,by rw [sB.1]; omega,λ a2 ha2=>?_⟩;rw [zR,sB.1];refine c_l (λ j y _=>j < d/\y=.int (dotI rr (colI j MB))) ha2 (by omega) (λ _ _ _ _ r _=>r) ?_ ?_
     ·intro j H6 zs6 hj s6 ez6 Q2 hQ2;subst eB2;show tCB _ _ [some (.int (0+(j:Int))),some (.ref p),some (.ref b)] H6 Q2;walk_at "r";refine a_S λ B3 eB3=>?_;simp only [c_w];walk_at "r";refine b_V ((hB4.up s5).up s6) ⟨_,rfl,by rw [sB.1]; omega,by rw [sB.1]; omega,λ a3 ha3=>?_⟩;rw [zR,sB.1];refine c_l (λ k y _=>∃ x,(List.zipWith (·*·) rr (colI j MB))[k]?=some x/\y=.int x) ha3 (by omega) (λ _ _ _ _ r _=>r) ?_ ?_
      ·intro k H7 zs7 hk s7 ez7 Q3 hQ3;have eb:MB[k]?=some (MB.getD k []):=by have:=sB.1; simp [show k < MB.length by omega]
       have hbl:(MB.getD k []).length=d:=sB.2 _ (zqb eb);have hkr:k < rr.length:=by omega
       subst eB3;show tOp _ _ _ [some (.int (0+(k:Int))),some (.int (0+(j:Int))),some (.ref p),some (.ref b)] H7 Q3;walk_at "r";refine ⟨false,p,_,_,_,rfl,rfl,((hp.up s5).up s6).up s7,b_Y (c_N (getD_at hkr)) (by omega),?_⟩;refine d_D (((hB4.up s5).up s6).up s7) eb (getD_at (k:=j) (by omega)) (by omega) (by omega) ?_;walk_at "r";have w1:(i+1)*(200+3)<=7*203:=Nat.mul_le_mul (by omega) (by omega);refine ⟨mulOk_of_bits (b_G (bP rr (zqb er) _ (L2.getD_mem hkr))) (b_G (bB _ (zqb eb) _ (L2.getD_mem (by omega)))) (by omega),hQ3 _ _ (Same.refl _) ⟨_,?_,rfl⟩⟩;have ec:(colI j MB)[k]?=some ((MB.getD k []).getD j 0):=by unfold colI; rw [zH,eb]; rfl
       rw [List.getElem?_zipWith,L2.getD_at hkr,ec]
      ·intro H7 ys s7 e7 hly hr7;have ey:ys=(List.zipWith (·*·) rr (colI j MB)).map V.int:=by
        refine b_K (by have:=sB.1; simp [colI]; omega) λ k y e=>?_;obtain ⟨x,ex,rfl⟩:=hr7 k y e;exact ⟨x,ex,rfl⟩
       subst ey;exact ⟨a3,rfl,_,SqL.of e7,hQ2 _ _ s7 ⟨hj,rfl⟩⟩
     ·intro H6 ys s6 e6 hly hr6;have ey:ys=((List.range d).map λ k=>dotI rr (colI k MB)).map V.int:=by
       refine b_K (by simpa using hly) λ j y e=>?_;obtain ⟨hj,rfl⟩:=hr6 j y e;exact ⟨_,by rw [zH,yH hj]; rfl,rfl⟩
      subst ey;refine hQ' _ _ s6 ⟨a2,rfl,Ne.symm (a_J ez ha2),?_⟩;dsimp only;rw [zqc,l_t (w:=d) (B:=MB) er];exact e6
    ·intro H5 ys s5 e5 hly hr5;have hm:=MatL.of e5 hr5;have e:(List.range ys.length).map (λ j=>(mulM d (pw d MB i) MB).getD j [])=mulM d (pw d MB i) MB:=by
      have hl:ys.length=(mulM d (pw d MB i) MB).length:=by rw [hly,x2]; simp [mulM]
      rw [hl];refine yG (by simp) λ i h1 h2=>?_;simp at h1;simp [h1]
     rw [e] at hm;refine ⟨_,rfl,(s3.trans s4).trans s5,hm,λ j hj=>?_⟩
     by_cases e:j=i
     ·rw [e]; exact hne
     ·exact hno j (by omega)
  ·rintro σ H3 ⟨r,v3,rfl,s3,hP,hno⟩;subst e1;walk_at "r";have e:spn d MB=0:=(d_O (.inl ⟨rfl,hno⟩)).symm;rw [zW e];exact hQ _ s3
theorem ok_j (T:Txt K mg t):FnOk P w K mg base CX0 1 t.a_j t.d_j pw' sp_j:=by
 refine T.F_j.ok sc_j (by walk_at "v") (λ cdv A outer s H vs Q E hr h=>?_)
 ·obtain ⟨a,MA,d,rfl,hM,sA,hd,hQ⟩:=h;have hA:MatB false false K H a MA:=hM.b;refine ⟨_,(a_F (a_N (a_Q (e_R rfl) rfl T.z_sum (by decide +kernel) (a_A (a_X (xs:=["_law_k"]) (fr:=[("_law_rows_here",0)]) (g:=(a_M 0)) (tt:=(tEl (tOp (rIxB K) (tOp (rIxB K) (tVar 1) (tVar 0)) (tVar 0)))) (a_R (sc:=a_D s_j) (N:=N_j) rfl rfl (by decide +kernel)) rfl (b_I rfl T.z_range (a_A (a_Q a_U rfl T.z_len (by decide +kernel) (a_A (pv 0) a_B)) a_B)) (λ _ _ _ hE1=>(a_Y (N:=["_law_k","_law_rows_here"]) (i:=0) hE1 rfl (by decide +kernel))) (λ _ _ _ hE1=>(b_J (px (px (pv 1) (pv 0)) (pv 0))))) a_B)))),?_⟩;show tRet _ _ [some (.ref a)] H;walk_at "r";refine a_S λ B0 eB=>?_;simp only [c_w];walk_at "r";refine b_V hA ⟨_,rfl,by rw [sA.1]; omega,by rw [sA.1]; omega,λ a2 ha2=>?_⟩;rw [zR,sA.1];refine c_l (λ k y _=>y=.int ((MA.getD k []).getD k 0)) ha2 (by omega) (λ _ _ _ _ r _=>r) ?_ ?_
  ·intro k H3 zs3 hk s3 ez3 Q2 hQ2;have eb:MA[k]?=some (MA.getD k []):=by have:=sA.1; simp [show k < MA.length by omega]
   have hbl:(MA.getD k []).length=d:=sA.2 _ (zqb eb);subst eB;show tOp _ _ _ [some (.int (0+(k:Int))),some (.ref a)] H3 Q2;rw [Int.zero_add];walk_at "r";exact d_D (hA.up s3) eb (getD_at (k:=k) (by omega)) rfl rfl (hQ2 _ _ (Same.refl _) rfl)
  ·intro H3 ys s3 e3 hly hr3;have ey:=g_Z (f:=λ k=>(MA.getD k []).getD k 0) hly hr3;subst ey;exact ⟨a2,rfl,_,SqL.of e3,hQ H3 s3⟩
theorem n_H (T:Txt K mg t) (Bm:d_V mg base):∀ C,b_F t C->e_a P w K mg base 7 "at_rest" (sp_5 K t) C:=λ C h=>⟨i_V T h,_,_,_,d_X (p:=λ C=>Meth K C "at_rest" t.a_5) h T.h_3 T.h_a T.h_b T.h_4 T.h_1 T.h_5 T.h_6 T.h_7 T.h_0,ok_5 T Bm C h,T.b_5⟩
theorem Dt.place {H:Hp} {p:Addr} {ts:List Int} {u:Int} (h:b_P H p ts u):Dt K H (.ref p) (.tuple [f_M true ts,.int u]):=by
 obtain ⟨q,h1,h2⟩:=h;exact .tup (SqT.of h1) (.cons (Dt.intsB (SqB.tup h2)) (.cons (.int u) .nil))
theorem k_r (ts:List Int) (u:Int):iT 2 (.tuple [f_M true ts,.int u])=true:=by
 have:=g_T true 0 ts;simp [iT,this]
theorem h_c {H H':Hp} {b:Addr} {o:HO} (ev:Ev K t [] H H') (e:H b=some o) (n:∀ ps,o≠.tbl ps):H' b=some o:=ev.1 _ _ (λ z=>nomatch z) n e
theorem j_C {H H':Hp} {a C p:Addr} {M:LM} {ts:List Int} {u:Int} {d:Nat} (h:d_F K H a C p M ts u d) (ev:Ev K t [] H H'):d_F K H' a C p M ts u d:=by
 obtain ⟨⟨dx,ob⟩,⟨pr,pt,h1,h2,h3⟩,kd⟩:=h;exact ⟨⟨dx,h_c ev ob (λ _ z=>by cases z)⟩,⟨pr,pt,h_c ev h1 (λ _ z=>by cases z),l_T h2 ev,h_c ev h3 (λ _ z=>by cases z)⟩,kd⟩
theorem i_h {H:Hp} {r a2:Addr} {ts:List Int} {u:Int} {d:Nat} {σ:St} {Q:VK} {fr:List (Str × Nat)} (hf:c_q fr σ=[some (.int u)]) (hd:d=2\/d=3) (hr:H r=some (.lst (ts.map V.int))) (lt:ts.length=d) (u0:0 < u) (u12:u<=12) (ha2:H a2=none) (hQ:∀ H',Same H H'->H' a2=some (.lst ((ts.map λ z=>z*u).map V.int))->Q (.ref a2) H'):c_D (Its K false r) (a_M 0) (tEl (tOp (rI (λ i j=>IntMulOk i j) λ i j=>.int (i*j)) (tVar 0) (tVar 1))) 1 fr σ a2 H Q:=by
 refine c_h (λ j y _=>∃ m,(ts.map λ z=>z*u)[j]?=some m/\y=.int m) ha2 (SqB.lst hr) (by rw [zqe,lt]; exact ddk hd) (λ _ _ _ _ r _=>r) ?_ ?_
 ·intro j y H4 zs ey s4 ez Q2 hQ2;obtain ⟨m,em,rfl⟩:=c_c ey;rw [hf];show tOp _ _ _ [some (.int m),some (.int u)] H4 Q2;walk_at "r";exact ⟨IntMulOk.of_right (u64 u0 u12),hQ2 _ _ (Same.refl _) ⟨_,by rw [zH,em]; rfl,rfl⟩⟩
 ·intro H4 ys s4 e4 hly hr4;have ey:ys=(ts.map λ z=>z*u).map V.int:=b_K (by rw [hly,zqe,zqe]) hr4;subst ey;exact hQ H4 s4 e4
theorem i_i {ts:List Int} {u:Int} (h:c_a 70 ts) (u0:0 < u) (u12:u<=12):c_a 74 (ts.map λ z=>z*u):=λ x hx=>by
 obtain ⟨z,hz,rfl⟩:=List.mem_map.mp hx;have:=h z hz;rw [yE];have e:(2:Nat) ^ 74=2 ^ 70*16:=by decide
 rw [e];exact Nat.mul_lt_mul_of_lt_of_le this (show u.natAbs<=16 by omega) (by decide)
theorem ok_26 (T:Txt K mg t) (Bm:d_V mg base):FnOk P w K mg base CX0 15 t.a_26 t.d_26 pF' (k_P K [t.a_2,t.a_24]):=by
 have D_at_rest:Txt K mg t->∀ C,b_F t C->e_a P w K mg base 7 "at_rest" (sp_5 K t) C:=λ T=>n_H T Bm;have G_y:=@ok_y P w K mg base t T;have G_1i:=@ok_1i P w K mg base t T;have G_1m:=@ok_1m P w K mg base t T;have G_3:=@ok_3 P w K mg base t T;have G_1a:=@ok_1a P w K mg base t T;have G_k:=@ok_k P w K mg base t T;have G_w:=@ok_w P w K mg base t T;have G_u:=@ok_u P w K mg base t T;have G_h:=@ok_h P w K mg base t T;have G_1f:=@ok_1f P w K mg base t T;have G_s:=@ok_s P w K mg base t T;have G_j:=@ok_j P w K mg base t T;refine T.F_26.ok sc_26 (by walk_at "v") (λ cdv A outer s H vs Q E hr h=>?_)
 ·obtain ⟨a,ns,rfl,hS,hl,hb,htb,hQ⟩:=h;have hu:=hr.units;have hS':SqB false K H a (ns.map V.int):=hS;refine ⟨_,(a_C (a_P (i:=1) sc_26.nd rfl (Or.inl rfl) (a_L b_S (a_I G_3 hr.mo rfl T.m_3 T.F_3.kp T.b_3 .nil a_O (a_A (pv 0) (a_A a_E a_B))) a_E))
   (a_C (a_P (i:=2) sc_26.nd rfl (Or.inl rfl) (a_I G_w hr.mo rfl T.m_w T.F_w.kp T.b_w .nil a_O (a_A (pv 0) (a_A a_E (a_A (pv 1) a_B)))))
   (a_C (a_P (i:=3) sc_26.nd rfl (Or.inl rfl) (a_I G_w hr.mo rfl T.m_w T.F_w.kp T.b_w .nil a_O (a_A (pv 0) (a_A a_E (a_A (pv 1) a_B)))))
   (a_C (a_P (i:=4) sc_26.nd rfl (Or.inl rfl) (a_Q a_U rfl T.z_len (by decide +kernel) (a_A (pv 2) a_B)))
   (a_C (d_B (a_I G_u hr.mo rfl T.m_u T.F_u.kp T.b_u .nil a_O (a_A (pv 0) (a_A a_E (a_A (pv 4) a_B)))) (c_L rfl (a_Z (b_E (i:=7) sc_26.nd rfl (Or.inl rfl)) (a_Z (b_E (i:=5) sc_26.nd rfl (Or.inr rfl)) c_x))))
   (a_C (d_B (a_I G_u hr.mo rfl T.m_u T.F_u.kp T.b_u .nil a_O (a_A (pv 0) (a_A a_E (a_A (pv 4) a_B)))) (c_L rfl (a_Z (b_E (i:=8) sc_26.nd rfl (Or.inl rfl)) (a_Z (b_E (i:=6) sc_26.nd rfl (Or.inr rfl)) c_x))))
   (a_C (c_r (i:=7) (xs:=["_law_top"]) (fr:=[("_law_other_under",6)]) (g:=(a_M 0)) (tt:=(tEl (tOp (rI (λ i j=>IntMulOk i j) λ i j=>.int (i*j)) (tVar 0) (tVar 1)))) (a_R (sc:=a_D s_26) (N:=N_26) rfl rfl (by decide +kernel)) rfl sc_26.nd rfl rfl (b_M (pv 7)) (λ _ _ _ hE1=>(a_Y (N:=["_law_top","_law_other_under"]) (i:=0) hE1 rfl (by decide +kernel))) (λ _ _ _ hE1=>(b_J (a_L b_C (pv 0) (pv 1)))))
   (a_C (c_r (i:=8) (xs:=["_law_top"]) (fr:=[("_law_under",5)]) (g:=(a_M 0)) (tt:=(tEl (tOp (rI (λ i j=>IntMulOk i j) λ i j=>.int (i*j)) (tVar 0) (tVar 1)))) (a_R (sc:=a_D s_26) (N:=N_26) rfl rfl (by decide +kernel)) rfl sc_26.nd rfl rfl (b_M (pv 8)) (λ _ _ _ hE1=>(a_Y (N:=["_law_top","_law_under"]) (i:=0) hE1 rfl (by decide +kernel))) (λ _ _ _ hE1=>(b_J (a_L b_C (pv 0) (pv 1)))))
   (a_C (d_B (a_I G_h hr.mo rfl T.m_h T.F_h.kp T.b_h .nil a_O (a_A (pv 2) (a_A (pv 7) (a_A (pv 3) (a_A (pv 8) a_B))))) (c_L rfl (a_Z (b_E (i:=9) sc_26.nd rfl (Or.inl rfl)) (a_Z (b_E (i:=10) sc_26.nd rfl (Or.inl rfl)) c_x))))
   (a_C (d_B (a_I G_h hr.mo rfl T.m_h T.F_h.kp T.b_h .nil a_O (a_A (pv 3) (a_A (pv 8) (a_A (pv 2) (a_A (pv 7) a_B))))) (c_L rfl (a_Z (b_E (i:=11) sc_26.nd rfl (Or.inl rfl)) (a_Z (b_E (i:=12) sc_26.nd rfl (Or.inl rfl)) c_x))))
   (a_C (a_P (i:=13) sc_26.nd rfl (Or.inl rfl) (a_I G_1i hr.mo rfl T.m_1i T.F_1i.kp T.b_1i .nil a_O (a_A (a_I G_y hr.mo rfl T.m_y T.F_y.kp T.b_y .nil a_O (a_A (pv 9) (a_A (pv 10) (a_A (a_L b_C (pv 5) (pv 6)) a_B)))) a_B)))
   (a_C (a_P (i:=14) sc_26.nd rfl (Or.inl rfl) (a_I G_1i hr.mo rfl T.m_1i T.F_1i.kp T.b_1i .nil a_O (a_A (a_I G_y hr.mo rfl T.m_y T.F_y.kp T.b_y .nil a_O (a_A (pv 11) (a_A (pv 12) (a_A (a_L b_C (pv 5) (pv 6)) a_B)))) a_B)))
   (a_C (b_R (PW.pt (h_g (k_t (e_f (a_I G_1f hr.mo rfl T.m_1f T.F_1f.kp T.b_1f .nil a_O (a_A (pv 13) (a_A (pv 14) a_B))))) (h_g (a_T d_T (a_I G_1m hr.mo rfl T.m_1m T.F_1m.kp T.b_1m .nil a_O (a_A (pv 9) a_B)) (a_I G_1m hr.mo rfl T.m_1m T.F_1m.kp T.b_1m .nil a_O (a_A (pv 11) a_B)) (a_V _)) (g_n (a_T d_T (a_I G_j hr.mo rfl T.m_j T.F_j.kp T.b_j .nil a_O (a_A (pv 9) a_B)) (a_I G_j hr.mo rfl T.m_j T.F_j.kp T.b_j .nil a_O (a_A (pv 11) a_B)) (a_V _))))))
   (a_F (a_N j_F))
   b_z)
   (a_C (b_R (PW.pt (h_g (a_T r_i (px (b_Q (Fm:=b_F t) (pv 13) (D_at_rest T) hr.mo) a_E) (px (b_Q (Fm:=b_F t) (pv 14) (D_at_rest T) hr.mo) a_E) (a_V _)) (g_n (k_t (e_f (a_I G_s hr.mo rfl T.m_s T.F_s.kp T.b_s .nil a_O (a_A (pv 9) (a_A (a_I G_1m hr.mo rfl T.m_1m T.F_1m.kp T.b_1m .nil a_O (a_A (pv 9) a_B)) a_B))))))))
   (a_F (a_N j_F))
   b_z)
   (a_C (b_R (PW.pt (h_g (a_T h_w (b_Q (Fm:=b_F t) (pv 13) (e_d T) hr.mo) f_P (a_V _)) (g_n (a_T h_w (b_Q (Fm:=b_F t) (pv 14) (e_d T) hr.mo) f_P (a_V _)))))
   (a_F (a_N (r_y (c_S h_w (b_Q (Fm:=b_F t) (pv 13) (e_d T) hr.mo) f_P (a_V _)) (r_x (c_S h_w (b_Q (Fm:=b_F t) (pv 14) (e_d T) hr.mo) f_P (a_V _))))))
   b_z)
   (a_F (a_N (c_S (n_Z hu) (a_I G_k hr.mo rfl T.m_k T.F_k.kp T.b_k .nil a_O (a_A (a_I G_1a hr.mo rfl T.m_1a T.F_1a.kp T.b_1a .nil a_O (a_A (pv 2) (a_A (px (b_Q (Fm:=b_F t) (pv 13) (e_d T) hr.mo) a_E) a_B))) (a_A (px (b_Q (Fm:=b_F t) (pv 13) (e_d T) hr.mo) a_E) a_B))) (b_Q (Fm:=b_F t) (pv 14) (e_d T) hr.mo) (a_V _))))))))))))))))))),?_⟩
  show tSeq _ _ _ [some (.ref a),none,none,none,none,none,none,none,none,none,none,none,none,none,none] H;have tt:TT K t H:=⟨.inl (htb _ (by simp)),.inl (htb _ (by simp)),λ z=>by
   have:=T.h_35;rw [z] at this;simp at this⟩
  refine st λ N1 e1=>?_;walk_at "r";refine ⟨a,ns,0,rfl,hS',by decide,?_⟩;refine ⟨_,_,rfl,rfl,(show ¬ (2:Int)=0 by decide),?_⟩;have fe:=fms (ns.getD (0:Int).toNat 0) 2 (by decide);obtain ⟨d,hde,hd⟩:∃ d:Nat,(d:Int)=2+(ns.getD (0:Int).toNat 0).fmod 2/\(d=2\/d=3):=⟨2+((ns.getD (0:Int).toNat 0).fmod 2).toNat,by omega,by omega⟩;show N1 [some (.ref a),some (.int ((ns.getD (0:Int).toNat 0).fmod 2)),none,none,none,none,none,none,none,none,none,none,none,none,none] H;generalize (ns.getD (0:Int).toNat 0).fmod 2=ev0 at fe hde;have d3:=dd3 hd;have d4:d<=4:=zS d3 (by decide);have d100:d<=100:=zS d3 (by decide);subst e1;refine st λ N1 e1=>?_;walk_at "r";refine ⟨a,ns,1,d,ev0,rfl,hS',hd,hde,λ r1 H1 N s1 hA bsA bA=>?_⟩;subst e1;refine st λ N1 e1=>?_;walk_at "r";refine ⟨a,ns,2,d,ev0,rfl,hS'.up s1,hd,hde,λ r2 H2 N' s2 hB bsB bB=>?_⟩;have s02:=s1.trans s2;have cg0:=k_e (tn:=false) hd (s_C ns hd);have sA:Sq d (cjL ns d N):=e_G cg0 N;have sB:Sq d (cjL ns d N'):=e_G cg0 N';have tw:i_a d (mulM d (cjL ns d N') (cjL ns d N)):=p_o hd cg0 bsA bsB;have tw':i_a d (mulM d (cjL ns d N) (cjL ns d N')):=p_o hd cg0 bsB bsA;replace hA:=hA.up s2;generalize cjL ns d N=A at hA sA bA tw tw';generalize cjL ns d N'=B at hB sB bB tw tw';subst e1;refine st λ N1 e1=>?_;walk_at "r";refine b_V (hA.b (K:=K)) ?_;rw [sA.1];subst e1;refine st λ N1 e1=>?_;walk_at "r";refine ⟨a,ns,3,d,rfl,hS'.up s02,hd,λ x3 p3 H3 ts u s3 ex3 et lt bt u0 u12=>?_⟩;refine ⟨x3,_,rfl,SqT.of ex3,rfl,?_⟩;simp only [c_e,gNil,a_M];refine ⟨_,_,rfl,_,_,rfl,rfl,?_⟩;show N1 [some (.ref a),some (.int ev0),some (.ref r1),some (.ref r2),some (.int d),some (.int u),none,some (.ref p3),none,none,none,none,none,none,none] H3;subst e1;refine st λ N1 e1=>?_;walk_at "r";refine ⟨a,ns,30,d,rfl,hS'.up (s02.trans s3),hd,λ x4 p4 H4 ss v s4 ex4 es ls bs v0 v12=>?_⟩;refine ⟨x4,_,rfl,SqT.of ex4,rfl,?_⟩;simp only [c_e,gNil,a_M];refine ⟨_,_,rfl,_,_,rfl,rfl,?_⟩;show N1 [some (.ref a),some (.int ev0),some (.ref r1),some (.ref r2),some (.int d),some (.int u),some (.int v),some (.ref p3),some (.ref p4),none,none,none,none,none,none] H4;have s04:=(s02.trans s3).trans s4;have hA4:=(hA.up s3).up s4;have hB4:=(hB.up s3).up s4;have et4:=s4 _ _ et;subst e1;refine st λ N1 e1=>?_;walk_at "r";refine a_S λ B0 eB=>?_;simp only [iSeq];walk_at "r";refine ⟨false,⟨_,SqB.lst et4⟩,λ p5 hp5=>?_⟩;subst eB;refine i_h rfl hd et4 lt v0 v12 hp5 λ H5 s5 e5=>?_;subst e1;refine st λ N1 e1=>?_;walk_at "r";refine a_S λ B0 eB=>?_;simp only [iSeq];walk_at "r";refine ⟨false,⟨_,SqB.lst (s5 _ _ es)⟩,λ p6 hp6=>?_⟩;subst eB;refine i_h rfl hd (s5 _ _ es) ls u0 u12 hp6 λ H6 s6 e6=>?_;have e5':=s6 _ _ e5;have s46:=s5.trans s6;have hA6:=hA4.up s46;have hB6:=hB4.up s46;have s06:=s04.trans s46;have bt':=i_i bt v0 v12;have bs':=i_i bs u0 u12;have lt':(ts.map λ z=>z*v).length=d:=by rw [zqe]; exact lt
  have ls':(ss.map λ z=>z*u).length=d:=by rw [zqe]; exact ls
  generalize (ts.map λ z=>z*v)=av at e5' bt' lt';generalize (ss.map λ z=>z*u)=bv at e6 bs' ls';clear e5 et et4 es bt bs lt ls;subst e1;refine st λ N1 e1=>?_;walk_at "r";refine ⟨r1,p5,r2,p6,A,B,av,bv,d,rfl,hA6,e5',hB6,e6,sA,sB,hd,lt',ls',bA,bB,bt'.le (by decide),λ x7 m7 t7 H7 s7 ex7 hM7 et7=>?_⟩;refine ⟨x7,_,rfl,SqT.of ex7,rfl,?_⟩;simp only [c_e,gNil,a_M];refine ⟨_,_,rfl,_,_,rfl,rfl,?_⟩;show N1 [some (.ref a),some (.int ev0),some (.ref r1),some (.ref r2),some (.int d),some (.int u),some (.int v),some (.ref p5),some (.ref p6),some (.ref m7),some (.ref t7),none,none,none,none] H7;have hA7:=hA6.up s7;have hB7:=hB6.up s7;have e57:=s7 _ _ e5';have e67:=s7 _ _ e6;subst e1;refine st λ N1 e1=>?_;walk_at "r";refine ⟨r2,p6,r1,p5,B,A,bv,av,d,rfl,hB7,e67,hA7,e57,sB,sA,hd,ls',lt',bB,bA,bs'.le (by decide),λ x8 m8 t8 H8 s8 ex8 hM8 et8=>?_⟩;refine ⟨x8,_,rfl,SqT.of ex8,rfl,?_⟩;simp only [c_e,gNil,a_M];refine ⟨_,_,rfl,_,_,rfl,rfl,?_⟩;show N1 [some (.ref a),some (.int ev0),some (.ref r1),some (.ref r2),some (.int d),some (.int u),some (.int v),some (.ref p5),some (.ref p6),some (.ref m7),some (.ref t7),some (.ref m8),some (.ref t8),none,none] H8;have cg:=p_p hd sA sB tw;have eM:=i_U hd sB cg;have eT:=m_V hd sB cg lt' ls';have bM:b_B 167 (mulM d B A):=bB.mulG bA sB sA d4;have bM':b_B 167 (mulM d A B):=bA.mulG bB sA sB d4;have bT:c_a 159 (va (mv B av) bv):=by rw [← f_S]; exact h_R sB d3 bB bt' bs' (by decide)
  have bT':c_a 159 (va (mv A bv) av):=by rw [← f_S]; exact h_R sA d3 bA bs' bt' (by decide)
  have lT:(va (mv B av) bv).length=d:=e_B (b_H sB) ls';have mid:=p_q hd sA sB;have sM:Sq d (mulM d B A):=sB.mul;rw [← eM] at hM8 bM' tw' mid;rw [← eT] at et8 bT';generalize mulM d B A=M at eM eT hM7 hM8 bM bM' tw tw' mid sM bT' et8;have hM7':=hM7.up s8;have et7':=s8 _ _ et7;generalize va (mv B av) bv=ws at et7' bT bT' lT et8;have sN:=e_G cg M;have lS:=lt';have w0:0 < u*v:=Int.mul_pos u0 v0;have w144:u*v<=144:=Int.le_trans (Int.mul_le_mul u12 v12 (Int.le_of_lt v0) (by decide)) (by decide);have h71:u*v < 2 ^ 71:=by
   have:(144:Int) < 2 ^ 71:=by decide +kernel
   omega
  have us:c_V (u*v):=Nat.lt_of_le_of_lt (show _<=144 by omega) (by decide +kernel);have lT':=f_I (M:=M) (ts:=ws) cg lS;have kd1:=p_n hd tw lT w0 h71 (bM.le (by decide)) (bT.le (by decide));have kd2:=p_n hd tw' lT' w0 h71 (bM'.le (by decide)) (bT'.le (by decide));have al:=p_c hd cg sM (S:=av) lT lS w0;have s08:=(s06.trans s7).trans s8;have hA8:=hA7.up s8;clear hM7 et7 hA7 hB7 e57 e67 hA6 hB6 e5' e6 hA4 hB4;subst e1;refine st λ N1 e1=>?_;walk_at "r";refine ⟨IntMulOk.of_left (u64 u0 u12),?_⟩;refine ⟨false,false,false,m7,t7,M,ws,u*v,d,rfl,hM7'.b,SqB.lst et7',sM,d4,lT.symm ▸ d100,w0,us,λ q1 H9 s9 hD1=>?_⟩;refine ⟨q1,M,_,_,d,rfl,hD1,kd1,λ k1 C1 H10 s10 hC1 hK1=>?_⟩;have ok1:d_F K H10 k1 C1 q1 M (redT (u*v) ws) (redU (u*v) ws) d:=⟨hK1,hD1.up s10,kd1⟩;have s8x:=s9.trans s10;subst e1;refine st λ N1 e1=>?_;walk_at "r";refine ⟨IntMulOk.of_left (u64 u0 u12),?_⟩;refine ⟨false,false,false,m8,t8,_,_,u*v,d,rfl,(hM8.up s8x).b,SqB.lst (s8x _ _ et8),sN,d4,lT'.symm ▸ d100,w0,us,λ q2 H11 s11 hD2=>?_⟩;refine ⟨q2,_,_,_,d,rfl,hD2,kd2,λ k2 C2 H12 s12 hC2 hK2=>?_⟩;have ok2:d_F K H12 k2 C2 q2 _ _ _ d:=⟨hK2,hD2.up s12,kd2⟩;have s1x:=s11.trans s12;have sx:=s8x.trans s1x;have ok1':=ok1.up s1x;have hM12:=hM7'.up sx;have hN12:=hM8.up sx;have hA12:=hA8.up sx;have s012:=s08.trans sx;have kc1:b_F t C1:=⟨_,j_r _ _ _,hC1⟩;have kc2:b_F t C2:=⟨_,j_r _ _ _,hC2⟩;have sc:=c_J hd sM (cg.conj M);subst e1;refine st λ N1 e1=>?_;walk_at "r";refine ⟨k1,k2,C1,C2,q1,q2,M,_,_,_,_,_,d,rfl,hC1,hC2,ok1',ok2,al,λ H13 s13=>?_⟩;refine ⟨true,rfl,iteF ?_⟩;have bMk:b_B 167 M:=bM;have hM13:=hM12.up s13;have hN13:=hN12.up s13;refine ⟨false,false,m7,M,d,167,rfl,hM13.b,sM,hd,bM,by decide,λ sv1 H14 s14 sp1=>?_⟩;refine ⟨false,false,m8,_,d,167,rfl,(hN13.up s14).b,sN,hd,bM',by decide,λ sv2 H15 s15 sp2=>?_⟩;have e12:sv1=sv2:=by rw [d_O sp1,d_O sp2,sc]
  refine ⟨_,_,rfl,rfl,false,by show V.bl (!decide (sv1=sv2))=_; rw [zW e12]; rfl,iteF ?_⟩;have s35:=s14.trans s15;refine ⟨m7,M,d,rfl,hM13.up s35,sM,hd,λ H16 s16=>?_⟩;refine ⟨m8,_,d,rfl,(hN13.up s35).up s16,sN,hd,λ H17 s17=>?_⟩;refine ⟨_,_,rfl,rfl,false,by show V.bl (!decide (midI d M=midI d _))=_; rw [zW mid]; rfl,iteF ?_⟩;have sy:=s13.trans (s35.trans (s16.trans s17));have tt14:=(c_n (K:=K) (t:=t) (S:=[]) (s012.trans sy)).2 tt;have oka:=ok1'.up sy;have okb:=ok2.up sy;have hM14:=hM12.up sy;have hA14:=hA12.up sy;clear hM12 hN12 hM13 hN13 hA12 ok1 ok1' ok2 hD1 hD2 hK1 hK2 s13 s14 s15 s16 s17 s11 s12 s9 s10 sx s1x s8x s35;subst e1;refine st λ N1 e1=>?_;walk_at "r";obtain ⟨dx1,ob1⟩:=oka.1;obtain ⟨dx2,ob2⟩:=okb.1;refine ⟨_,rfl,k1,C1,dx1,_,rfl,ob1,kc1,c_W q1 (by decide +kernel),k1,q1,M,_,_,d,rfl,kc1,oka,bM.le (by decide),tt14,λ v1 H15 ev1 tt15 rest1=>?_⟩;obtain ⟨x1,rfl,rest1⟩:=rest1;obtain ⟨w1,pt1,er1,hw1⟩:∃ (x0:Str) (p:Addr),H15 x1=some (.tup [.str x0,.ref p])/\(x0 = "place" \/ x0 = "row"):=by
   rcases rest1 with ⟨p,_,_,h,_⟩ | ⟨p,_,h,_⟩
   ·exact ⟨_,p,h,.inl rfl⟩
   ·exact ⟨_,p,h,.inr rfl⟩
  refine ⟨true,x1,_,_,_,rfl,rfl,SqB.tup er1,rfl,?_⟩;have okb15:=j_C okb ev1;have ob2':=h_c ev1 ob2 (λ _ z=>by cases z);refine ⟨_,rfl,k2,C2,dx2,_,rfl,ob2',kc2,c_W q2 (by decide +kernel),k2,q2,_,_,_,d,rfl,kc2,okb15,bM'.le (by decide),tt15,λ v2 H16 ev2 tt16 rest2=>?_⟩;obtain ⟨x2,rfl,rest2⟩:=rest2;obtain ⟨w2,pt2,er2,hw2⟩:∃ (x0:Str) (p:Addr),H16 x2=some (.tup [.str x0,.ref p])/\(x0 = "place" \/ x0 = "row"):=by
   rcases rest2 with ⟨p,_,_,h,_⟩ | ⟨p,_,h,_⟩
   ·exact ⟨_,p,h,.inl rfl⟩
   ·exact ⟨_,p,h,.inr rfl⟩
  refine ⟨true,x2,_,_,_,rfl,rfl,SqB.tup er2,rfl,?_⟩;have ew:w1=w2:=by
   rcases rest1 with ⟨p,ns1,v1,h1,h2,h3,h4,h5,h6,h7,h8⟩ | ⟨p,ns1,h1,h2,h3,h4,h5,h6⟩
   ·rw [er1] at h1;cases h1;rcases rest2 with ⟨p,ns2,v2,g1,_⟩ | ⟨p,ns2,g1,g2,g3,g4,g5,g6⟩
    ·rw [er2] at g1;cases g1;rfl
    ·exact yJ (k_d hd cg sM lT lS h6 g3 w0 h3 ((g_W hd sM (ts:=redT (u*v) ws) (by rw [c_K]; exact lT) h6).mpr h8) g5) g6
   ·rw [er1] at h1;cases h1;rcases rest2 with ⟨p,ns2,v2,g1,g2,g3,g4,g5,g6,g7,g8⟩ | ⟨p,ns2,g1,_⟩
    ·exact yJ (p_e hd cg sM lT lS g6 h3 w0 g3 ((g_W hd sN (ts:=redT (u*v) _) (by rw [c_K]; exact lT') g6).mpr g8) h5) h6
    ·rw [er2] at g1;cases g1;rfl
  subst ew;refine ⟨rfl,false,by simp,iteF ?_⟩;have ev:=ev1.trans ev2;have oka16:=j_C oka ev;have okb16:=j_C okb ev;have hM16:=g_Y hM14 ev (by simp) (by simp);have hA16:=g_Y hA14 ev (by simp) (by simp);refine ⟨false,false,m7,M,d,167,rfl,hM16.b,sM,hd,bM,by decide,λ sv3 H17 s17 sp3=>?_⟩;rw [d_O sp3];refine ⟨m7,M,d,rfl,hM16.up s17,sM,hd,bM.le (by decide),λ H18 s18=>?_⟩;refine ⟨true,rfl,iteF ?_⟩;have s68:=s17.trans s18;have oka18:=oka16.up s68;have okb18:=okb16.up s68;have hA18:=hA16.up s68;obtain ⟨dx1',ob1'⟩:=oka18.1;obtain ⟨dx2',ob2'⟩:=okb18.1;subst e1;refine st λ N1 e1=>?_;walk_at "r";have slA:∀ (G:Hp) (Q':VK),Same H18 G->(∀ x G',Same G G'->g_V G' x d M (redT (u*v) ws) (redU (u*v) ws)->Q' x G')->g_v (b_F t) "slide" (sp_4 K t) (tVar 13) [some (.ref a),some (.int ev0),some (.ref r1),some (.ref r2),some (.int d),some (.int u),some (.int v),some (.ref p5),some (.ref p6),some (.ref m7),some (.ref t7),some (.ref m8),some (.ref t8),some (.ref k1),some (.ref k2)] G Q':=λ G Q' sG k=>⟨_,rfl,k1,C1,dx1',_,rfl,sG _ _ ob1',kc1,c_W q1 (by decide +kernel),k1,q1,M,_,_,d,rfl,kc1,oka18.up sG,k⟩;have slB:∀ (G:Hp) (Q':VK),Same H18 G->(∀ x G',Same G G'->g_V G' x d (cjM d A (invM d A) M) (redT (u*v) (cjT d A (invM d A) M ws av)) (redU (u*v) (cjT d A (invM d A) M ws av))->Q' x G')->g_v (b_F t) "slide" (sp_4 K t) (tVar 14) [some (.ref a),some (.int ev0),some (.ref r1),some (.ref r2),some (.int d),some (.int u),some (.int v),some (.ref p5),some (.ref p6),some (.ref m7),some (.ref t7),some (.ref m8),some (.ref t8),some (.ref k1),some (.ref k2)] G Q':=λ G Q' sG k=>⟨_,rfl,k2,C2,dx2',_,rfl,sG _ _ ob2',kc2,c_W q2 (by decide +kernel),k2,q2,_,_,_,d,rfl,kc2,okb18.up sG,k⟩;have nn:∀ x:Addr,decide (V.ref x=V.non)=false:=λ x=>zX (λ e=>by cases e)
  by_cases z:spn d M=0
  ·have nA:∀ (G:Hp) (Q':VK),Same H18 G->(∀ G',Same G G'->Q' .non G')->g_v (b_F t) "slide" (sp_4 K t) (tVar 13) [some (.ref a),some (.int ev0),some (.ref r1),some (.ref r2),some (.int d),some (.int u),some (.int v),some (.ref p5),some (.ref p6),some (.ref m7),some (.ref t7),some (.ref m8),some (.ref t8),some (.ref k1),some (.ref k2)] G Q':=λ G Q' sG k=>slA G Q' sG λ x G' sG' sl=>by
    rcases sl with ⟨_,rfl⟩ | ⟨z2,_⟩
    ·exact k G' sG'
    ·exact yJ z z2
   refine nA H18 _ (Same.refl _) λ H19 s19=>?_;rw [zW rfl];refine iteT (nA H19 _ s19 λ H20 s20=>?_);rw [zW rfl];refine iteT (slB H20 _ (s19.trans s20) λ x H21 s21 sl=>?_);rcases sl with ⟨_,rfl⟩ | ⟨z2,_⟩
   ·rw [zW rfl];exact hQ H21
   ·exact yJ (sc.trans z) z2
  ·have rA:∀ (G:Hp) (Q':VK),Same H18 G->(∀ x G',Same G G'->b_P G' x (redT (redU (u*v) ws*spn d M) (farT d M (redT (u*v) ws))) (redU (redU (u*v) ws*spn d M) (farT d M (redT (u*v) ws)))->Q' (.ref x) G')->g_v (b_F t) "slide" (sp_4 K t) (tVar 13) [some (.ref a),some (.int ev0),some (.ref r1),some (.ref r2),some (.int d),some (.int u),some (.int v),some (.ref p5),some (.ref p6),some (.ref m7),some (.ref t7),some (.ref m8),some (.ref t8),some (.ref k1),some (.ref k2)] G Q':=λ G Q' sG k=>slA G Q' sG λ x G' sG' sl=>by
    rcases sl with ⟨z2,_⟩ | ⟨_,x,rfl,p⟩
    ·exact yJ z2 z
    ·exact k x G' sG' p
   obtain ⟨sl1,sl2⟩:=p_d hd cg sM lT lS w0 z;have rB:∀ (G:Hp) (Q':VK),Same H18 G->(∀ x G',Same G G'->b_P G' x (redT (redU (redU (u*v) ws*spn d M) (farT d M (redT (u*v) ws))) (mv A (redT (redU (u*v) ws*spn d M) (farT d M (redT (u*v) ws))))) (redU (redU (redU (u*v) ws*spn d M) (farT d M (redT (u*v) ws))) (mv A (redT (redU (u*v) ws*spn d M) (farT d M (redT (u*v) ws)))))->Q' (.ref x) G')->g_v (b_F t) "slide" (sp_4 K t) (tVar 14) [some (.ref a),some (.int ev0),some (.ref r1),some (.ref r2),some (.int d),some (.int u),some (.int v),some (.ref p5),some (.ref p6),some (.ref m7),some (.ref t7),some (.ref m8),some (.ref t8),some (.ref k1),some (.ref k2)] G Q':=λ G Q' sG k=>slB G Q' sG λ x G' sG' sl=>by
    rcases sl with ⟨z2,_⟩ | ⟨_,x,rfl,p⟩
    ·exact yJ (sc.symm.trans z2) z
    ·rw [← sl1,← sl2] at p;exact k x G' sG' p
   have sr:=e_t d M;have bF:c_a 12000 (redT (redU (u*v) ws*spn d M) (farT d M (redT (u*v) ws))):=by
    have b:=(h_S (x:=(M,redT (u*v) ws)) hd kd1.af kd1.bm kd1.bt (spn d M).toNat).2;have hk:((spn d M).toNat+1)*(1700+3)<=7*(1700+3):=zK _ (by omega);exact f_G (Int.ne_of_gt (Int.mul_pos kd1.pos (by omega))) (b.le (by omega))
   have wp:0 < redU (u*v) ws*spn d M:=Int.mul_pos kd1.pos (by omega);have hR:=d_H (farT d M (redT (u*v) ws)) wp;have lF:(redT (redU (u*v) ws*spn d M) (farT d M (redT (u*v) ws))).length=d:=by rw [c_K]; exact e_C sM kd1.af.len
   have hU:redU (redU (u*v) ws*spn d M) (farT d M (redT (u*v) ws))<=2 ^ 71*6:=by
    have:redU (u*v) ws*spn d M<=2 ^ 71*6:=Int.mul_le_mul (by have:=kd1.bu; omega) (by omega) (by omega) (by decide);omega
   clear slA slB sl1 sl2;generalize redT (redU (u*v) ws*spn d M) (farT d M (redT (u*v) ws))=F at rA rB lF bF;generalize redU (redU (u*v) ws*spn d M) (farT d M (redT (u*v) ws))=U at rA rB hR hU;refine rA H18 _ (Same.refl _) λ x9 H19 s19 _=>?_;rw [nn];refine iteF (rB H19 _ s19 λ x10 H20 s20 _=>?_);rw [nn];refine iteF ?_;have s820:=s19.trans s20;subst e1;walk_at "r";refine rA H20 _ s820 λ x11 H21 s21 pl1=>?_;refine f_E pl1 λ y1 hy1=>?_;have s821:=s820.trans s21;refine ⟨false,false,true,r1,y1,A,F,d,rfl,(hA18.up s821).b,SqB.tup hy1,sA,hd,lF,bA.le (by decide),bF.le (by decide),λ r22 H22 s22 _ e22=>?_⟩;refine rA H22 _ (s821.trans s22) λ x23 H23 s23 pl2=>?_;refine f_F pl2 ?_;refine ⟨false,r22,_,U,rfl,SqB.lst (s23 _ _ e22),by rw [b_H sA]; exact d100,hR.1,Nat.lt_of_le_of_lt (show _<=2 ^ 71*6 by omega) (by decide +kernel),λ x24 H24 s24 pl3=>?_⟩;refine rB H24 _ (((s821.trans s22).trans s23).trans s24) λ x25 H25 s25 pl4=>?_;exact o_j 2 (by decide) (Dt.place (pl3.up s25)) (Dt.place pl4) (k_r _ _) (k_r _ _) (b:=true) (by simp) (hQ H25)
end
theorem us1 {α:Type} {us:List α} (h:us.length=1):∃ a0,us=[a0]:=match us,h with | [a0],_=>⟨a0,rfl⟩
theorem us2 {α:Type} {us:List α} (h:us.length=2):∃ a0 a1,us=[a0,a1]:=match us,h with | [a0,a1],_=>⟨a0,a1,rfl⟩
theorem us3 {α:Type} {us:List α} (h:us.length=3):∃ a0 a1 a2,us=[a0,a1,a2]:=match us,h with | [a0,a1,a2],_=>⟨a0,a1,a2,rfl⟩
theorem us4 {α:Type} {us:List α} (h:us.length=4):∃ a0 a1 a2 a3,us=[a0,a1,a2,a3]:=match us,h with | [a0,a1,a2,a3],_=>⟨a0,a1,a2,a3,rfl⟩
abbrev caG (K:Frag) (C:Addr):Prop:=findIn K (.ref C) "__class__" = some (some (.builtin "object.__class__"))
abbrev nG (K:Frag) (x:Str) (f:Addr):Prop:=nsIn K mainGlobals x=some (some (.ref f))
local macro_rules | `(tactic| walk_at "1")=>`(tactic| (intro _ _ _ _ _ _ us hl; obtain ⟨_,hh⟩:=us1 hl; subst hh; rfl))
local macro_rules | `(tactic| walk_at "2")=>`(tactic| (intro _ _ _ _ _ _ us hl; obtain ⟨_,_,hh⟩:=us2 hl; subst hh; rfl))
local macro_rules | `(tactic| walk_at "3")=>`(tactic| (intro _ _ _ _ _ _ us hl; obtain ⟨_,_,_,hh⟩:=us3 hl; subst hh; rfl))
local macro_rules | `(tactic| walk_at "4")=>`(tactic| (intro _ _ _ _ _ _ us hl; obtain ⟨_,_,_,_,hh⟩:=us4 hl; subst hh; rfl))
theorem txt_mk {K:Frag} {h:Heap} {mg:Str->Option Value} (X:K.In h) (G:h.Ns mainGlobals mg)
  {C_2b C_2a C_28 C_29 C_27 C_1r C_21 C_22 C_1w C_1q C_1t C_1s C_1v C_1g C_z f_1j f_1p f_19 f_7 f_1z f_1h f_1y f_1l f_1 f_1n f_25 f_20 f_1x f_1o f_1u f_23 f_16 f_i f_d f_m f_2 f_f f_9 f_1k f_10 f_1c f_18 f_24 f_1m f_g f_17 f_x f_p f_l f_0 f_a f_6 f_4 f_5 f_13 f_1e f_1d f_12 f_t f_14 f_11 f_15 f_o f_1i f_r f_1b f_3 f_q f_k f_b f_8 f_c f_n f_1a f_e f_w f_u f_h f_y f_1f f_v f_s f_j f_26:Addr} {d_1j d_1p d_19 d_7 d_1z d_1h d_1y d_1l d_1 d_1n d_25 d_20 d_1x d_1o d_1u d_23 d_16 d_i d_d d_m d_2 d_f d_9 d_1k d_10 d_1c d_18 d_24 d_1m d_g d_17 d_x d_p d_l d_0 d_a d_6 d_4 d_5 d_13 d_1e d_1d d_12 d_t d_14 d_11 d_15 d_o d_1i d_r d_1b d_3 d_q d_k d_b d_8 d_c d_n d_1a d_e d_w d_u d_h d_y d_1f d_v d_s d_j d_26:FuncData}
  {tk_MOST_TIMES:Tok}
  {tk_LONGEST_SPAN:Tok}
  {ts:List Addr}
  (n_2b:nG K "CrystalError" C_2b)
  (n_2a:nG K "NoPlace" C_2a)
  (n_28:nG K "NoDeed" C_28)
  (n_29:nG K "NoNumber" C_29)
  (n_27:nG K "Kind" C_27)
  (n_1r:nG K "Still" C_1r)
  (n_21:nG K "Move" C_21)
  (n_22:nG K "Turn" C_22)
  (n_1w:nG K "Screw" C_1w)
  (n_1q:nG K "Mirror" C_1q)
  (n_1t:nG K "Slide" C_1t)
  (n_1s:nG K "Point" C_1s)
  (n_1v:nG K "Twist" C_1v)
  (n_1g:nG K "Endless" C_1g)
  (n_z:nG K "Steps" C_z)
  (n_1j:nG K "divisor" f_1j)
  (F_1j:Fun K "divisor" "divisor" s_1j f_1j d_1j)
  (n_1p:nG K "nearest" f_1p)
  (F_1p:Fun K "nearest" "nearest" s_1p f_1p d_1p)
  (n_19:nG K "place" f_19)
  (F_19:Fun K "place" "place" s_19 f_19 d_19)
  (n_7:nG K "still_rows" f_7)
  (F_7:Fun K "still_rows" "still_rows" s_7 f_7 d_7)
  (n_1z:nG K "dot" f_1z)
  (F_1z:Fun K "dot" "dot" s_1z f_1z d_1z)
  (n_1h:nG K "turned" f_1h)
  (F_1h:Fun K "turned" "turned" s_1h f_1h d_1h)
  (n_1y:nG K "times" f_1y)
  (F_1y:Fun K "times" "times" s_1y f_1y d_1y)
  (n_1l:nG K "without" f_1l)
  (F_1l:Fun K "without" "without" s_1l f_1l d_1l)
  (n_1:nG K "determinant" f_1)
  (F_1:Fun K "determinant" "determinant" s_1 f_1 d_1)
  (n_1n:nG K "joined" f_1n)
  (F_1n:Fun K "joined" "joined" s_1n f_1n d_1n)
  (n_25:nG K "deed" f_25)
  (F_25:Fun K "deed" "deed" s_25 f_25 d_25)
  (n_20:nG K "still" f_20)
  (F_20:Fun K "still" "still" s_20 f_20 d_20)
  (n_1x:nG K "moved" f_1x)
  (F_1x:Fun K "moved" "moved" s_1x f_1x d_1x)
  (n_1o:nG K "behind" f_1o)
  (F_1o:Fun K "behind" "behind" s_1o f_1o d_1o)
  (n_1u:nG K "again" f_1u)
  (F_1u:Fun K "again" "again" s_1u f_1u d_1u)
  (n_23:nG K "less" f_23)
  (F_23:Fun K "less" "less" s_23 f_23 d_23)
  (n_16:nG K "exchange" f_16)
  (F_16:Fun K "exchange" "exchange" s_16 f_16 d_16)
  (n_i:nG K "turn_signs" f_i)
  (F_i:Fun K "turn_signs" "turn_signs" s_i f_i d_i)
  (n_d:findIn K (.ref C_z) "__init__" = some (some (.ref f_d)))
  (F_d:Fun K "__init__" "Steps.__init__" s_d f_d d_d)
  (n_m:findIn K (.ref C_z) "take" = some (some (.ref f_m)))
  (F_m:Fun K "take" "Steps.take" s_m f_m d_m)
  (n_2:findIn K (.ref C_z) "rising" = some (some (.ref f_2)))
  (F_2:Fun K "rising" "Steps.rising" s_2 f_2 d_2)
  (n_f:findIn K (.ref C_z) "gather" = some (some (.ref f_f)))
  (F_f:Fun K "gather" "Steps.gather" s_f f_f d_f)
  (n_9:findIn K (.ref C_z) "set_lead" = some (some (.ref f_9)))
  (F_9:Fun K "set_lead" "Steps.set_lead" s_9 f_9 d_9)
  (n_1k:nG K "stairs" f_1k)
  (F_1k:Fun K "stairs" "stairs" s_1k f_1k d_1k)
  (n_10:nG K "leads_of" f_10)
  (F_10:Fun K "leads_of" "leads_of" s_10 f_10 d_10)
  (n_1c:nG K "climbed" f_1c)
  (F_1c:Fun K "climbed" "climbed" s_1c f_1c d_1c)
  (n_18:nG K "meeting" f_18)
  (F_18:Fun K "meeting" "meeting" s_18 f_18 d_18)
  (n_24:nG K "met" f_24)
  (F_24:Fun K "met" "met" s_24 f_24 d_24)
  (n_1m:nG K "span" f_1m)
  (F_1m:Fun K "span" "span" s_1m f_1m d_1m)
  (n_g:nG K "signs_turned" f_g)
  (F_g:Fun K "signs_turned" "signs_turned" s_g f_g d_g)
  (n_17:nG K "fold_of" f_17)
  (F_17:Fun K "fold_of" "fold_of" s_17 f_17 d_17)
  (n_x:nG K "slide_of" f_x)
  (F_x:Fun K "slide_of" "slide_of" s_x f_x d_x)
  (n_p:nG K "less_still" f_p)
  (F_p:Fun K "less_still" "less_still" s_p f_p d_p)
  (n_l:nG K "is_nought" f_l)
  (F_l:Fun K "is_nought" "is_nought" s_l f_l d_l)
  (n_0:findIn K (.ref C_27) "__init__" = some (some (.ref f_0)))
  (F_0:Fun K "__init__" "Kind.__init__" s_0 f_0 d_0)
  (n_a:findIn K (.ref C_27) "fold" = some (some (.ref f_a)))
  (F_a:Fun K "fold" "Kind.fold" s_a f_a d_a)
  (n_6:findIn K (.ref C_27) "order" = some (some (.ref f_6)))
  (F_6:Fun K "order" "Kind.order" s_6 f_6 d_6)
  (n_4:findIn K (.ref C_27) "slide" = some (some (.ref f_4)))
  (F_4:Fun K "slide" "Kind.slide" s_4 f_4 d_4)
  (n_5:findIn K (.ref C_27) "at_rest" = some (some (.ref f_5)))
  (F_5:Fun K "at_rest" "Kind.at_rest" s_5 f_5 d_5)
  (n_13:findIn K (.ref C_1r) "word" = some (some (.ref f_13)))
  (F_13:Fun K "word" "Still.word" s_13 f_13 d_13)
  (n_1e:findIn K (.ref C_21) "word" = some (some (.ref f_1e)))
  (F_1e:Fun K "word" "Move.word" s_1e f_1e d_1e)
  (n_1d:findIn K (.ref C_22) "word" = some (some (.ref f_1d)))
  (F_1d:Fun K "word" "Turn.word" s_1d f_1d d_1d)
  (n_12:findIn K (.ref C_1w) "word" = some (some (.ref f_12)))
  (F_12:Fun K "word" "Screw.word" s_12 f_12 d_12)
  (n_t:findIn K (.ref C_1q) "word" = some (some (.ref f_t)))
  (F_t:Fun K "word" "Mirror.word" s_t f_t d_t)
  (n_14:findIn K (.ref C_1t) "word" = some (some (.ref f_14)))
  (F_14:Fun K "word" "Slide.word" s_14 f_14 d_14)
  (n_11:findIn K (.ref C_1s) "word" = some (some (.ref f_11)))
  (F_11:Fun K "word" "Point.word" s_11 f_11 d_11)
  (n_15:findIn K (.ref C_1v) "word" = some (some (.ref f_15)))
  (F_15:Fun K "word" "Twist.word" s_15 f_15 d_15)
  (n_o:findIn K (.ref C_1g) "word" = some (some (.ref f_o)))
  (F_o:Fun K "word" "Endless.word" s_o f_o d_o)
  (n_1i:nG K "kind_of" f_1i)
  (F_1i:Fun K "kind_of" "kind_of" s_1i f_1i d_1i)
  (n_r:nG K "unmirrored" f_r)
  (F_r:Fun K "unmirrored" "unmirrored" s_r f_r d_r)
  (n_1b:nG K "mirrored" f_1b)
  (F_1b:Fun K "mirrored" "mirrored" s_1b f_1b d_1b)
  (n_3:nG K "_law_cell_at" f_3)
  (F_3:Fun K "_law_cell_at" "_law_cell_at" s_3 f_3 d_3)
  (n_q:nG K "_law_shared" f_q)
  (F_q:Fun K "_law_shared" "_law_shared" s_q f_q d_q)
  (n_k:nG K "_law_place" f_k)
  (F_k:Fun K "_law_place" "_law_place" s_k f_k d_k)
  (n_b:nG K "_law_digits_of" f_b)
  (F_b:Fun K "_law_digits_of" "_law_digits_of" s_b f_b d_b)
  (n_8:nG K "_law_first" f_8)
  (F_8:Fun K "_law_first" "_law_first" s_8 f_8 d_8)
  (n_c:nG K "_law_exchange" f_c)
  (F_c:Fun K "_law_exchange" "_law_exchange" s_c f_c d_c)
  (n_n:nG K "_law_added" f_n)
  (F_n:Fun K "_law_added" "_law_added" s_n f_n d_n)
  (n_1a:nG K "_law_led" f_1a)
  (F_1a:Fun K "_law_led" "_law_led" s_1a f_1a d_1a)
  (n_e:nG K "_law_additions" f_e)
  (F_e:Fun K "_law_additions" "_law_additions" s_e f_e d_e)
  (n_w:nG K "_law_rows" f_w)
  (F_w:Fun K "_law_rows" "_law_rows" s_w f_w d_w)
  (n_u:nG K "_law_tops" f_u)
  (F_u:Fun K "_law_tops" "_law_tops" s_u f_u d_u)
  (n_h:nG K "_law_behind" f_h)
  (F_h:Fun K "_law_behind" "_law_behind" s_h f_h d_h)
  (n_y:nG K "_law_deed" f_y)
  (F_y:Fun K "_law_deed" "_law_deed" s_y f_y d_y)
  (n_1f:nG K "_law_like" f_1f)
  (F_1f:Fun K "_law_like" "_law_like" s_1f f_1f d_1f)
  (n_v:nG K "_law_rests" f_v)
  (F_v:Fun K "_law_rests" "_law_rests" s_v f_v d_v)
  (n_s:nG K "_law_comes" f_s)
  (F_s:Fun K "_law_comes" "_law_comes" s_s f_s d_s)
  (n_j:nG K "_law_middle" f_j)
  (F_j:Fun K "_law_middle" "_law_middle" s_j f_j d_j)
  (n_26:nG K "law" f_26)
  (F_26:Fun K "law" "law" s_26 f_26 d_26)
  (n_MOST_TIMES:nsIn K mainGlobals "MOST_TIMES" = some (some (.int 200 tk_MOST_TIMES)))
  (n_LONGEST_SPAN:nsIn K mainGlobals "LONGEST_SPAN" = some (some (.int 6 tk_LONGEST_SPAN)))
  (y_any:nsIn K mainGlobals "any" = some none)
  (y_sum:nsIn K mainGlobals "sum" = some none)
  (y_zip:nsIn K mainGlobals "zip" = some none)
  (y_enumerate:nsIn K mainGlobals "enumerate" = some none)
  (y_range:nsIn K mainGlobals "range" = some none)
  (y_len:nsIn K mainGlobals "len" = some none)
  (y_abs:nsIn K mainGlobals "abs" = some none)
  (y_isinstance:nsIn K mainGlobals "isinstance" = some none)
  (y_int:nsIn K mainGlobals "int" = some none)
  (y_bool:nsIn K mainGlobals "bool" = some none)
  (y_list:nsIn K mainGlobals "list" = some none)
  (y_tuple:nsIn K mainGlobals "tuple" = some none)
  (y_str:nsIn K mainGlobals "str" = some none)
  (y_sorted:nsIn K mainGlobals "sorted" = some none)
  (y_reversed:nsIn K mainGlobals "reversed" = some none)
  (q_34:kitOne K (.type "int") (.type "int")=some true)
  (q_36:kitOne K (.type "int") (.type "bool")=some false)
  (q_37:kitOne K (.type "tuple") (.type "tuple")=some true)
  (q_38:kitOne K (.type "str") (.type "str")=some true)
  (q_1u:PySem.W.excIn K C_2a [.type "ValueError",.type "Exception",.type "BaseException",.type "object"] "ValueError.__new__" = true)
  (q_20:PySem.W.excIn K C_28 [.type "ValueError",.type "Exception",.type "BaseException",.type "object"] "ValueError.__new__" = true)
  (q_1n:PySem.W.excIn K C_29 [.type "ValueError",.type "Exception",.type "BaseException",.type "object"] "ValueError.__new__" = true)
  (q_39:PySem.W.specialIn K (.builtin "object.__class__") "__get__" = some (some (.builtin "getset_descriptor.__get__")))
  (q_3a:PySem.W.takesIn K (.builtin "object.__class__")=some true)
  (q_21:L2.Cls K C_1r)
  (q_22:L2.Mk K C_1r f_0)
  (q_23:findIn K (.ref C_1r) "one" = some none)
  (q_w:L2.Meth K C_1r "word" f_13)
  (q_3:L2.Meth K C_1r "at_rest" f_5)
  (q_24:caG K C_1r)
  (q_25:PySem.W.mroIn K C_1r (.type "object")=some true)
  (q_1c:kitOne K (.ref C_1r) (.ref C_27)=some true)
  (q_2t:L2.Cls K C_21)
  (q_2u:L2.Mk K C_21 f_0)
  (q_2v:findIn K (.ref C_21) "one" = some none)
  (q_1d:L2.Meth K C_21 "word" f_1e)
  (q_a:L2.Meth K C_21 "at_rest" f_5)
  (q_2w:caG K C_21)
  (q_2x:PySem.W.mroIn K C_21 (.type "object")=some true)
  (q_1l:kitOne K (.ref C_21) (.ref C_27)=some true)
  (q_2y:L2.Cls K C_22)
  (q_2z:L2.Mk K C_22 f_0)
  (q_30:findIn K (.ref C_22) "one" = some none)
  (q_1e:L2.Meth K C_22 "word" f_1d)
  (q_b:L2.Meth K C_22 "at_rest" f_5)
  (q_31:caG K C_22)
  (q_32:PySem.W.mroIn K C_22 (.type "object")=some true)
  (q_1m:kitOne K (.ref C_22) (.ref C_27)=some true)
  (q_26:L2.Cls K C_1w)
  (q_27:L2.Mk K C_1w f_0)
  (q_28:findIn K (.ref C_1w) "one" = some none)
  (q_x:L2.Meth K C_1w "word" f_12)
  (q_4:L2.Meth K C_1w "at_rest" f_5)
  (q_29:caG K C_1w)
  (q_2a:PySem.W.mroIn K C_1w (.type "object")=some true)
  (q_1f:kitOne K (.ref C_1w) (.ref C_27)=some true)
  (q_1v:L2.Cls K C_1q)
  (q_1w:L2.Mk K C_1q f_0)
  (q_1x:findIn K (.ref C_1q) "one" = some none)
  (q_j:L2.Meth K C_1q "word" f_t)
  (q_1:L2.Meth K C_1q "at_rest" f_5)
  (q_1y:caG K C_1q)
  (q_1z:PySem.W.mroIn K C_1q (.type "object")=some true)
  (q_y:kitOne K (.ref C_1q) (.ref C_27)=some true)
  (q_2b:L2.Cls K C_1t)
  (q_2c:L2.Mk K C_1t f_0)
  (q_2d:findIn K (.ref C_1t) "one" = some none)
  (q_z:L2.Meth K C_1t "word" f_14)
  (q_5:L2.Meth K C_1t "at_rest" f_5)
  (q_2e:caG K C_1t)
  (q_2f:PySem.W.mroIn K C_1t (.type "object")=some true)
  (q_1g:kitOne K (.ref C_1t) (.ref C_27)=some true)
  (q_2g:L2.Cls K C_1s)
  (q_2h:L2.Mk K C_1s f_0)
  (q_2i:findIn K (.ref C_1s) "one" = some none)
  (q_10:L2.Meth K C_1s "word" f_11)
  (q_6:L2.Meth K C_1s "at_rest" f_5)
  (q_2j:caG K C_1s)
  (q_2k:PySem.W.mroIn K C_1s (.type "object")=some true)
  (q_1h:kitOne K (.ref C_1s) (.ref C_27)=some true)
  (q_2l:L2.Cls K C_1v)
  (q_2m:L2.Mk K C_1v f_0)
  (q_2n:findIn K (.ref C_1v) "one" = some none)
  (q_11:L2.Meth K C_1v "word" f_15)
  (q_7:L2.Meth K C_1v "at_rest" f_5)
  (q_2o:caG K C_1v)
  (q_2p:PySem.W.mroIn K C_1v (.type "object")=some true)
  (q_1i:kitOne K (.ref C_1v) (.ref C_27)=some true)
  (q_1o:L2.Cls K C_1g)
  (q_1p:L2.Mk K C_1g f_0)
  (q_1q:findIn K (.ref C_1g) "one" = some none)
  (q_c:L2.Meth K C_1g "word" f_o)
  (q_0:L2.Meth K C_1g "at_rest" f_5)
  (q_12:L2.Meth K C_1r "fold" f_a)
  (q_k:L2.Meth K C_1r "order" f_6)
  (q_l:L2.Meth K C_1r "slide" f_4)
  (q_1j:L2.Meth K C_21 "fold" f_a)
  (q_13:L2.Meth K C_21 "order" f_6)
  (q_14:L2.Meth K C_21 "slide" f_4)
  (q_1k:L2.Meth K C_22 "fold" f_a)
  (q_15:L2.Meth K C_22 "order" f_6)
  (q_16:L2.Meth K C_22 "slide" f_4)
  (q_17:L2.Meth K C_1w "fold" f_a)
  (q_m:L2.Meth K C_1w "order" f_6)
  (q_n:L2.Meth K C_1w "slide" f_4)
  (q_o:L2.Meth K C_1q "fold" f_a)
  (q_d:L2.Meth K C_1q "order" f_6)
  (q_e:L2.Meth K C_1q "slide" f_4)
  (q_18:L2.Meth K C_1t "fold" f_a)
  (q_p:L2.Meth K C_1t "order" f_6)
  (q_q:L2.Meth K C_1t "slide" f_4)
  (q_19:L2.Meth K C_1s "fold" f_a)
  (q_r:L2.Meth K C_1s "order" f_6)
  (q_s:L2.Meth K C_1s "slide" f_4)
  (q_1a:L2.Meth K C_1v "fold" f_a)
  (q_t:L2.Meth K C_1v "order" f_6)
  (q_u:L2.Meth K C_1v "slide" f_4)
  (q_f:L2.Meth K C_1g "fold" f_a)
  (q_8:L2.Meth K C_1g "order" f_6)
  (q_9:L2.Meth K C_1g "slide" f_4)
  (q_1r:caG K C_1g)
  (q_1s:PySem.W.mroIn K C_1g (.type "object")=some true)
  (q_v:kitOne K (.ref C_1g) (.ref C_27)=some true)
  (q_2q:L2.Cls K C_z)
  (q_2r:L2.Mk K C_z f_d)
  (q_2s:findIn K (.ref C_z) "lines" = some none)
  (q_1t:findIn K (.ref C_z) "columns" = some none)
  (q_1b:L2.Meth K C_z "take" f_m)
  (q_g:L2.Meth K C_z "rising" f_2)
  (q_h:L2.Meth K C_z "gather" f_f)
  (q_2:L2.Meth K C_z "set_lead" f_9)
  (q_i:L2.tabOk K f_2=true)
  (q_33:L2.tabOk K f_24=true)
  (q_nn:([C_1r,C_21,C_22,C_1w,C_1q,C_1t,C_1s,C_1v,C_1g]:List Addr).Nodup)
  (q_35:(L2.tabP K f_2 == L2.tabP K f_24)=false)
  (w_Steps_rising:ts.contains (L2.tabP K f_2)=true)
  (w_met:ts.contains (L2.tabP K f_24)=true)
  : ∃ t,Txt K mg t/\∀ f∈[Adr.a_2 t,Adr.a_24 t],L2.tabP K f∈ts:=by
 have b_1j:=F_1j.binds (ps:=pA') (by walk_at "2");have b_1p:=F_1p.binds (ps:=pA') (by walk_at "2");have b_19:=F_19.binds (ps:=py') (by walk_at "2");have b_7:=F_7.binds (ps:=["size"]) (by walk_at "1");have b_1z:=F_1z.binds (ps:=pA') (by walk_at "2");have b_1h:=F_1h.binds (ps:=pK') (by walk_at "1");have b_1y:=F_1y.binds (ps:=pA') (by walk_at "2");have b_1l:=F_1l.binds (ps:=pz') (by walk_at "3");have b_1:=F_1.binds (ps:=pK') (by walk_at "1");have b_1n:=F_1n.binds (ps:=pB') (by walk_at "2");have b_25:=F_25.binds (ps:=pq') (by walk_at "3");have b_20:=F_20.binds (ps:=["d"]) (by walk_at "1");have b_1x:=F_1x.binds (ps:=pG') (by walk_at "2");have b_1o:=F_1o.binds (ps:=pA') (by walk_at "2");have b_1u:=F_1u.binds (ps:=pC') (by walk_at "2");have b_23:=F_23.binds (ps:=pr') (by walk_at "3");have b_16:=F_16.binds (ps:=px') (by walk_at "3");have b_i:=F_i.binds (ps:=pI') (by walk_at "2");have b_d:=F_d.binds (ps:=pD') (by walk_at "2");have b_m:=F_m.binds (ps:=pm') (by walk_at "4");have b_2:=F_2.binds (ps:=pv') (by walk_at "3");have b_f:=F_f.binds (ps:=pv') (by walk_at "3");have b_9:=F_9.binds (ps:=pv') (by walk_at "3");have b_1k:=F_1k.binds (ps:=pK') (by walk_at "1");have b_10:=F_10.binds (ps:=["form"]) (by walk_at "1");have b_1c:=F_1c.binds (ps:=pg') (by walk_at "4");have b_18:=F_18.binds (ps:=pt') (by walk_at "3");have b_24:=F_24.binds (ps:=pq') (by walk_at "3");have b_1m:=F_1m.binds (ps:=pK') (by walk_at "1");have b_g:=F_g.binds (ps:=pK') (by walk_at "1");have b_17:=F_17.binds (ps:=pK') (by walk_at "1");have b_x:=F_x.binds (ps:=["one"]) (by walk_at "1");have b_p:=F_p.binds (ps:=pK') (by walk_at "1");have b_l:=F_l.binds (ps:=["spot"]) (by walk_at "1");have b_0:=F_0.binds (ps:=pH') (by walk_at "2");have b_a:=F_a.binds (ps:=pL') (by walk_at "1");have b_6:=F_6.binds (ps:=pL') (by walk_at "1");have b_4:=F_4.binds (ps:=pL') (by walk_at "1");have b_5:=F_5.binds (ps:=pL') (by walk_at "1");have b_13:=F_13.binds (ps:=pL') (by walk_at "1");have b_1e:=F_1e.binds (ps:=pL') (by walk_at "1");have b_1d:=F_1d.binds (ps:=pL') (by walk_at "1");have b_12:=F_12.binds (ps:=pL') (by walk_at "1");have b_t:=F_t.binds (ps:=pL') (by walk_at "1");have b_14:=F_14.binds (ps:=pL') (by walk_at "1");have b_11:=F_11.binds (ps:=pL') (by walk_at "1");have b_15:=F_15.binds (ps:=pL') (by walk_at "1");have b_o:=F_o.binds (ps:=pL') (by walk_at "1");have b_1i:=F_1i.binds (ps:=["one"]) (by walk_at "1");have b_r:=F_r.binds (ps:=pE') (by walk_at "2");have b_1b:=F_1b.binds (ps:=pE') (by walk_at "2");have b_3:=F_3.binds (ps:=pn') (by walk_at "2");have b_q:=F_q.binds (ps:=pk') (by walk_at "2");have b_k:=F_k.binds (ps:=ph') (by walk_at "2");have b_b:=F_b.binds (ps:=pc') (by walk_at "3");have b_8:=F_8.binds (ps:=pJ') (by walk_at "1");have b_c:=F_c.binds (ps:=pu') (by walk_at "2");have b_n:=F_n.binds (ps:=pi') (by walk_at "2");have b_1a:=F_1a.binds (ps:=pe') (by walk_at "2");have b_e:=F_e.binds (ps:=pp') (by walk_at "2");have b_w:=F_w.binds (ps:=pd') (by walk_at "3");have b_u:=F_u.binds (ps:=pf') (by walk_at "3");have b_h:=F_h.binds (ps:=pa') (by walk_at "4");have b_y:=F_y.binds (ps:=pb') (by walk_at "3");have b_1f:=F_1f.binds (ps:=pl') (by walk_at "2");have b_v:=F_v.binds (ps:=pw') (by walk_at "1");have b_s:=F_s.binds (ps:=pj') (by walk_at "2");have b_j:=F_j.binds (ps:=pw') (by walk_at "1");have b_26:=F_26.binds (ps:=pF') (by walk_at "1");obtain ⟨_,_,_,_,_,_,_,_,_,rfl,_,_⟩:=id F_26.ex;exact ⟨⟨f_1j,_,f_1p,_,f_19,_,f_7,_,f_1z,_,f_1h,_,f_1y,_,f_1l,_,f_1,_,f_1n,_,f_25,_,f_20,_,f_1x,_,f_1o,_,f_1u,_,f_23,_,f_16,_,f_i,_,f_d,_,f_m,_,f_2,_,f_f,_,f_9,_,f_1k,_,f_10,_,f_1c,_,f_18,_,f_24,_,f_1m,_,f_g,_,f_17,_,f_x,_,f_p,_,f_l,_,f_0,_,f_a,_,f_6,_,f_4,_,f_5,_,f_13,_,f_1e,_,f_1d,_,f_12,_,f_t,_,f_14,_,f_11,_,f_15,_,f_o,_,f_1i,_,f_r,_,f_1b,_,f_3,_,f_q,_,f_k,_,f_b,_,f_8,_,f_c,_,f_n,_,f_1a,_,f_e,_,f_w,_,f_u,_,f_h,_,f_y,_,f_1f,_,f_v,_,f_s,_,f_j,_,f_26,_,C_2b,C_2a,C_28,C_29,C_27,C_1r,C_21,C_22,C_1w,C_1q,C_1t,C_1s,C_1v,C_1g,C_z⟩,⟨F_1j,mg_of X G n_1j,b_1j,F_1p,mg_of X G n_1p,b_1p,F_19,mg_of X G n_19,b_19,F_7,mg_of X G n_7,b_7,F_1z,mg_of X G n_1z,b_1z,F_1h,mg_of X G n_1h,b_1h,F_1y,mg_of X G n_1y,b_1y,F_1l,mg_of X G n_1l,b_1l,F_1,mg_of X G n_1,b_1,F_1n,mg_of X G n_1n,b_1n,F_25,mg_of X G n_25,b_25,F_20,mg_of X G n_20,b_20,F_1x,mg_of X G n_1x,b_1x,F_1o,mg_of X G n_1o,b_1o,F_1u,mg_of X G n_1u,b_1u,F_23,mg_of X G n_23,b_23,F_16,mg_of X G n_16,b_16,F_i,mg_of X G n_i,b_i,F_d,b_d,F_m,b_m,F_2,b_2,F_f,b_f,F_9,b_9,F_1k,mg_of X G n_1k,b_1k,F_10,mg_of X G n_10,b_10,F_1c,mg_of X G n_1c,b_1c,F_18,mg_of X G n_18,b_18,F_24,mg_of X G n_24,b_24,F_1m,mg_of X G n_1m,b_1m,F_g,mg_of X G n_g,b_g,F_17,mg_of X G n_17,b_17,F_x,mg_of X G n_x,b_x,F_p,mg_of X G n_p,b_p,F_l,mg_of X G n_l,b_l,F_0,b_0,F_a,b_a,F_6,b_6,F_4,b_4,F_5,b_5,F_13,b_13,F_1e,b_1e,F_1d,b_1d,F_12,b_12,F_t,b_t,F_14,b_14,F_11,b_11,F_15,b_15,F_o,b_o,F_1i,mg_of X G n_1i,b_1i,F_r,mg_of X G n_r,b_r,F_1b,mg_of X G n_1b,b_1b,F_3,mg_of X G n_3,b_3,F_q,mg_of X G n_q,b_q,F_k,mg_of X G n_k,b_k,F_b,mg_of X G n_b,b_b,F_8,mg_of X G n_8,b_8,F_c,mg_of X G n_c,b_c,F_n,mg_of X G n_n,b_n,F_1a,mg_of X G n_1a,b_1a,F_e,mg_of X G n_e,b_e,F_w,mg_of X G n_w,b_w,F_u,mg_of X G n_u,b_u,F_h,mg_of X G n_h,b_h,F_y,mg_of X G n_y,b_y,F_1f,mg_of X G n_1f,b_1f,F_v,mg_of X G n_v,b_v,F_s,mg_of X G n_s,b_s,F_j,mg_of X G n_j,b_j,F_26,mg_of X G n_26,b_26,PySem.W.mg_none_of X G y_any,PySem.W.mg_none_of X G y_sum,PySem.W.mg_none_of X G y_zip,PySem.W.mg_none_of X G y_enumerate,PySem.W.mg_none_of X G y_range,PySem.W.mg_none_of X G y_len,PySem.W.mg_none_of X G y_abs,PySem.W.mg_none_of X G y_isinstance,PySem.W.mg_none_of X G y_int,PySem.W.mg_none_of X G y_bool,PySem.W.mg_none_of X G y_list,PySem.W.mg_none_of X G y_tuple,PySem.W.mg_none_of X G y_str,PySem.W.mg_none_of X G y_sorted,PySem.W.mg_none_of X G y_reversed,mg_of X G n_2b,mg_of X G n_2a,mg_of X G n_28,mg_of X G n_29,mg_of X G n_27,mg_of X G n_1r,mg_of X G n_21,mg_of X G n_22,mg_of X G n_1w,mg_of X G n_1q,mg_of X G n_1t,mg_of X G n_1s,mg_of X G n_1v,mg_of X G n_1g,mg_of X G n_z,⟨_,mg_of X G n_MOST_TIMES,_,rfl⟩,⟨_,mg_of X G n_LONGEST_SPAN,_,rfl⟩,q_34,q_36,q_37,q_38,q_1u,q_20,q_1n,q_39,q_3a,q_21,q_22,q_23,q_w,q_3,q_24,q_25,q_1c,q_2t,q_2u,q_2v,q_1d,q_a,q_2w,q_2x,q_1l,q_2y,q_2z,q_30,q_1e,q_b,q_31,q_32,q_1m,q_26,q_27,q_28,q_x,q_4,q_29,q_2a,q_1f,q_1v,q_1w,q_1x,q_j,q_1,q_1y,q_1z,q_y,q_2b,q_2c,q_2d,q_z,q_5,q_2e,q_2f,q_1g,q_2g,q_2h,q_2i,q_10,q_6,q_2j,q_2k,q_1h,q_2l,q_2m,q_2n,q_11,q_7,q_2o,q_2p,q_1i,q_1o,q_1p,q_1q,q_c,q_0,q_12,q_k,q_l,q_1j,q_13,q_14,q_1k,q_15,q_16,q_17,q_m,q_n,q_o,q_d,q_e,q_18,q_p,q_q,q_19,q_r,q_s,q_1a,q_t,q_u,q_f,q_8,q_9,q_1r,q_1s,q_v,q_2q,q_2r,q_2s,q_1t,q_1b,q_g,q_h,q_2,q_i,q_33,q_nn,q_35,λ s v=>.of_eq rfl⟩,List.forall_mem_cons.mpr ⟨by simpa using w_Steps_rising,List.forall_mem_cons.mpr ⟨by simpa using w_met,λ _ h=>nomatch h⟩⟩⟩
theorem head_mk {P:Program} {w:World} {K:Frag} {mg:Str->Option Value} {fa:Addr} {ts:List Addr} (h:∃ t,Txt K mg t/\∀ f∈[Adr.a_2 t,Adr.a_24 t],L2.tabP K f∈ts) (hmg:mg "law" = some (.ref fa)) :
  ∃ (fd:FuncData) (fl:List Addr),(∀ f∈fl,tabOk K f=true/\tabP K f∈ts)/\(∀ (s:Shared) (u:Value),BindsTo s fd ⟨[u],[]⟩ [("_law_script",u)])/\∀ base:Heap,K.In base->base.Ns mainGlobals mg->d_V mg base->FnOk P w K mg base CX0 15 fa fd pF' (k_P K fl):=by
 obtain ⟨t,T,W⟩:=h;have e0:=hmg.symm.trans T.m_26;cases e0;have W1:=List.forall_mem_cons.mp W;have W2:=List.forall_mem_cons.mp W1.2;exact ⟨t.d_26,[t.a_2,t.a_24],List.forall_mem_cons.mpr ⟨⟨T.tb_2,W1.1⟩,List.forall_mem_cons.mpr ⟨⟨T.tb_24,W2.1⟩,λ _ h=>nomatch h⟩⟩,T.bl,λ base _ _ bm=>ok_26 T bm⟩
end Cw
open PySem PySem.W PyProof.Rows
/-! Names that the head would else lay equations under (of whole heaps and of their trees): the proof wants none of them. -/
namespace PySem.W.Fast
def tw3278536605075178995:=()
def tw15052991985247020359:=()
def tw555407376313726389:=()
def tw14319978948844485685:=()
def tw16543812094249679830:=()
def tw6462955010244283906:=()
def tw2566224139134832969:=()
def tw5873487899538937185:=()
def tw5339951168378768692:=()
def tw16832504246376459344:=()
def tw1344579545828229986:=()
def tw16765116576458096266:=()
def tw4186857179853519304:=()
def tw2428085022677403696:=()
def tw1156468384875690330:=()
def tw14330799889654240110:=()
def tw13490690226200789758:=()
def tw13883625232029035576:=()
def tw7716674597757201130:=()
def tw17804111975823390905:=()
def tw13796086170943848531:=()
def tw2012612228203137426:=()
def tw2130109250160466486:=()
def tw18092759131093726016:=()
def tw16169693876956159933:=()
def tw15175556719762352104:=()
def tw7163400494638555871:=()
def tw3442769471142853821:=()
def tw17959025868348709144:=()
def tw9753412770813760162:=()
def tw6332124323058849078:=()
def tw4997071589611733713:=()
def tw16914635429505959653:=()
def tw4516136597876173244:=()
def tw12034612660637440176:=()
def tw14778444374645595404:=()
def tw16392362690272317600:=()
def tw8188772950433381272:=()
def tw11524461894819684480:=()
def tw12280947779151888118:=()
def tw8412416376532345621:=()
def tw2334238110760779392:=()
def tw16657644949795365292:=()
def tw8681632143063106153:=()
def tw14530338668206808727:=()
def tw16067668822560377554:=()
def tw938883669854916675:=()
def tw11219185945083811648:=()
def tw16089858397896795191:=()
def tw12920919812031578810:=()
def tw17561678648568909303:=()
def tw7762388198288572877:=()
def tw10848642081198461270:=()
def tw1213014929369810925:=()
def tw12036501243781549050:=()
def tw15069976110729075718:=()
def tw6507388033417630727:=()
def tw15716539092393567428:=()
def tw15105707959440727370:=()
def tw4612288193850733873:=()
def tw5076031765652783710:=()
def tw17761137960608006668:=()
def tw7565999136682130749:=()
def tw16940676515849932306:=()
def tw3900558035136128642:=()
def tw8782943249293688807:=()
def tw942267112936308432:=()
def tw9512756951854212512:=()
def tw16884589662090344756:=()
def tw1228150044840445987:=()
def tw5559251654524077448:=()
def tw16901208669177204033:=()
def tw14617040356112999009:=()
def tw7741688821836750993:=()
def tw14140178804933460393:=()
def tw12088660701018459917:=()
def tw5196158573952244046:=()
def tw15318679160010153570:=()
def tw4847770824801455013:=()
def tw3793721395716897145:=()
def tw11728052246470854684:=()
def tw14319371567946724692:=()
def tw3952207936979101036:=()
def tw16679443144140508879:=()
def tw18366531752176695790:=()
def tw1990404977288735232:=()
def tw6846379732948898926:=()
def tw16202561348176915944:=()
def tw14804357574985015955:=()
def tw1178387737933593288:=()
def tw12160066134943977457:=()
def tw12475747389013603417:=()
def tw4499410748460504069:=()
def tw4966115747996330835:=()
def tw7680825927922346672:=()
def tw9109904246933685319:=()
def tw11917796069612314543:=()
def tw2268941863154373472:=()
def tw2525023702334041622:=()
def tw16260196416176759554:=()
def tw6611214811211757240:=()
def tw12365370671018784295:=()
def tw13325730761971817886:=()
def tw14307011634906085906:=()
def tw4059702796334115823:=()
def tw14331070343713652907:=()
def tw7561682071130612005:=()
def tw9835863324038751469:=()
def tw8842947102104663789:=()
def tw5918135224675960732:=()
def tw7767437971857248926:=()
def tw13293953879884161423:=()
def tw17159751315667531018:=()
def tw6243154826011761350:=()
def tw106507968941271294:=()
def tw13715347545805430099:=()
def tw8950240891717653227:=()
def tw16773269710541411380:=()
def tw9518344837333206771:=()
def tw17481306627589003595:=()
def tw9304915023391724557:=()
def tw846646695397237655:=()
def tw513127843430992922:=()
def tw15190508477777833876:=()
def tw5142452528344700621:=()
def tw13624120097297040115:=()
def tw16219703287259532012:=()
def tw13725448756031889506:=()
def tw12253139543167868078:=()
def tw5719049365146583237:=()
def tw6238806682035539077:=()
def tw12806303931568672305:=()
def tw1183496683631093733:=()
def tw17383697729186931045:=()
def tw2417071625147577112:=()
def tw8472320570305829224:=()
def tw3720328729998689823:=()
def tw16202646451146252201:=()
def tw12520783944178744778:=()
def tw13234900524398318323:=()
def tw9460671945666863662:=()
def tw4803220813539870685:=()
def tw6130881398432015625:=()
def tw6665590489764614134:=()
def tw17878501247473197016:=()
def tw1305146176048273464:=()
def tw17777924626991317264:=()
def tw10292964546091035584:=()
def tw12699681869935738713:=()
def tw11123679319104543555:=()
def tw15891921783246869006:=()
def tw5060718807901667985:=()
def tw14964813186733974396:=()
def tw6563208680606615689:=()
def tw7864455187891253078:=()
def tw17946580563275843870:=()
def tw13221351794938538359:=()
def tw4745713966258732676:=()
def tw5946675752955179506:=()
def tw17572157280408731956:=()
def tw10805963015013463777:=()
def tw6444234741383156640:=()
def tw120793909733324389:=()
def tw17807716547161950325:=()
def tw7376233466968002453:=()
def tw14998469719427844384:=()
def tw3564302053560240131:=()
def tw7208184281336595243:=()
def tw13427707953741965409:=()
def tw55144111400437729:=()
def tw13327241467101688210:=()
def tw5454883702881127372:=()
def tw4310892574767314865:=()
def tw13605167577302984627:=()
def tw12948724780887204884:=()
def tw476964645254112716:=()
def tw13210486367657481610:=()
def tw10792721438479336126:=()
def tw12267455928288385559:=()
def tw16237133408828515748:=()
def tw12582144075020981150:=()
def tw14745023956217050808:=()
def tw15846243192894759656:=()
def tw10489931452511046690:=()
def tw5027258238732132479:=()
def tw7522620444911579928:=()
def tw5487794811257045191:=()
def tw6677110793736621824:=()
def tw18038967489767711671:=()
def tw1085436138556094057:=()
def tw2045206923103583761:=()
def tw14972287213869952944:=()
def tw2505696523047549891:=()
def tw538596472684381071:=()
def tw1512553777755428209:=()
def tw444761397460675080:=()
def tw12525115486676621321:=()
def tw17498535105626722128:=()
def tw7519178744100627220:=()
def tw16421248543610296811:=()
def tw3181649397734536906:=()
def tw13823670580118237468:=()
def tw17371799808024434602:=()
def tw663483024093948803:=()
def tw1647107515783794696:=()
def tw3589559248960241191:=()
def tw16266655696011382930:=()
def tw17081405269122360613:=()
def tw4263388235348346579:=()
def tw16838777931838051741:=()
def tw3865613559866996919:=()
def tw4930073674277097176:=()
def tw1547807351585317475:=()
def tw5757762479772714787:=()
def tw6985424269981948130:=()
def tw2491476734559493968:=()
def tw17154288386496279989:=()
def tw12678318628782782567:=()
def tw6176987233765724939:=()
def tw3791939085216856381:=()
def tw17114831347203771129:=()
def tw17121325841809785089:=()
def tw13844613211192408819:=()
def tw15735322049914696742:=()
def tw7961362934683073202:=()
def tw6834228924807582639:=()
def tw7853971664078128301:=()
def tw11059965352024714725:=()
def tw5691626562125972398:=()
def tw11897575624454313905:=()
def tw17664131462036241134:=()
def tw10665327886969927501:=()
def tw15610571743477159179:=()
def tw12041711698069122076:=()
def tw8903504816147235628:=()
def tw11870823534122302448:=()
def tw2486078316565683361:=()
def tw14530962387692553310:=()
def tw15842856873171724549:=()
def tw6787183648717722353:=()
def tw1994812578399851844:=()
def tw3117921751253709041:=()
def tw6558835633249926216:=()
def tw2110904563397277145:=()
def tw5130896380283167135:=()
def tw11404418711845798302:=()
def tw4981474146986181800:=()
def tw15375633378547907517:=()
def tw4626004049211679725:=()
def tw5847299952031882871:=()
def tw3688817440809777840:=()
def tw2037080962571335941:=()
def tw13530189408904959497:=()
def tw7882573813097858983:=()
def tw7219589328525691380:=()
def tw4733446669654872707:=()
def tw3958064163078296220:=()
def tw11799445951279533971:=()
def tw17528824776138988199:=()
def tw6505668640442260943:=()
def tw4208591671509047343:=()
def tw15101172160006405439:=()
def tw13552775755374457662:=()
def tw3168344970885516599:=()
def tw1919611879289080212:=()
def tw8377411754432598273:=()
def tw17537831198824917857:=()
def tw9834620585064109517:=()
def tw16366918675941778356:=()
def tw6526146873642160145:=()
def tw7039166993524945502:=()
def tw2482861644620356469:=()
def tw7435565005884410290:=()
def tw9738101541390693220:=()
def tw7486521976748296334:=()
def tw12815377254725133375:=()
def tw8759454893883005800:=()
def tw8223551005228850479:=()
def tw4385446153351654152:=()
def tw7543151580443576896:=()
def tw3255298331658238616:=()
def tw6015906845151042128:=()
def tw14776970550441803009:=()
def tw12697907967231074926:=()
def tw7644278946467524549:=()
def tw12291669268108858660:=()
def tw7120865088075584652:=()
def tw2504962448812349367:=()
def tw17654152613991146067:=()
def tw2927068270670820020:=()
def tw11569642262801203001:=()
def tw6067387450412854973:=()
def tw10675217207937492340:=()
def tw11215341212289119521:=()
def tw14676009855046475013:=()
def tw14730741468240579056:=()
def tw2066970565480894796:=()
def tw6244611659975825097:=()
def tw6607889184426084864:=()
def tw11939174831657960675:=()
def tw14589930740875939258:=()
def tw4357291637493693159:=()
def tw8801429389767770180:=()
def tw13303574110822071314:=()
def tw10371877829166555284:=()
def tw12908326802992766850:=()
def tw7515694455949958024:=()
def tw9306464557117449418:=()
def tw14055747232023781795:=()
def tw17216593358395022919:=()
def tw13751734313881269083:=()
def tw124889416586938668:=()
def tw10835288897650732437:=()
def tw9002127572363789209:=()
def tw3564174487917207643:=()
def tw249323295278600190:=()
def tw16464319929730186502:=()
def tw14180054516784358207:=()
def tw9213333408121455674:=()
def tw10971833210268017896:=()
def tw2268512362846127017:=()
def tw9204238484355011479:=()
def tw10471893934956209435:=()
def tw6715040751709734040:=()
def tw16519311642619150181:=()
def tw9584253181277217698:=()
def tw14983795041839841263:=()
def tw7137775497051745088:=()
def tw1743643767780486806:=()
def tw3401278960399012481:=()
def tw11779449570715359752:=()
def tw10220185444481013930:=()
def tw5782423788378005410:=()
def tw17951824196921223696:=()
def tw7700339630492141329:=()
def tw4377512728800767337:=()
def tw12042908177415378606:=()
def tw7363090093483064384:=()
def tw16090670625873887715:=()
def tw13804044425357921119:=()
def tw9873279532037183352:=()
def tw4576250640126790570:=()
def tw16813068247721926034:=()
def tw8153575331975213205:=()
def tw5936447097016862053:=()
def tw13417472530912490739:=()
def tw6537427892694272754:=()
def tw16815971825836810927:=()
def tw15474572766036932161:=()
def tw944266260086854123:=()
def tw15983008470934113419:=()
def tw17553347217698736491:=()
def tw11813754446814731317:=()
def tw1681380251527834721:=()
def tw16288721733658774670:=()
def tw6772029170182711291:=()
def tw8661846678950894789:=()
def tw5720295675912191732:=()
def tw622885774450846667:=()
def tw14594778138206924156:=()
def tw5937751155432255585:=()
def tw10323794496568056507:=()
def tw14113641758357160944:=()
def tw8927085286149712707:=()
def tw7876200546772056647:=()
def tw1117904592099578638:=()
def tw6880340297769141044:=()
def tw9723476027974362144:=()
def tw6401892088194460312:=()
def tw14309610237740006236:=()
def tw11326052478145997276:=()
def tw16162311599450236768:=()
def tw16019902147909841778:=()
def tw527672093230701408:=()
def tw18401624521105943541:=()
def tw10370109214800232365:=()
def tw14164375111067347169:=()
def tw1314544249617766534:=()
def tw11239048655379760037:=()
def tw4978385151920745837:=()
def tw5016385431742270618:=()
def tw1652122974139113385:=()
def tw535118739925587981:=()
def tw15843356306094389784:=()
def tw5913997113009362664:=()
def tw10331073524594880694:=()
def tw2697703321949122883:=()
def tw5239952292931920550:=()
def tw2389532462939942942:=()
def tw2610715013360062986:=()
def tw12562114131688224936:=()
def tw447302693964265771:=()
def tw661753908414205847:=()
def tw12836464423717093832:=()
def tw11111281752772526580:=()
def tw15412671387449340975:=()
def tw6730710045233361835:=()
def tw14214461423029070870:=()
def tw7061214258545025112:=()
def tw12215762171135313632:=()
def tw2128609708719955527:=()
def tw16633883216882287129:=()
def tw17861788925974792494:=()
def tw15961489415263429657:=()
def tw16746843218725774581:=()
def tw4015059981661079177:=()
def tw8816145867802713139:=()
def tw9873758839442192722:=()
def tw13682028371924196637:=()
def tw6496501011068256440:=()
def tw14493849114182365103:=()
def tw13249349199407514165:=()
def tw1573243314064372779:=()
def tw10087441628486832255:=()
def tw7808634452217326283:=()
def tw11524349781727328257:=()
def tw17145668663911827620:=()
def tw11117396344076350619:=()
def tw15427485455984660729:=()
def tw12580899787445997240:=()
def tw10327473814387184551:=()
def tw12927551405943494254:=()
def tw12404762786378257886:=()
def tw16906438091204386554:=()
def tw7665441915255001428:=()
def tw2088611706590790045:=()
def tw6239750849279265193:=()
def tw2501917642477341107:=()
def tw8122011314569517957:=()
def tw10914435893122503381:=()
def tw17924840298326072854:=()
def tw7846125856627683003:=()
def tw15110584087899462317:=()
def tw1750550064545535267:=()
def tw13664842946890123:=()
def tw724124603953711300:=()
def tw13642437711561879093:=()
def tw15855003320999050044:=()
def tw3820654739144256119:=()
def tw6075010515734268935:=()
def tw4168412626757409571:=()
def tw12488533485796291398:=()
def tw2565070926923495465:=()
def tw2768486508308010608:=()
def tw674665904665811163:=()
def tw5736847471572243023:=()
def tw146461896321586901:=()
end PySem.W.Fast
set_option maxRecDepth 100000 in
set_option maxHeartbeats 0 in
theorem PySem.Challenge.cw_crystalwords_k36_whole_either_first_holds : PySem.Challenge.rw_crystalwords_k36_whole_either_first.Holds := by
 w_on; o_law; k_head; (case hw=>w_witness2)
 k_fill
 refine L2.walkT (l:=PySem.Challenge.rw_crystalwords_k36_whole_either_first) (k:=15) (x := "_law_script") rfl rfl ⟨rfl,by decide,by decide⟩ (λ w h Y=>⟨PySem.W.km_in_of Y,PySem.W.km_tabs_of Y⟩) ?F
 case F =>
  intro w mg fa h KX G hmg
  refine Cw.head_mk (K:=L2.KOf KX) ?T hmg
  dsimp only [L2.KOf]
  refine' Cw.txt_mk KX G ?n_2b ?n_2a ?n_28 ?n_29 ?n_27 ?n_1r ?n_21 ?n_22 ?n_1w ?n_1q ?n_1t ?n_1s ?n_1v ?n_1g ?n_z ?n_1j ?F_1j ?n_1p ?F_1p ?n_19 ?F_19 ?n_7 ?F_7 ?n_1z ?F_1z ?n_1h ?F_1h ?n_1y ?F_1y ?n_1l ?F_1l ?n_1 ?F_1 ?n_1n ?F_1n ?n_25 ?F_25 ?n_20 ?F_20 ?n_1x ?F_1x ?n_1o ?F_1o ?n_1u ?F_1u ?n_23 ?F_23 ?n_16 ?F_16 ?n_i ?F_i ?n_d ?F_d ?n_m ?F_m ?n_2 ?F_2 ?n_f ?F_f ?n_9 ?F_9 ?n_1k ?F_1k ?n_10 ?F_10 ?n_1c ?F_1c ?n_18 ?F_18 ?n_24 ?F_24 ?n_1m ?F_1m ?n_g ?F_g ?n_17 ?F_17 ?n_x ?F_x ?n_p ?F_p ?n_l ?F_l ?n_0 ?F_0 ?n_a ?F_a ?n_6 ?F_6 ?n_4 ?F_4 ?n_5 ?F_5 ?n_13 ?F_13 ?n_1e ?F_1e ?n_1d ?F_1d ?n_12 ?F_12 ?n_t ?F_t ?n_14 ?F_14 ?n_11 ?F_11 ?n_15 ?F_15 ?n_o ?F_o ?n_1i ?F_1i ?n_r ?F_r ?n_1b ?F_1b ?n_3 ?F_3 ?n_q ?F_q ?n_k ?F_k ?n_b ?F_b ?n_8 ?F_8 ?n_c ?F_c ?n_n ?F_n ?n_1a ?F_1a ?n_e ?F_e ?n_w ?F_w ?n_u ?F_u ?n_h ?F_h ?n_y ?F_y ?n_1f ?F_1f ?n_v ?F_v ?n_s ?F_s ?n_j ?F_j ?n_26 ?F_26 ?n_MOST_TIMES ?n_LONGEST_SPAN ?y_any ?y_sum ?y_zip ?y_enumerate ?y_range ?y_len ?y_abs ?y_isinstance ?y_int ?y_bool ?y_list ?y_tuple ?y_str ?y_sorted ?y_reversed ?q_34 ?q_36 ?q_37 ?q_38 ?q_1u ?q_20 ?q_1n ?q_39 ?q_3a ?q_21 ?q_22 ?q_23 ?q_w ?q_3 ?q_24 ?q_25 ?q_1c ?q_2t ?q_2u ?q_2v ?q_1d ?q_a ?q_2w ?q_2x ?q_1l ?q_2y ?q_2z ?q_30 ?q_1e ?q_b ?q_31 ?q_32 ?q_1m ?q_26 ?q_27 ?q_28 ?q_x ?q_4 ?q_29 ?q_2a ?q_1f ?q_1v ?q_1w ?q_1x ?q_j ?q_1 ?q_1y ?q_1z ?q_y ?q_2b ?q_2c ?q_2d ?q_z ?q_5 ?q_2e ?q_2f ?q_1g ?q_2g ?q_2h ?q_2i ?q_10 ?q_6 ?q_2j ?q_2k ?q_1h ?q_2l ?q_2m ?q_2n ?q_11 ?q_7 ?q_2o ?q_2p ?q_1i ?q_1o ?q_1p ?q_1q ?q_c ?q_0 ?q_12 ?q_k ?q_l ?q_1j ?q_13 ?q_14 ?q_1k ?q_15 ?q_16 ?q_17 ?q_m ?q_n ?q_o ?q_d ?q_e ?q_18 ?q_p ?q_q ?q_19 ?q_r ?q_s ?q_1a ?q_t ?q_u ?q_f ?q_8 ?q_9 ?q_1r ?q_1s ?q_v ?q_2q ?q_2r ?q_2s ?q_1t ?q_1b ?q_g ?q_h ?q_2 ?q_i ?q_33 ?q_nn ?q_35 ?w_Steps_rising ?w_met
  (case n_2b | n_2a | n_28 | n_29 | n_27 | n_1r | n_21 | n_22 | n_1w | n_1q | n_1t | n_1s | n_1v | n_1g | n_z | n_1j | n_1p | n_19 | n_7 | n_1z | n_1h | n_1y | n_1l | n_1 | n_1n | n_25 | n_20 | n_1x | n_1o | n_1u | n_23 | n_16 | n_i | n_1k | n_10 | n_1c | n_18 | n_24 | n_1m | n_g | n_17 | n_x | n_p | n_l | n_1i | n_r | n_1b | n_3 | n_q | n_k | n_b | n_8 | n_c | n_n | n_1a | n_e | n_w | n_u | n_h | n_y | n_1f | n_v | n_s | n_j | n_26 | q_24 | q_2w | q_31 | q_29 | q_1y | q_2e | q_2j | q_2o | q_1r=>show _=_; k_is)
  (case n_d | n_m | n_2 | n_f | n_9 | n_0 | n_a | n_6 | n_4 | n_5 | n_13 | n_1e | n_1d | n_12 | n_t | n_14 | n_11 | n_15 | n_o | n_MOST_TIMES | n_LONGEST_SPAN | y_any | y_sum | y_zip | y_enumerate | y_range | y_len | y_abs | y_isinstance | y_int | y_bool | y_list | y_tuple | y_str | y_sorted | y_reversed | q_39 | q_3a | q_23 | q_25 | q_2v | q_2x | q_30 | q_32 | q_28 | q_2a | q_1x | q_1z | q_2d | q_2f | q_2i | q_2k | q_2n | q_2p | q_1q | q_1s | q_2s | q_1t=>k_is)
  (case F_1j | F_1p | F_19 | F_7 | F_1z | F_1h | F_1y | F_1l | F_1 | F_1n | F_25 | F_20 | F_1x | F_1o | F_1u | F_23 | F_16 | F_i | F_d | F_m | F_2 | F_f | F_9 | F_1k | F_10 | F_1c | F_18 | F_24 | F_1m | F_g | F_17 | F_x | F_p | F_l | F_0 | F_a | F_6 | F_4 | F_5 | F_13 | F_1e | F_1d | F_12 | F_t | F_14 | F_11 | F_15 | F_o | F_1i | F_r | F_1b | F_3 | F_q | F_k | F_b | F_8 | F_c | F_n | F_1a | F_e | F_w | F_u | F_h | F_y | F_1f | F_v | F_s | F_j | F_26=>refine' L2.fun_mk ?l ?c ?k; (case l=>k_is); (case c=>k_is); (case k=>k_is))
  (case q_34 | q_36 | q_37 | q_38 | q_1c | q_1l | q_1m | q_1f | q_y | q_1g | q_1h | q_1i | q_v=>kit_is)
  (case q_1u | q_20 | q_1n=>k_exc)
  (case q_21 | q_22 | q_2t | q_2u | q_2y | q_2z | q_26 | q_27 | q_1v | q_1w | q_2b | q_2c | q_2g | q_2h | q_2l | q_2m | q_1o | q_1p | q_2q | q_2r=>exact ⟨by k_is,by k_is,by k_is,by k_is⟩)
  (case q_w | q_3 | q_1d | q_a | q_1e | q_b | q_x | q_4 | q_j | q_1 | q_z | q_5 | q_10 | q_6 | q_11 | q_7 | q_c | q_0 | q_12 | q_k | q_l | q_1j | q_13 | q_14 | q_1k | q_15 | q_16 | q_17 | q_m | q_n | q_o | q_d | q_e | q_18 | q_p | q_q | q_19 | q_r | q_s | q_1a | q_t | q_u | q_f | q_8 | q_9 | q_1b | q_g | q_h | q_2=>exact ⟨by k_is,by k_is,by k_is⟩)
  (case q_i | q_33 | q_35 | w_Steps_rising | w_met=>kernel_rfl)
  (case q_nn=>decide)
#print axioms PySem.Challenge.cw_crystalwords_k36_whole_either_first_holds