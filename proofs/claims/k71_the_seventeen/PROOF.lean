import PyProof.Rows.All
import Wide.All
import OpenK.AllK
import Wide.FinOn
import Lean
import PyProof.EqAt
import PyProof.EqKinds
import PyProof.TupleCall
import PySem.Challenge.RW_crystalwords_k71_the_seventeen
set_option Elab.async false
set_option linter.all false
set_option maxRecDepth 100000
open PySem in
def zA:=@wpAny_bind
open PySem in
def zB:=@wpAny_pure
open PySem in
def zC:=@wpAny_mono
open PySem in
def zD:=@Heap.get?_push_of_some
open PySem in
def zE:=@Heap.lt_size
open PySem in
def zF:=@Heap.get?_push_size
open PySem in
def zG:=@PassesOwn.never
open PySem in
def zH:=@List.getElem?_map
open PySem in
def zI:=@Nat.lt_of_lt_of_le
open PySem in
def zJ:=@List.size_toArray
open PySem in
def zK:=@Nat.mul_le_mul_right
open PySem in
def zL:=@Nat.le_refl
open PySem in
def zM:=@Nat.pow_le_pow_right
open PySem in
def zN:=@List.mem_cons_of_mem
open PySem in
def zO:=@List.eq_nil_of_length_eq_zero
open PySem in
def zP:=@List.getElem?_set_self
open PySem in
def zQ:=@List.getElem?_set_ne
open PySem in
def zR:=@Int.toNat_natCast
open PySem in
def zS:=@Nat.le_trans
open PySem in
def zT:=@Option.some.inj
open PySem in
def zU:=@List.mem_cons_self
open PySem in
def zV:=@Bool.false_ne_true
open PySem in
def zW:=@decide_eq_true
open PySem in
def zX:=@decide_eq_false
open PySem in
def zY:=@of_decide_eq_true
open PySem in
def zZ:=@List.mem_append_right
open PySem in
def yA:=@List.getElem_mem
open PySem in
def yC:=@List.getElem?_append_left
open PySem in
def yD:=@List.getElem?_append_right
open PySem in
def yE:=@Int.natAbs_mul
open PySem in
def yF:=@List.getElem_of_mem
open PySem in
def yG:=@List.ext_getElem
open PySem in
def yH:=@List.getElem?_range
open PySem in
def yI:=@List.length_map
open PySem in
def yJ:=@absurd
namespace L2
open PySem PySem.Spec PyProof.Rows
open PySem.W (Frag)
noncomputable abbrev Key:=Sum Int Str
noncomputable def u_N:Key->Value->Bool
 | .inl k,v=>Value.isInt k v
 | .inr x,v=>Value.isStrOf x v
noncomputable def keyH (w:World):Key->Int
 | .inl k=>hashInt k
 | .inr x=>hashStr w x
theorem c_C:∀ {k:Key} {v:Value},u_N k v=true->(∃ i t,k=Sum.inl i/\v=Value.int i t)\/(∃ x t,k=Sum.inr x/\v=Value.str x t)
 | .inl i,v,h=>by
  obtain ⟨t,e⟩:=Value.isInt_shape (k:=i) (v:=v) h;exact .inl ⟨i,t,rfl,e⟩
 | .inr x,v,h=>by
  obtain ⟨t,e⟩:=Value.isStrOf_shape (x:=x) (v:=v) h;exact .inr ⟨x,t,rfl,e⟩
theorem v_l (a b:Int):decide ((Sum.inl a:Key)=Sum.inl b)=(a == b):=by
 by_cases e:a=b
 ·subst e; simp
 ·have h:¬ (Sum.inl a:Key)=Sum.inl b:=λ q=>e (Sum.inl.inj q);rw [zX h];exact (beq_eq_false_iff_ne.mpr e).symm
theorem v_m (a b:Str):decide ((Sum.inr a:Key)=Sum.inr b)=decide (a=b):=by
 by_cases e:a=b
 ·subst e; simp
 ·have h:¬ (Sum.inr a:Key)=Sum.inr b:=λ q=>e (Sum.inr.inj q);rw [zX h,zX e]
theorem v_n (a:Int) (b:Str):decide ((Sum.inl a:Key)=Sum.inr b)=false:=zX (λ q=>nomatch q)
theorem v_o (a:Str) (b:Int):decide ((Sum.inr a:Key)=Sum.inl b)=false:=zX (λ q=>nomatch q)
noncomputable def o_c (prog:Program) (w:World):PySem.KeyKind prog w Key where
 is:=u_N
 hash:=keyH w
 inj:=λ v a b ha hb=>by
  rcases c_C ha with ⟨i,t,rfl,rfl⟩ | ⟨x,t,rfl,rfl⟩
  ·rcases c_C hb with ⟨j,u,rfl,e⟩ | ⟨y,u,rfl,e⟩
   ·injection e with e1 _; rw [e1]
   ·exact nomatch e
  ·rcases c_C hb with ⟨j,u,rfl,e⟩ | ⟨y,u,rfl,e⟩
   ·exact nomatch e
   ·injection e with e1 _; rw [e1]
 byValue:=λ k v h=>by
  rcases c_C h with ⟨i,t,rfl,rfl⟩ | ⟨x,t,rfl,rfl⟩ <;> rfl
 pyHash:=λ hv h=>by
  rcases c_C hv with ⟨i,t,rfl,rfl⟩ | ⟨x,t,rfl,rfl⟩
  ·exact wpAny_pyHash_int h
  ·exact wpAny_pyHash_str h
 eqBool:=λ hu hv h=>by
  rcases c_C hu with ⟨i,t,rfl,rfl⟩ | ⟨x,t,rfl,rfl⟩
  ·rcases c_C hv with ⟨j,u,rfl,rfl⟩ | ⟨y,u,rfl,rfl⟩
   ·rw [v_l] at h; exact wpAny_eqBool_int h
   ·rw [v_n] at h; exact SeqAt.EqAt.int_str i t y u _ _ _ _ h
  ·rcases c_C hv with ⟨j,u,rfl,rfl⟩ | ⟨y,u,rfl,rfl⟩
   ·rw [v_o] at h; exact SeqAt.EqAt.str_int x t j u _ _ _ _ h
   ·rw [v_m] at h; exact wpAny_eqBool_str h
 «strs»:=λ k x t v h=>by
  rcases c_C h with ⟨i,u,rfl,e⟩ | ⟨y,u,rfl,e⟩
  ·exact nomatch e
  ·injection e with e1 _;subst e1;cases v <;> rfl
inductive V where
 | non | bl (b:Bool) | int (i:Int) | str (x:Str) | byt (b:Array UInt8) | flt (b:UInt64) | ref (a:Addr) | ty (n:String)
 deriving DecidableEq
noncomputable def RelV:V->Value->Prop
 | .non,u=>u=Value.none
 | .bl b,u=>u=Value.bool b
 | .int i,u=>∃ t,u=Value.int i t
 | .str x,u=>∃ t,u=Value.str x t
 | .byt b,u=>∃ t,u=Value.bytes b t
 | .flt b,u=>∃ t,u=Value.float b t
 | .ref a,u=>u=Value.ref a
 | .ty n,u=>u=Value.type n
noncomputable abbrev Vals:List V->List Value->Prop:=Paired RelV
theorem Vals.length {xs:List V} {us:List Value} (r:Vals xs us):xs.length=us.length:=Paired.length r
theorem Vals.get:∀ {xs:List V} {us:List Value} {i:Nat} {x:V},Vals xs us->xs[i]?=some x->∃ u,us[i]?=some u/\RelV x u
 | _,_,_,_,.nil,e=>by simp at e
 | _,_,0,_,.cons r _,e=>by simp at e; subst e; exact ⟨_,rfl,r⟩
 | _,_,i+1,x,.cons _ t,e=>by
  obtain ⟨u,h1,h2⟩:=Vals.get (i:=i) (x:=x) t (by simpa using e);exact ⟨u,by simpa using h1,h2⟩
theorem Vals.set {x:V} {u:Value} (r:RelV x u):∀ {xs:List V} {us:List Value} (i:Nat),Vals xs us->Vals (xs.set i x) (us.set i u)
 | _,_,_,.nil=>.nil
 | _,_,0,.cons _ t=>.cons r t
 | _,_,i+1,.cons q t=>.cons q (Vals.set r i t)
theorem Vals.append:∀ {xs ys:List V} {us ws:List Value},Vals xs us->Vals ys ws->Vals (xs++ys) (us++ws)
 | _,_,_,_,.nil,s=>s
 | _,_,_,_,.cons r t,s=>.cons r (Vals.append t s)
theorem Vals.take:∀ {xs:List V} {us:List Value} (n:Nat),Vals xs us->Vals (xs.take n) (us.take n)
 | _,_,0,_=>.nil
 | _,_,_+1,.nil=>.nil
 | _,_,n+1,.cons r t=>.cons r (Vals.take n t)
theorem Vals.drop:∀ {xs:List V} {us:List Value} (n:Nat),Vals xs us->Vals (xs.drop n) (us.drop n)
 | _,_,0,r=>r
 | _,_,_+1,.nil=>.nil
 | _,_,n+1,.cons _ t=>Vals.drop n t
theorem Vals.none_of:∀ {xs:List V} {us:List Value} {i:Nat},Vals xs us->xs[i]?=none->us[i]?=none:=λ {xs us i} r e=>by
 have h1:=r.length;have h2:xs.length<=i:=List.getElem?_eq_none_iff.mp e;exact List.getElem?_eq_none_iff.mpr (by omega)
noncomputable def RelO:Option V->Option Value->Prop
 | some v,some u=>RelV v u
 | none,none=>True
 | _,_=>False
noncomputable def KV {κ:Type}:List (κ × V)->List (κ × Value)->Prop:=Paired λ (p:κ × V) (q:κ × Value)=>p.1=q.1/\RelV p.2 q.2
noncomputable def kV:Key->V
 | .inl i=>.int i
 | .inr x=>.str x
inductive HO where
  | lst (xs:List V)
  | tup (xs:List V)
  | dK (kvs:List (Key × V)) | dT (kvs:List (List Key × V))
  | set (S:Int->Bool) (n:Nat)
  | ins (C dx:Addr) (fs:List (Str × V))
  | own (x:Addr)
  | xd (fs:List (Str × V))
  | met (f x:Addr)
  | rng (lo hi:Int)
  | frz (o:Obj) (u:HO)
  | tbl (ps:Array Value)
  | ext (φ:Heap->Prop)
noncomputable abbrev Hp:=Addr->Option HO
noncomputable def upd (H:Hp) (a:Addr) (o:HO):Hp:=λ b=>if b=a then some o else H b
theorem a_F {H:Hp} {a:Addr} {o:HO}:upd H a o a=some o:=by unfold upd; rw [if_pos rfl]
theorem a_I {H:Hp} {a b:Addr} {o:HO} (h:b≠a):upd H a o b=H b:=by unfold upd; rw [if_neg h]
theorem b_z {H:Hp} {a b:Addr} {o:HO} (h:H a=some o) (h':H b=none):a≠b:=by
 intro e; subst e; rw [h] at h'; cases h'
section
variable (P:Program) (w:World)
noncomputable def c_A (H:Hp) (h:Heap) (a:Addr):HO->Prop
 | .lst xs=>xs.length<=sizeLine/\∃ (its:List Value) (n:Nat),Vals xs its/\h.get? a=some { cls:=.type "list",data:=.seq its.toArray n }
 | .tup xs=>xs.length<=sizeLine/\∃ its:List Value,Vals xs its/\IsTup h a its.toArray
 | .dK kvs=>kvs.length<=sizeLine/\(a == sysModules)=false/\∃ vs,KV kvs vs/\h.DictOf (o_c P w) a vs
 | .dT kvs=>kvs.length<=sizeLine/\(a == sysModules)=false/\∃ xs:List (List Key × Addr × Value),
   Paired (λ (p:List Key × V) (q:List Key × Addr × Value)=>p.1=q.1/\H q.2.1=some (.tup (p.1.map kV))/\RelV p.2 q.2.2) kvs xs /\
   ∃ o es ep,h.get? a=some o/\o.ExactDict/\o.data=.dict es ep/\es.toList=xs.map (entryOfKey (tupleKind (o_c P w)))/\(xs.map (·.1)).Nodup
 | .set S n=>h.SetOf (intKind P w) a S n
 | .ins C dx fs=>H dx=some (.own a)/\fs.length<=1000/\dx≠a/\h.get? a=some (PySem.W.instObj C dx) /\
   ∃ mA,h.Ns1 dx mA/\(∀ f,RelO (fs.lookup f) (mA f))/\PySem.Within mA (fs.map (·.1))
 | .own _=>∃ o,h.get? a=some o
 | .xd fs=>∃ mA,h.Ns1 a mA/\∀ f,RelO (fs.lookup f) (mA f)
 | .rng lo hi=>∃ t u v,h.get? a=some { cls:=.type "range",data:=.fields #[.int lo t,.int hi u,.int 1 v] }
 | .frz o u=>h.get? a=some o/\c_A H h a u
 | .tbl ps=>h.get? a=some { cls:=.none,data:=.fields ps }
 | .met f x=>h.get? a=some (PySem.W.methodObj (.ref f) (.ref x))
 | .ext φ=>φ h/\(∃ o,h.get? a=some o)/\∀ h1 h2:Heap,φ h1->(∀ o,h1.get? a=some o->h2.get? a=some o)->φ h2
noncomputable def HOk (H:Hp) (h:Heap):Prop:=∀ a o,H a=some o->c_A P w H h a o
end
section
variable {P:Program} {w:World} {H H':Hp} {h h':Heap} {a:Addr} {o:HO}
theorem c_A.lt (x:c_A P w H h a o):a < h.objs.size:=by
 cases o with
 | lst xs=>obtain ⟨_,_,_,_,e⟩:=x; exact zE e
 | tup xs=>obtain ⟨_,_,_,p⟩:=x; exact p.lt
 | dK kvs=>obtain ⟨_,_,_,_,o,_,_,e,_⟩:=x; exact zE e
 | dT kvs=>obtain ⟨_,_,_,_,o,_,_,e,_⟩:=x; exact zE e
 | set S n=>obtain ⟨o,_,_,_,e,_⟩:=x; exact zE e
 | ins C dx fs=>obtain ⟨_,_,_,e,_⟩:=x; exact zE e
 | own y=>obtain ⟨_,e⟩:=x; exact zE e
 | xd fs=>obtain ⟨_,⟨_,_,_,e,_⟩,_⟩:=x; exact zE e
 | rng lo hi=>obtain ⟨_,_,_,e⟩:=x; exact zE e
 | frz ob u=>obtain ⟨e,_⟩:=x; exact zE e
 | tbl ps=>exact zE (show h.get? a=some _ from x)
 | met f y=>exact zE (show h.get? a=some _ from x)
 | ext φ=>obtain ⟨_,⟨_,e⟩,_⟩:=x; exact zE e
theorem Paired.mapP {α β:Type} {F G:α->β->Prop}:∀ {l₁:List α} {l₂:List β},Paired F l₁ l₂->(∀ a b,F a b->G a b)->Paired G l₁ l₂
 | _,_,.nil,_=>.nil
 | _,_,.cons r t,f=>.cons (f _ _ r) (Paired.mapP t f)
theorem c_A.stay (x:c_A P w H h a o) (k:∀ b u,(b=a\/H b=some (.own a))->h.get? b=some u->h'.get? b=some u)
  (ho:∀ b,H b=some (.own a)->H' b=some (.own a)) (ht:∀ b xs,H b=some (.tup xs)->H' b=some (.tup xs)):c_A P w H' h' a o:=by
 induction o with
 | lst xs=>obtain ⟨z,its,n,r,e⟩:=x; exact ⟨z,its,n,r,k _ _ (.inl rfl) e⟩
 | tup xs=>obtain ⟨z,its,r,ob,e,c⟩:=x; exact ⟨z,its,r,ob,k _ _ (.inl rfl) e,c⟩
 | dK kvs=>obtain ⟨z,y,vs,r,ob,es,ep,e,c⟩:=x; exact ⟨z,y,vs,r,ob,es,ep,k _ _ (.inl rfl) e,c⟩
 | dT kvs =>
  obtain ⟨z,y,xs,r,ob,es,ep,e,c⟩:=x;exact ⟨z,y,xs,Paired.mapP r λ p q z=>⟨z.1,ht _ _ z.2.1,z.2.2⟩,ob,es,ep,k _ _ (.inl rfl) e,c⟩
 | set S n=>obtain ⟨ob,es,ep,t,e,c⟩:=x; exact ⟨ob,es,ep,t,k _ _ (.inl rfl) e,c⟩
 | ins C dx fs =>
  obtain ⟨d,z,ne,e,mA,⟨od,es,ep,e2,c⟩,r⟩:=x;exact ⟨ho _ d,z,ne,k _ _ (.inl rfl) e,mA,⟨od,es,ep,k _ _ (.inr d) e2,c⟩,r⟩
 | own y=>obtain ⟨ob,e⟩:=x; exact ⟨ob,k _ _ (.inl rfl) e⟩
 | xd fs=>obtain ⟨mA,⟨od,es,ep,e,c⟩,r⟩:=x; exact ⟨mA,⟨od,es,ep,k _ _ (.inl rfl) e,c⟩,r⟩
 | rng lo hi=>obtain ⟨t,u,v,e⟩:=x; exact ⟨t,u,v,k _ _ (.inl rfl) e⟩
 | frz ob u ih=>obtain ⟨e,q⟩:=x; exact ⟨k _ _ (.inl rfl) e,ih q⟩
 | tbl ps =>
  have e:h.get? a=some { cls:=.none,data:=.fields ps }:=x;show h'.get? a=some { cls:=.none,data:=.fields ps };exact k a _ (.inl rfl) e
 | met f y =>
  have e:h.get? a=some (PySem.W.methodObj (.ref f) (.ref y)):=x;show h'.get? a=some (PySem.W.methodObj (.ref f) (.ref y));exact k a _ (.inl rfl) e
 | ext φ=>obtain ⟨p,⟨o,e⟩,st⟩:=x; exact ⟨st _ _ p λ o q=>k _ _ (.inl rfl) q,⟨o,k _ _ (.inl rfl) e⟩,st⟩
theorem HOk.lt (x:HOk P w H h) (e:H a=some o):a < h.objs.size:=(x a o e).lt
theorem HOk.fresh (x:HOk P w H h) (e:h.objs.size<=a):H a=none:=by
 cases q:H a with
 | none=>rfl
 | some u=>exact yJ (zI (x.lt q) e) (Nat.lt_irrefl _)
theorem HOk.kept (x:HOk P w H h) (k:∀ b u,h.get? b=some u->h'.get? b=some u):HOk P w H h':=λ a o e =>
 (x a o e).stay (λ b u _ q=>k b u q) (λ _ q=>q) λ _ _ q=>q
theorem HOk.laid (x:HOk P w H h) (k:∀ b u,h.get? b=some u->h'.get? b=some u) (hp:h.objs.size<=a) (new:c_A P w (upd H a o) h' a o):HOk P w (upd H a o) h':=λ b u e=>by
 have hn:=x.fresh hp
 by_cases hb:b=a
 ·subst hb; rw [a_F] at e; cases e; exact new
 ·rw [a_I hb] at e;exact (x b u e).stay (λ c v _ q=>k c v q) (λ c q=>by rw [a_I (b_z q hn)]; exact q) λ c xs q=>by rw [a_I (b_z q hn)]; exact q
end
noncomputable def Rd (H:Hp) (a:Addr) (u:HO):Prop:=H a=some u\/∃ o,H a=some (.frz o u)
theorem Rd.ok {P:Program} {w:World} {H:Hp} {h:Heap} {a:Addr} {u:HO} (r:Rd H a u) (x:HOk P w H h):c_A P w H h a u:=by
 rcases r with r | ⟨o,r⟩
 ·exact x a u r
 ·obtain ⟨_,q⟩:=x a _ r;exact q
noncomputable def Mut:Option HO->Prop
 | some (.lst _)=>True
 | some (.dK _)=>True
 | some (.dT _)=>True
 | some (.set _ _)=>True
 | some (.ins _ _ _)=>True
 | some (.ext _)=>True
 | _=>False
section
variable {P:Program} {w:World} {H:Hp} {h h':Heap} {x e:Addr} {o':HO}
theorem HOk.write (ok:HOk P w H h) (mu:Mut (H x)) (he:e=x\/H e=some (.own x)) (k:∀ b u,b≠e->h.get? b=some u->h'.get? b=some u) (heo:∃ u,h'.get? e=some u)
  (new:c_A P w (upd H x o') h' x o'):HOk P w (upd H x o') h':=λ b u q=>by
 have nown:∀ c y,H c=some (.own y)->c≠x:=λ c y r z=>by subst z; rw [r] at mu; exact mu
 have ntup:∀ c xs,H c=some (.tup xs)->c≠x:=λ c xs r z=>by subst z; rw [r] at mu; exact mu
 by_cases hb:b=x
 ·subst hb; rw [a_F] at q; cases q; exact new
 ·rw [a_I hb] at q
  by_cases hbe:b=e
  ·have q':H b=some (.own x):=by
    rcases he with z | z
    ·exact yJ (hbe.trans z) hb
    ·rw [hbe]; exact z
   rw [q] at q'; cases q';obtain ⟨v,hv⟩:=heo;exact ⟨v,by rw [hbe]; exact hv⟩
  ·refine (ok b u q).stay (λ c v hc r=>k c v ?_ r) (λ c r=>by rw [a_I (nown c b r)]; exact r) λ c xs r=>by rw [a_I (ntup c xs r)]; exact r
   rcases hc with rfl | hc
   ·exact hbe
   ·rintro rfl;rcases he with z | z
    ·exact nown c b hc z
    ·rw [hc] at z; cases z; exact hb rfl
end
structure Un (fs ex:List Addr) (H H':Hp) (h h':Heap):Prop where
 keep:∀ b o,h.get? b=some o->H b=none->b ∉ fs->b ∉ ex->h'.get? b=some o
 slot:∀ b o,h.get? b=some o->H b=none->b∈fs->b ∉ ex->∃ sl,h'.get? b=some { o with slots:=sl }
 free:∀ b o,h.get? b=some o->H b=none->b ∉ ex->H' b=none
 there:∀ b o,h.get? b=some o->b ∉ ex->∃ o',h'.get? b=some o'
 tups:∀ b xs,H b=some (.tup xs)->H' b=some (.tup xs)
 frzs:∀ b o u,H b=some (.frz o u)->H' b=some (.frz o u)
 tbls:∀ b ps,H b=some (.tbl ps)->∃ more,H' b=some (.tbl (ps++more))
section
variable {fs fs' ex ex':List Addr} {H H1 H2:Hp} {h h1 h2 h':Heap} {a x e:Addr} {o:HO}
theorem Un.any (u:Un fs ex H H1 h h1) {b:Addr} {ob:Obj} (q:h.get? b=some ob) (n:H b=none) (hx:b ∉ ex):∃ sl,h1.get? b=some { ob with slots:=sl }:=by
 by_cases hb:b∈fs
 ·exact u.slot b ob q n hb hx
 ·exact ⟨ob.slots,u.keep b ob q n hb hx⟩
theorem Un.trans (a:Un fs ex H H1 h h1) (b:Un fs ex H1 H2 h1 h2):Un fs ex H H2 h h2 where
 keep:=λ c ob q n hc hx=>b.keep c ob (a.keep c ob q n hc hx) (a.free c ob q n hx) hc hx
 slot:=λ c ob q n hc hx=>by
  obtain ⟨sl,e1⟩:=a.slot c ob q n hc hx;obtain ⟨sl',e2⟩:=b.slot c _ e1 (a.free c ob q n hx) hc hx;exact ⟨sl',e2⟩
 free:=λ c ob q n hx=>by
  obtain ⟨o',e1⟩:=a.there c ob q hx;exact b.free c o' e1 (a.free c ob q n hx) hx
 there:=λ c ob q hx=>by
  obtain ⟨o',e1⟩:=a.there c ob q hx;exact b.there c o' e1 hx
 tups:=λ c xs q=>b.tups c xs (a.tups c xs q)
 frzs:=λ c ob xs q=>b.frzs c ob xs (a.frzs c ob xs q)
 tbls:=λ c ps q=>by
  obtain ⟨m1,e1⟩:=a.tbls c ps q;obtain ⟨m2,e2⟩:=b.tbls c _ e1;exact ⟨m1++m2,by rw [e2,Array.append_assoc]⟩
theorem Un.kept (k:∀ b u,h.get? b=some u->h'.get? b=some u):Un fs ex H H h h' :=
 ⟨λ b ob q _ _ _=>k b ob q,λ b ob q _ _ _=>⟨ob.slots,k b ob q⟩,λ _ _ _ n _=>n,λ b ob q _=>⟨ob,k b ob q⟩,λ _ _ q=>q,λ _ _ _ q=>q,λ _ ps q=>⟨#[],by rw [q]; simp⟩⟩
theorem Un.refl:Un fs ex H H h h:=Un.kept λ _ _ q=>q
theorem Un.laid (k:∀ b u,h.get? b=some u->h'.get? b=some u) (hp:h.objs.size<=a) (hn:H a=none):Un fs ex H (upd H a o) h h' where
 keep:=λ b u q _ _ _=>k b u q
 slot:=λ b u q _ _ _=>⟨u.slots,k b u q⟩
 free:=λ b u q n _=>by rw [a_I (Nat.ne_of_lt (zI (zE q) hp))]; exact n
 there:=λ b u q _=>⟨u,k b u q⟩
 tups:=λ b xs q=>by rw [a_I (b_z q hn)]; exact q
 frzs:=λ b u xs q=>by rw [a_I (b_z q hn)]; exact q
 tbls:=λ b ps q=>⟨#[],by rw [a_I (b_z q hn),q]; simp⟩
theorem Un.write (mu:Mut (H x)) (he:e=x\/H e=some (.own x)) (k:∀ b u,b≠e->h.get? b=some u->h'.get? b=some u) (heo:∃ u,h'.get? e=some u):Un fs ex H (upd H x o) h h':=by
 have hx:∀ b,H b=none->b≠x:=λ b n z=>by subst z; rw [n] at mu; exact mu
 have hb:∀ b,H b=none->b≠e:=λ b n z=>by
  subst z;rcases he with r | r
  ·exact hx b n r
  ·rw [n] at r; cases r
 have hm:∀ b u,H b=some u->¬ Mut (some u)->b≠x:=λ b u q nm z=>by subst z; rw [q] at mu; exact nm mu
 refine ⟨λ b u q n _ _=>k b u (hb b n) q,λ b u q n _ _=>⟨u.slots,k b u (hb b n) q⟩,λ b u q n _=>by rw [a_I (hx b n)]; exact n,λ b u q _=>?_,
  λ b xs q=>by rw [a_I (hm b _ q λ z=>z)]; exact q,λ b u xs q=>by rw [a_I (hm b _ q λ z=>z)]; exact q,λ b ps q=>⟨#[],by rw [a_I (hm b _ q λ z=>z),q]; simp⟩⟩
 by_cases hbe:b=e
 ·subst hbe; exact heo
 ·exact ⟨u,k b u hbe q⟩
theorem Un.mono (u:Un fs ex H H1 h h1) (hs:∀ b∈fs,b∈fs') (hx:∀ b∈ex,b∈ex'):Un fs' ex' H H1 h h1 :=
 ⟨λ b ob q n hb he=>u.keep b ob q n (λ z=>hb (hs b z)) λ z=>he (hx b z),λ _ _ q n _ he=>u.any q n λ z=>he (hx _ z),λ b ob q n he=>u.free b ob q n λ z=>he (hx b z),λ b ob q he=>u.there b ob q λ z=>he (hx b z),u.tups,u.frzs,u.tbls⟩
end
noncomputable def trk (h:Heap) (H:Hp):List Addr:=(List.range h.objs.size).filter λ a=>(H a).isSome
noncomputable def hidT (h:Heap) (H:Hp):Heap:=PySem.W.hideAll h (trk h H)
theorem p_m (h:Heap) (H:Hp):(hidT h H).objs.size=h.objs.size:=PySem.W.hideAll_size _ _
theorem q_I {h:Heap} {H:Hp} {b:Addr} {o:Obj} (e:h.get? b=some o) (n:H b=none):(hidT h H).get? b=some o :=
 PySem.W.hideAll_get _ e λ hm=>by
  have q:(H b).isSome=true:=(List.mem_filter.mp hm).2;rw [n] at q; simp at q
theorem t_F {h:Heap} {H:Hp} {b:Addr} {o:Obj} (e:(hidT h H).get? b=some o):h.get? b=some o/\H b=none:=by
 have e':h.get? b=some o:=PySem.W.of_hideAll (trk h H) e;refine ⟨e',?_⟩;cases q:H b with
 | none=>rfl
 | some x =>
  have hm:b∈trk h H:=List.mem_filter.mpr ⟨List.mem_range.mpr (zE e'),by simp [q]⟩;have z:(hidT h H).get? b=none:=PySem.W.hideAll_none (trk h H) hm;rw [z] at e; cases e
noncomputable def t_G (g h:Heap) (L:Addr):List (Addr × Obj):=(List.range h.objs.size).filterMap λ a=>if a=L\/(g.get? a).isSome=true then none else (h.get? a).map λ o=>(a,o)
noncomputable def rest (g h:Heap) (L d:Addr):List (Addr × Obj):=(t_G g h L).filter λ p=>decide (p.1≠d)
structure Mod (K:Frag) (mg:Str->Option Value) (base:Heap):Prop where
 kin:K.In base
 glob:base.Ns mainGlobals mg
 blt:∃ mb,base.Ns builtinsNs mb/\∀ x:Str,x ≠ "__name__" -> mb x=bootBuiltins x
 nolimit:base.NoLimit
structure Cx where
 prog:Program
 w:World
 K:Frag
 mg:Str->Option Value
 base:Heap
 A:Around
 N:List Str
 s₀:Shared
 H₀:Hp
 env:Env
 outer:List Env
 stack:List Env
 ex:List Addr
 fn:Str->Bool
 calm:Bool
 pn:List (Addr × Obj)
 xe:Value->Shared->Prop
noncomputable def frs (l:List Env):List Addr:=l.filterMap (·.frame)
noncomputable abbrev Cx.fs (X:Cx):List Addr:=frs X.outer
noncomputable def Vis (sc:Scope) (x:Str):Prop:=sc.names.lookup x=some .local\/sc.names.lookup x=some .cell\/sc.names.lookup x=some .free
noncomputable def Loc (sc:Scope) (x:Str):Prop:=sc.names.lookup x=some .local\/sc.names.lookup x=some .cell
noncomputable def Look (env:Env) (h:Heap) (m:Str->Option Value) (x:Str) (u:Value):Prop :=
 (env.kindOf x=some .local/\m x=some u)\/((env.kindOf x=some .cell\/env.kindOf x=some .free)/\∃ c,env.cells.lookup x=some c/\h.IsCell c (some u))
structure Cx.Ok (X:Cx):Prop where
 mod:Mod X.K X.mg X.base
 kind:X.env.scope.kind=.function
 glob:X.env.globals=mainGlobals
 blt:X.env.builtins=builtinsNs
 above:X.s₀.heap.objs.size<=X.env.locals
 inj:∀ x y c,X.env.cells.lookup x=some c->X.env.cells.lookup y=some c->x=y
 has:∀ x,(X.env.kindOf x=some .cell\/X.env.kindOf x=some .free)->∃ c,X.env.cells.lookup x=some c
 cab:∀ x c,X.fn x=true->X.env.cells.lookup x=some c->X.s₀.heap.objs.size<=c
 hd:X.calm=true->X.A.handled=none
 frames:X.A.frames=some X.stack
 stk:X.stack=X.outer\/(X.stack=X.env :: X.outer/\X.env.frame=some X.env.locals)
 exf:∀ b∈X.ex,b≠X.env.locals/\∀ x c,X.env.cells.lookup x=some c->c≠b
 bs:∀ b o,X.base.get? b=some o->X.s₀.heap.get? b=some o/\X.H₀ b=none
 bsz:X.base.objs.size<=X.s₀.heap.objs.size
 noex:∀ b o,X.base.get? b=some o->b ∉ X.ex
 exfs:∀ b∈X.ex,b ∉ X.fs
 funs:X.s₀.heap.FunFrames X.base X.outer
 frf:∀ b∈X.fs,X.H₀ b=none
structure Inv (X:Cx) (pins:List (Addr × Obj)) (σ:List (Option V)) (H:Hp) (s:Shared):Prop where
 ok:X.Ok
 os:s.os=X.s₀.os
 bare:AllBare s.gens
 base:Un X.fs X.ex X.H₀ H X.s₀.heap s.heap
 loc:∃ m,s.heap.Ns X.env.locals m/\∀ (i:Nat) (x:Str) (v:V),X.N[i]?=some x->σ[i]?=some (some v)->Vis X.env.scope x->∃ u,RelV v u/\Look X.env s.heap m x u
 cell:∀ x c,X.env.cells.lookup x=some c->∃ v,s.heap.IsCell c v
 free:H X.env.locals=none
 freeC:∀ x c,X.env.cells.lookup x=some c->H c=none
 pin:∀ p∈X.pn++pins,s.heap.get? p.1=some p.2/\H p.1=none/\p.1≠X.env.locals/\p.1 ∉ X.fs/\∀ v,p.2.data≠.cell v
 hok:HOk X.prog X.w H s.heap
 len:σ.length=X.N.length
section
variable {X:Cx} {pins:List (Addr × Obj)} {σ:List (Option V)} {H H':Hp} {s:Shared} {h':Heap}
theorem Cx.Ok.nofr (ok:X.Ok) {b:Addr} {o:Obj} (e:X.base.get? b=some o):b ∉ X.fs:=λ hb=>by
 have:=(ok.funs.mem hb).1;rw [e] at this; cases this
theorem Inv.bs (I:Inv X pins σ H s):∀ b o,X.base.get? b=some o->s.heap.get? b=some o/\H b=none:=λ b o e =>
 ⟨I.base.keep b o (I.ok.bs b o e).1 (I.ok.bs b o e).2 (I.ok.nofr e) (I.ok.noex b o e),I.base.free b o (I.ok.bs b o e).1 (I.ok.bs b o e).2 (I.ok.noex b o e)⟩
theorem Inv.bk (I:Inv X pins σ H s):∀ b o,X.base.get? b=some o->s.heap.get? b=some o:=λ b o e=>(I.bs b o e).1
theorem Inv.mod (I:Inv X pins σ H s):Mod X.K X.mg X.base:=I.ok.mod
theorem Inv.kIn (I:Inv X pins σ H s):X.K.In s.heap:=I.ok.mod.kin.keeps I.bk
theorem Inv.nolimit (I:Inv X pins σ H s):s.heap.NoLimit:=I.ok.mod.nolimit.keeps I.bk
theorem Inv.fr (I:Inv X pins σ H s):∃ m,Fr X.base X.env.locals s.heap m :=
 let ⟨m,hn,_⟩:=I.loc
 ⟨m,hn,I.bk,zS I.ok.bsz I.ok.above⟩
theorem Inv.lt (I:Inv X pins σ H s):X.env.locals < s.heap.objs.size:=let ⟨_,hn,_⟩:=I.loc; hn.lt
theorem Inv.sz (I:Inv X pins σ H s):X.s₀.heap.objs.size<=s.heap.objs.size:=zS I.ok.above (Nat.le_of_lt I.lt)
theorem Inv.nofs (I:Inv X pins σ H s) {a:Addr} (h:s.heap.objs.size<=a):a ∉ X.fs:=λ hb=>by
 obtain ⟨_,o,ho,_⟩:=I.ok.funs.mem hb;exact yJ (zI (zE ho) (zS I.sz h)) (Nat.lt_irrefl _)
theorem Inv.cne (I:Inv X pins σ H s):∀ x c,X.env.cells.lookup x=some c->c≠X.env.locals:=λ x c e z=>by
 obtain ⟨v,o,ho,hd⟩:=I.cell x c e;obtain ⟨m,⟨o',es,ep,ho',hd',_⟩,_⟩:=I.loc;rw [z,ho'] at ho; cases ho; rw [hd'] at hd; cases hd
theorem Inv.funs (I:Inv X pins σ H s):s.heap.FunFrames X.base X.outer:=by
 have all:∀ (l:List Env),(∀ b∈frs l,b∈X.fs)->X.s₀.heap.FunFrames X.base l->s.heap.FunFrames X.base l:=by
  intro l
  induction l with
  | nil=>intro _ _; trivial
  | cons env r ih =>
   intro hs hl;obtain ⟨hk,⟨L,o,hf,hn,ho,hd⟩,hr⟩:=hl;have hL:L∈X.fs:=hs L (by unfold frs; rw [List.filterMap_cons,hf]; exact zU);obtain ⟨sl,e⟩:=I.base.slot L o ho (I.ok.frf L hL) hL λ z=>I.ok.exfs L z hL;exact ⟨hk,⟨L,_,hf,hn,e,hd⟩,ih (λ b hb=>hs b (by unfold frs; rw [List.filterMap_cons,hf]; exact zN _ hb)) hr⟩
 exact all X.outer (λ _ hb=>hb) I.ok.funs
theorem Inv.stack (I:Inv X pins σ H s):s.heap.FunFrames X.base X.stack:=by
 rcases I.ok.stk with e | ⟨e,hf⟩
 ·rw [e]; exact I.funs
 ·rw [e];obtain ⟨m,hn,_⟩:=I.loc;refine .cons (by rw [I.ok.kind]; decide) hf hn ?_ I.funs;exact Heap.get?_none_of_le (zS I.ok.bsz I.ok.above)
theorem Inv.stkSub (I:Inv X pins σ H s):∀ b∈frs X.stack,b∈X.env.locals :: X.fs:=λ b hb=>by
 rcases I.ok.stk with e | ⟨e,hf⟩
 ·rw [e] at hb; exact zN _ hb
 ·rw [e] at hb;unfold frs at hb;rw [List.filterMap_cons,hf] at hb;exact hb
theorem Inv.stkFree (I:Inv X pins σ H s):∀ b∈frs X.stack,H b=none:=λ b hb=>by
 rcases List.mem_cons.mp (I.stkSub b hb) with e | hb
 ·rw [e]; exact I.free
 ·obtain ⟨_,o,ho,_⟩:=I.ok.funs.mem hb;exact I.base.free b o ho (I.ok.frf b hb) λ z=>I.ok.exfs b z hb
theorem Inv.step {g':Array GenState} {t':Nat} {d':Drawn} {ch:List Addr} (I:Inv X pins σ H s)
  (hch:∀ b∈ch,(b∈X.ex\/X.s₀.heap.objs.size<=b)/\b≠X.env.locals/\(∀ x c,X.env.cells.lookup x=some c->c≠b)/\∀ p∈X.pn++pins,p.1≠b)
  (keep:∀ b o,b≠X.env.locals->b ∉ X.fs->b ∉ ch->s.heap.get? b=some o->H b=none->h'.get? b=some o)
  (slot:∀ b o,b≠X.env.locals->b∈X.fs->b ∉ ch->s.heap.get? b=some o->H b=none->∃ sl,h'.get? b=some { o with slots:=sl }) (free:∀ b o,b ∉ ch->s.heap.get? b=some o->H b=none->H' b=none)
  (there:∀ b o,b ∉ ch->s.heap.get? b=some o->∃ o',h'.get? b=some o')
  (tups:∀ b xs,H b=some (.tup xs)->H' b=some (.tup xs)) (frzs:∀ b o u,H b=some (.frz o u)->H' b=some (.frz o u)) (tbls:∀ b ps,H b=some (.tbl ps)->∃ more,H' b=some (.tbl (ps++more)))
  (ns:∀ m,s.heap.Ns X.env.locals m->h'.Ns X.env.locals m) (hok:HOk X.prog X.w H' h') (hg:AllBare g') :
  Inv X pins σ H' { s with heap:=h',gens:=g',drawn:=d',toks:=t' }:=by
 have neL:∀ b o,X.s₀.heap.get? b=some o->b≠X.env.locals:=λ b o e=>Nat.ne_of_lt (zI (zE e) I.ok.above);have neC:∀ b o,X.s₀.heap.get? b=some o->b ∉ X.ex->b ∉ ch:=λ b o e hx hb=>by
  rcases (hch b hb).1 with z | z
  ·exact hx z
  ·exact yJ (zI (zE e) z) (Nat.lt_irrefl _)
 have cellK:∀ x c,X.env.cells.lookup x=some c->∀ v,s.heap.IsCell c v->h'.IsCell c v:=λ x c e v ⟨o,ho,hd⟩=>by
  have nch:c ∉ ch:=λ z=>(hch c z).2.2.1 x c e rfl
  by_cases hc:c∈X.fs
  ·obtain ⟨sl,q⟩:=slot c o (I.cne x c e) hc nch ho (I.freeC x c e);exact ⟨_,q,hd⟩
  ·exact ⟨o,keep c o (I.cne x c e) hc nch ho (I.freeC x c e),hd⟩
 refine ⟨I.ok,I.os,hg,⟨λ b o e n hb hx=>?_,λ b o e n hb hx=>?_,λ b o e n hx=>?_,λ b o e hx=>?_,λ b xs e=>tups b xs (I.base.tups b xs e),λ b o xs e=>frzs b o xs (I.base.frzs b o xs e),λ b ps e=>?_⟩,?_,λ x c e=>?_,?_,λ x c e=>?_,λ p hp=>?_,hok,I.len⟩
 ·exact keep b o (neL b o e) hb (neC b o e hx) (I.base.keep b o e n hb hx) (I.base.free b o e n hx)
 ·obtain ⟨sl,e1⟩:=I.base.slot b o e n hb hx;obtain ⟨sl',e2⟩:=slot b _ (neL b o e) hb (neC b o e hx) e1 (I.base.free b o e n hx);exact ⟨sl',e2⟩
 ·obtain ⟨o',e1⟩:=I.base.there b o e hx;exact free b o' (neC b o e hx) e1 (I.base.free b o e n hx)
 ·obtain ⟨o',e1⟩:=I.base.there b o e hx;exact there b o' (neC b o e hx) e1
 ·obtain ⟨m1,e1⟩:=I.base.tbls b ps e;obtain ⟨m2,e2⟩:=tbls b _ e1;exact ⟨m1++m2,by rw [e2,Array.append_assoc]⟩
 ·obtain ⟨m,hn,hl⟩:=I.loc;refine ⟨m,ns m hn,λ i x v e1 e2 e3=>?_⟩;obtain ⟨u,r,l⟩:=hl i x v e1 e2 e3;refine ⟨u,r,?_⟩;rcases l with l | ⟨k,c,e,z⟩
  ·exact .inl l
  ·exact .inr ⟨k,c,e,cellK x c e _ z⟩
 ·obtain ⟨v,z⟩:=I.cell x c e;exact ⟨v,cellK x c e v z⟩
 ·obtain ⟨m,⟨o,_,_,ho,_⟩,_⟩:=I.loc;exact free _ o (λ z=>(hch _ z).2.1 rfl) ho I.free
 ·obtain ⟨v,o,ho,hd⟩:=I.cell x c e;exact free c o (λ z=>(hch c z).2.2.1 x c e rfl) ho (I.freeC x c e)
 ·obtain ⟨e,n,ne,nf,d⟩:=I.pin p hp;have nch:p.1 ∉ ch:=λ z=>(hch p.1 z).2.2.2 p hp rfl;exact ⟨keep p.1 p.2 ne nf nch e n,free p.1 p.2 nch e n,ne,nf,d⟩
theorem Inv.un {t':Nat} (I:Inv X pins σ H s) (u:Un X.fs [] H H' s.heap h') (hok:HOk X.prog X.w H' h'):Inv X pins σ H' { s with heap:=h',toks:=t' }:=by
 obtain ⟨m,⟨o,es,ep,ho,r⟩,_⟩:=id I.loc;obtain ⟨sl,hL⟩:=u.any ho I.free (by simp);exact I.step (g':=s.gens) (d':=s.drawn) (ch:=[]) (λ _ z=>nomatch z) (λ b o _ hb _ e n=>u.keep b o e n hb (by simp)) (λ b o _ hb _ e n=>u.slot b o e n hb (by simp)) (λ b o _ e n=>u.free b o e n (by simp)) (λ b o _ e=>u.there b o e (by simp)) u.tups u.frzs u.tbls (λ m' hm=>by
  obtain ⟨o',es',ep',ho',r'⟩:=hm;rw [ho] at ho'; cases ho';exact ⟨_,es',ep',hL,r'⟩) hok I.bare
theorem Inv.call {g':Array GenState} {t':Nat} {d':Drawn} {ch:List Addr} (I:Inv X pins σ H s) (u:Un (frs X.stack) ch H H' s.heap h') (hok:HOk X.prog X.w H' h') (hg:AllBare g')
  (hch:∀ b∈ch,(b∈X.ex\/X.s₀.heap.objs.size<=b)/\b≠X.env.locals/\(∀ x c,X.env.cells.lookup x=some c->c≠b)/\∀ p∈X.pn++pins,p.1≠b) :
  Inv X pins σ H' { s with heap:=h',gens:=g',drawn:=d',toks:=t' }:=by
 obtain ⟨m,⟨o,es,ep,ho,r⟩,_⟩:=id I.loc;obtain ⟨sl,hL⟩:=u.any ho I.free λ z=>(hch _ z).2.1 rfl;exact I.step (ch:=ch) hch (λ b o hL hb hc e n=>u.keep b o e n (λ z=>(List.mem_cons.mp (I.stkSub b z)).elim hL hb) hc) (λ b o _ _ hc e n=>u.any e n hc) (λ b o hc e n=>u.free b o e n hc) (λ b o hc e=>u.there b o e hc) u.tups u.frzs u.tbls (λ m' hm=>by
  obtain ⟨o',es',ep',ho',r'⟩:=hm;rw [ho] at ho'; cases ho';exact ⟨_,es',ep',hL,r'⟩) hok hg
theorem Inv.turned {t':Nat} {it:Addr} (I:Inv X pins σ H s) (k:∀ b o,b≠it->s.heap.get? b=some o->h'.get? b=some o) (hn:H it=none) (hL:it≠X.env.locals)
  (h1:it∈X.ex\/X.s₀.heap.objs.size<=it) (h2:∀ x c,X.env.cells.lookup x=some c->c≠it) (h3:∀ p∈X.pn++pins,p.1≠it):Inv X pins σ H { s with heap:=h',toks:=t' }:=by
 have nit:∀ b u,H b=some u->b≠it:=λ b u e z=>by rw [z,hn] at e; cases e
 refine I.step (g':=s.gens) (d':=s.drawn) (ch:=[it]) (λ b hb=>?_) (λ b o _ _ hc e _=>k b o (λ z=>hc (by simp [z])) e) (λ b o _ _ hc e _=>⟨o.slots,k b o (λ z=>hc (by simp [z])) e⟩) (λ _ _ _ _ n=>n)
  (λ b o hc e=>⟨o,k b o (λ z=>hc (by simp [z])) e⟩) (λ _ _ e=>e) (λ _ _ _ e=>e) (λ b ps e=>⟨#[],by rw [e]; simp⟩) (λ m hm=>?_) (λ b u e=>?_) I.bare
 ·have e:b=it:=by simpa using hb
  subst e;exact ⟨h1,hL,h2,h3⟩
 ·obtain ⟨o,es,ep,ho,r⟩:=hm;exact ⟨o,es,ep,k _ o (Ne.symm hL) ho,r⟩
 ·refine (I.hok b u e).stay (λ c v hc q=>k c v ?_ q) (λ _ q=>q) λ _ _ q=>q;rcases hc with z | z
  ·rw [z]; exact nit b u e
  ·exact nit c _ z
theorem Inv.tok (I:Inv X pins σ H s) (t:Nat):Inv X pins σ H { s with toks:=t }:=I.un (h':=s.heap) (t':=t) Un.refl I.hok
theorem Inv.kept {t':Nat} (I:Inv X pins σ H s) (k:∀ b u,s.heap.get? b=some u->h'.get? b=some u):Inv X pins σ H { s with heap:=h',toks:=t' }:=I.un (Un.kept k) (I.hok.kept k)
theorem Inv.laid {a:Addr} {o:HO} {t':Nat} (I:Inv X pins σ H s) (k:∀ b u,s.heap.get? b=some u->h'.get? b=some u) (hp:s.heap.objs.size<=a) (new:c_A X.prog X.w (upd H a o) h' a o) :
  Inv X pins σ (upd H a o) { s with heap:=h',toks:=t' }:=I.un (Un.laid k hp (I.hok.fresh hp)) (I.hok.laid k hp new)
theorem Inv.write {x e:Addr} {o:HO} {t':Nat} (I:Inv X pins σ H s) (mu:Mut (H x)) (he:e=x\/H e=some (.own x)) (k:∀ b u,b≠e->s.heap.get? b=some u->h'.get? b=some u) (heo:∃ u,h'.get? e=some u)
  (new:c_A X.prog X.w (upd H x o) h' x o):Inv X pins σ (upd H x o) { s with heap:=h',toks:=t' }:=I.un (Un.write mu he k heo) (I.hok.write mu he k heo new)
theorem Inv.weak {σ':List (Option V)} (I:Inv X pins σ H s) (hl:σ'.length=σ.length) (w:∀ (i:Nat) v,σ'[i]?=some (some v)->σ[i]?=some (some v)):Inv X pins σ' H s :=
 ⟨I.ok,I.os,I.bare,I.base,let ⟨m,hn,hl'⟩:=I.loc; ⟨m,hn,λ i x v e1 e2 e3=>hl' i x v e1 (w i v e2) e3⟩,I.cell,I.free,I.freeC,I.pin,I.hok,hl.trans I.len⟩
theorem Inv.pins_of {pins':List (Addr × Obj)} (I:Inv X pins σ H s) (h:∀ p∈pins',s.heap.get? p.1=some p.2/\H p.1=none/\p.1≠X.env.locals/\p.1 ∉ X.fs/\∀ v,p.2.data≠.cell v):Inv X pins' σ H s :=
 ⟨I.ok,I.os,I.bare,I.base,I.loc,I.cell,I.free,I.freeC,λ p hp=>(List.mem_append.mp hp).elim (λ z=>I.pin p (List.mem_append_left _ z)) (h p),I.hok,I.len⟩
theorem h_T {N:List Str} (hN:N.Nodup) {i j:Nat} {x:Str} (a:N[i]?=some x) (b:N[j]?=some x):i=j:=by
 obtain ⟨h1,e1⟩:=List.getElem?_eq_some_iff.mp a;obtain ⟨h2,e2⟩:=List.getElem?_eq_some_iff.mp b;exact (List.getElem_inj hN).mp (e1.trans e2.symm)
theorem i_X {M:Model} {A:Around} {E:Value->Shared->Prop} {i:Nat} {x:Str} {v:V} {u:Value} {Q:Unit->Shared->Prop} (I:Inv X pins σ H s) (hN:X.N.Nodup) (hi:X.N[i]?=some x) (hx:Loc X.env.scope x) (r:RelV v u)
  (h:∀ s',Inv X pins (σ.set i (some v)) H s'->(∃ a,Heap.SameBut a s.heap s'.heap/\(a=X.env.locals\/X.env.cells.lookup x=some a))->Q () s') (hf:X.fn x=true\/X.env.scope.names.lookup x=some .local:=by first | exact .inl rfl | exact .inr rfl | assumption):wpAny M A (storeName X.env x u) Q E s:=by
 obtain ⟨m,hn,hl⟩:=id I.loc;have hcls:(X.env.scope.kind == .class || (X.env.scope.kind == .module && X.env.locals != X.env.globals))=false:=by rw [I.ok.kind]; rfl
 have hiσ:i < σ.length:=by rw [I.len]; exact (List.getElem?_eq_some_iff.mp hi).1
 have cne:=I.cne;have tracked:∀ {a:Addr} {h':Heap},(∃ o,s.heap.get? a=some o/\H a=none)->Heap.SameBut a s.heap h'->HOk X.prog X.w H h':=λ {a h'} ha hs b ob e=>by
  obtain ⟨_,_,hfree⟩:=ha;refine (I.hok b ob e).stay (λ c w' hc q=>(hs.2 c ?_).trans q) (λ _ q=>q) λ _ _ q=>q;rintro rfl;rcases hc with rfl | hc
  ·rw [hfree] at e; cases e
  ·rw [hfree] at hc; cases hc
 rcases hx with hk | hk
 ·refine wpAny_storeName_local hk hn (λ h' hn' hs=>?_) hcls;obtain ⟨oL,_,_,hoL,_⟩:=id hn;refine h _ ⟨I.ok,I.os,I.bare,⟨λ b o e n hb hx=>?_,λ b o e n hb hx=>?_,I.base.free,λ b o e hx=>?_,I.base.tups,I.base.frzs,I.base.tbls⟩,⟨_,hn',λ j y v' e1 e2 e3=>?_⟩,λ y c e=>?_,I.free,I.freeC,λ p hp=>?_,tracked ⟨oL,hoL,I.free⟩ hs,by simpa using I.len⟩ ⟨_,hs,.inl rfl⟩
  ·exact (hs.2 b (Nat.ne_of_lt (zI (zE e) I.ok.above))).trans (I.base.keep b o e n hb hx)
  ·obtain ⟨sl,e1⟩:=I.base.slot b o e n hb hx;exact ⟨sl,(hs.2 b (Nat.ne_of_lt (zI (zE e) I.ok.above))).trans e1⟩
  ·obtain ⟨o',e1⟩:=I.base.there b o e hx;exact ⟨o',(hs.2 b (Nat.ne_of_lt (zI (zE e) I.ok.above))).trans e1⟩
  ·by_cases hj:j=i
   ·subst hj;rw [hi] at e1; cases e1;rw [zP hiσ] at e2;cases e2;exact ⟨u,r,.inl ⟨hk,by simp⟩⟩
   ·rw [zQ (Ne.symm hj)] at e2;obtain ⟨u',r',q⟩:=hl j y v' e1 e2 e3;refine ⟨u',r',?_⟩;rcases q with ⟨k,e⟩ | ⟨k,c,e,z⟩
    ·refine .inl ⟨k,?_⟩;have:y≠x:=λ e=>hj (h_T hN e1 (e ▸ hi));simp [this,e]
    ·exact .inr ⟨k,c,e,z.sameBut hs (cne y c e)⟩
  ·obtain ⟨w',z⟩:=I.cell y c e;exact ⟨w',z.sameBut hs (cne y c e)⟩
  ·obtain ⟨e,n,ne,nf,d⟩:=I.pin p hp;exact ⟨(hs.2 p.1 ne).trans e,n,ne,nf,d⟩
 ·have hfn:X.fn x=true:=by
   rcases hf with z | z
   ·exact z
   ·rw [z] at hk; cases hk
  obtain ⟨c,hc⟩:=I.ok.has x (.inl hk);obtain ⟨w',z⟩:=I.cell x c hc;refine wpAny_storeName_cell I.ok.kind hk hc z (λ h' hc' hs=>?_);obtain ⟨oc,hoc,hocd⟩:=id z;refine h { s with heap:=h' } ⟨I.ok,I.os,I.bare,⟨λ b o e n hb hx=>?_,λ b o e n hb hx=>?_,I.base.free,λ b o e hx=>?_,I.base.tups,I.base.frzs,I.base.tbls⟩,⟨m,hn.sameBut hs (Ne.symm (cne x c hc)),λ j y v' e1 e2 e3=>?_⟩,λ y c' e=>?_,I.free,I.freeC,λ p hp=>?_,tracked ⟨oc,hoc,I.freeC x c hc⟩ hs,by simpa using I.len⟩ ⟨c,hs,.inr hc⟩
  ·exact (hs.2 b (Nat.ne_of_lt (zI (zE e) (I.ok.cab x c hfn hc)))).trans (I.base.keep b o e n hb hx)
  ·obtain ⟨sl,e1⟩:=I.base.slot b o e n hb hx;exact ⟨sl,(hs.2 b (Nat.ne_of_lt (zI (zE e) (I.ok.cab x c hfn hc)))).trans e1⟩
  ·obtain ⟨o',e1⟩:=I.base.there b o e hx;exact ⟨o',(hs.2 b (Nat.ne_of_lt (zI (zE e) (I.ok.cab x c hfn hc)))).trans e1⟩
  ·by_cases hj:j=i
   ·subst hj;rw [hi] at e1; cases e1;rw [zP hiσ] at e2;cases e2;exact ⟨u,r,.inr ⟨.inl hk,c,hc,hc'⟩⟩
   ·rw [zQ (Ne.symm hj)] at e2;obtain ⟨u',r',q⟩:=hl j y v' e1 e2 e3;refine ⟨u',r',?_⟩;rcases q with q | ⟨k,c',e,z'⟩
    ·exact .inl q
    ·refine .inr ⟨k,c',e,z'.sameBut hs ?_⟩;rintro rfl;exact hj (h_T hN e1 (I.ok.inj _ _ _ e hc ▸ hi))
  ·by_cases hcc:c'=c
   ·subst hcc; exact ⟨_,hc'⟩
   ·obtain ⟨w2,z2⟩:=I.cell y c' e;exact ⟨w2,z2.sameBut hs hcc⟩
  ·obtain ⟨e,n,ne,nf,d⟩:=I.pin p hp;refine ⟨(hs.2 p.1 ?_).trans e,n,ne,nf,d⟩;intro q;rw [q,hoc] at e;have q':oc=p.2:=zT e;exact d w' (by rw [← q']; exact hocd)
theorem d_M {M:Model} {A:Around} {E:Value->Shared->Prop} {i:Nat} {x:Str} {v:V} {u:Value} {Q:Unit->Shared->Prop} (I:Inv X pins σ H s) (hN:X.N.Nodup) (hi:X.N[i]?=some x) (hx:Loc X.env.scope x) (r:RelV v u)
  (h:∀ s',Inv X pins (σ.set i (some v)) H s'->Q () s') (hf:X.fn x=true\/X.env.scope.names.lookup x=some .local:=by first | exact .inl rfl | exact .inr rfl | assumption):wpAny M A (storeName X.env x u) Q E s :=
 i_X I hN hi hx r (λ s' I' _=>h s' I') hf
theorem Inv.call' {s':Shared} {ch:List Addr} (I:Inv X pins σ H s) (ho:s'.os=s.os) (u:Un (frs X.stack) ch H H' s.heap s'.heap) (hok:HOk X.prog X.w H' s'.heap) (hg:AllBare s'.gens)
  (hch:∀ b∈ch,(b∈X.ex\/X.s₀.heap.objs.size<=b)/\b≠X.env.locals/\(∀ x c,X.env.cells.lookup x=some c->c≠b)/\∀ p∈X.pn++pins,p.1≠b):Inv X pins σ H' s':=by
 obtain ⟨h',g',d',t',o'⟩:=s';have e:o'=s.os:=ho;subst e;exact I.call (g':=g') (t':=t') (d':=d') u hok hg hch
end
noncomputable abbrev XK:=Value->Option Addr->Hp->Prop
noncomputable abbrev St:=List (Option V)
noncomputable abbrev VK:=V->Hp->Prop
noncomputable abbrev TE:=St->Hp->VK->Prop
noncomputable abbrev TT:=St->Hp->(Bool->Hp->Prop)->Prop
noncomputable abbrev TA:=St->Hp->(List V->Hp->Prop)->Prop
structure Ends where
 nx:St->Hp->Prop
 rt:VK
 bk:St->Hp->Prop:=λ _ _=>False
 ct:St->Hp->Prop:=λ _ _=>False
noncomputable abbrev TS:=Ends->St->Hp->Prop
noncomputable def EP (X:Cx) (pins:List (Addr × Obj)) (σ:St) (Q:VK) (u:Value) (s':Shared):Prop:=∃ v H',Inv X pins σ H' s'/\RelV v u/\Q v H'
noncomputable def TP (X:Cx) (pins:List (Addr × Obj)) (σ:St) (Q:Bool->Hp->Prop) (b:Bool) (s':Shared):Prop:=∃ H',Inv X pins σ H' s'/\Q b H'
noncomputable def AP (X:Cx) (pins:List (Addr × Obj)) (σ:St) (Q:List V->Hp->Prop) (us:List Value) (s':Shared):Prop:=∃ vs H',Inv X pins σ H' s'/\Vals vs us/\Q vs H'
noncomputable def SP (X:Cx) (pins:List (Addr × Obj)) (D:Ends) (f:Flow) (s':Shared):Prop :=
 match f with
 | .next=>∃ σ' H',Inv X pins σ' H' s'/\D.nx σ' H'
 | .brk=>∃ σ' H',Inv X pins σ' H' s'/\D.bk σ' H'
 | .cont=>∃ σ' H',Inv X pins σ' H' s'/\D.ct σ' H'
 | .ret u=>∃ v σ' H',Inv X pins σ' H' s'/\RelV v u/\D.rt v H'
noncomputable def PE (X:Cx) (e:Expr) (t:TE):Prop :=
 ∀ (pins:List (Addr × Obj)) (s:Shared) (σ:St) (H:Hp) (Q:VK),Inv X pins σ H s->t σ H Q->wpAny (model X.prog X.w) X.A (eval e X.env) (EP X pins σ Q) X.xe s
noncomputable def PT (X:Cx) (e:Expr) (t:TT):Prop :=
 ∀ (pins:List (Addr × Obj)) (s:Shared) (σ:St) (H:Hp) (Q:Bool->Hp->Prop),Inv X pins σ H s->t σ H Q->wpAny (model X.prog X.w) X.A (isTrue e X.env (eval e X.env)) (TP X pins σ Q) X.xe s
noncomputable def PW (X:Cx) (e:Expr) (t:TT):Prop :=
 ∀ (whole:Sem Value) (pins:List (Addr × Obj)) (s:Shared) (σ:St) (H:Hp) (Q:Bool->Hp->Prop),Inv X pins σ H s->t σ H Q->wpAny (model X.prog X.w) X.A (isTrue e X.env whole) (TP X pins σ Q) X.xe s
theorem PW.pt {X:Cx} {e:Expr} {t:TT} (h:PW X e t):PT X e t:=h _
noncomputable def PA (X:Cx) (es:List Expr) (t:TA):Prop :=
 ∀ (pos:Pos) (pins:List (Addr × Obj)) (s:Shared) (σ:St) (H:Hp) (Q:List V->Hp->Prop),Inv X pins σ H s->t σ H Q->wpAny (model X.prog X.w) X.A (spliced (backTo pos (starEach es X.env))) (AP X pins σ Q) X.xe s
noncomputable def PS (X:Cx) (st:Stmt) (t:TS):Prop :=
 ∀ (pins:List (Addr × Obj)) (s:Shared) (σ:St) (H:Hp) (D:Ends),Inv X pins σ H s->t D σ H->wpAny (model X.prog X.w) X.A (exec st X.env) (SP X pins D) X.xe s
noncomputable def PSs (X:Cx) (st:List Stmt) (t:TS):Prop :=
 ∀ (pins:List (Addr × Obj)) (s:Shared) (σ:St) (H:Hp) (D:Ends),Inv X pins σ H s->t D σ H->wpAny (model X.prog X.w) X.A (execs st X.env) (SP X pins D) X.xe s
theorem thn {α:Type} {t:Sem α} {Q Q':α->Shared->Prop} {M:Model} {A:Around} {E:Value->Shared->Prop} {s:Shared} (h:wpAny M A t Q E s) (hQ:∀ a s,Q a s->Q' a s):wpAny M A t Q' E s:=zC h hQ λ _ _ x=>x
section
variable {X:Cx}
noncomputable def tVar (i:Nat):TE:=λ σ H Q=>∃ v,σ[i]?=some (some v)/\Q v H
noncomputable def tC (v:V):TE:=λ _ H Q=>Q v H
theorem v_p {i:Nat} {x:Str} {pos:Pos} (hN:X.N[i]?=some x) (hv:Vis X.env.scope x) (hd:(x == ("__debug__" : Str))=false:=by decide) (hcd:(x == ("__classdict__" : Str))=false:=by decide):PE X (.Name x pos) (tVar i):=by
 intro pins s σ H Q I h;obtain ⟨v,e,h⟩:=h;obtain ⟨m,hn,hl⟩:=I.loc;obtain ⟨u,r,l⟩:=hl i x v hN e hv;have fin:EP X pins σ Q u s:=⟨v,H,I,r,h⟩;rcases l with ⟨hk,hm⟩ | ⟨hk,c,hc,hcell⟩
 ·exact wpAny_Name (wpAny_loadName_local I.ok.kind hk hn hm fin) hd
 ·rcases hk with hk | hk
  ·exact wpAny_Name (wpAny_loadName_cell I.ok.kind hk hc hcell fin) hd
  ·exact wpAny_Name (wpAny_loadName_free I.ok.kind hk hc hcell fin hcd) hd
theorem a_E {i j pos}:PE X (.Constant (.int i) j pos) (tC (.int i)):=λ _ _ _ H _ I h=>wpAny_Constant_int ⟨.int i,H,I.tok _,⟨_,rfl⟩,h⟩
theorem d_V {b j pos}:PE X (.Constant (.bool b) j pos) (tC (.bl b)):=λ _ _ _ H _ I h=>Constant_bool ⟨.bl b,H,I,rfl,h⟩
theorem v_q {j pos}:PE X (.Constant .none j pos) (tC .non):=λ _ _ _ H _ I h=>Constant_none ⟨.non,H,I,rfl,h⟩
theorem b_O {x j pos}:PE X (.Constant (.str x) j pos) (tC (.str x)):=λ _ _ _ H _ I h=>Calls.Constant_str ⟨.str x,H,I.tok _,⟨_,rfl⟩,h⟩
noncomputable def Gl (X:Cx) (x:Str):Prop:=X.env.kindOf x=some .globalImplicit
theorem e_j {E:Value->Shared->Prop} {pins:List (Addr × Obj)} {s:Shared} {σ:St} {H:Hp} {x:Str} {u:Value} {pos:Pos} {Q:Value->Shared->Prop} (I:Inv X pins σ H s) (hg:Gl X x) (hm:X.mg x=some u) (h:Q u s)
  (hd:(x == ("__debug__" : Str))=false:=by decide):wpAny (model X.prog X.w) X.A (eval (.Name x pos) X.env) Q E s :=
 Calls.Name_function_global I.ok.kind hg (Calls.loadGlobal_global (by rw [I.ok.glob]; exact I.mod.glob.keeps I.bk) hm h) hd
theorem g_K {E:Value->Shared->Prop} {pins:List (Addr × Obj)} {s:Shared} {σ:St} {H:Hp} {x:Str} {u:Value} {pos:Pos} {Q:Value->Shared->Prop} (I:Inv X pins σ H s) (hg:Gl X x) (hm:X.mg x=none) (hv:bootBuiltins x=some u) (h:Q u s)
  (hn:x ≠ "__name__" := by decide) (hd:(x == ("__debug__" : Str))=false:=by decide):wpAny (model X.prog X.w) X.A (eval (.Name x pos) X.env) Q E s:=by
 obtain ⟨mb,h1,h2⟩:=I.mod.blt;exact Calls.Name_function_global I.ok.kind hg (Calls.loadGlobal_builtin (by rw [I.ok.glob]; exact I.mod.glob.keeps I.bk) hm (by rw [I.ok.blt]; exact h1.keeps I.bk) ((h2 x hn).trans hv) h) hd
theorem f_K {x:Str} {v:V} {u:Value} {pos:Pos} (hg:Gl X x) (hm:X.mg x=some u) (r:RelV v u) (hd:(x == ("__debug__" : Str))=false:=by decide):PE X (.Name x pos) (tC v) :=
 λ _ _ _ H _ I h=>e_j I hg hm ⟨v,H,I,r,h⟩ hd
theorem h_G {x:Str} {v:V} {u:Value} {pos:Pos} (hg:Gl X x) (hm:X.mg x=none) (hv:bootBuiltins x=some u) (r:RelV v u) (hn:x ≠ "__name__" := by decide) (hd:(x == ("__debug__" : Str))=false:=by decide):PE X (.Name x pos) (tC v) :=
 λ _ _ _ H _ I h=>g_K I hg hm hv ⟨v,H,I,r,h⟩ hn hd
variable {a b:Expr} {ta tb:TE} {pos:Pos}
noncomputable def tB (t:TE):TT:=λ σ H Q=>t σ H λ x H1=>∃ c,x=.bl c/\Q c H1
theorem e_c {e:Expr} {t:TE} (h:PE X e t) (he:∀ whole,isTrue e X.env whole=(do let v ← whole; standAt e.pos; holding [v] (truthy v)):=by intro _; rfl):PT X e (tB t):=by
 intro pins s σ H Q I hw;refine isTrue_plain (thn (h pins s σ H _ I hw) λ v s1 ⟨x,H1,I1,r1,q1⟩=>?_) (he _);obtain ⟨d,rfl,q⟩:=q1;cases r1;exact wpAny_truthy_bool ⟨H1,I1,q⟩
variable {tA tB':TT} {rest:List Expr}
noncomputable def tAnd (t u:TT):TT:=λ σ H Q=>t σ H λ c H1=>if c=true then u σ H1 Q else Q false H1
noncomputable def tOr (t u:TT):TT:=λ σ H Q=>t σ H λ c H1=>if c=true then Q true H1 else u σ H1 Q
noncomputable def tNot (t:TT):TT:=λ σ H Q=>t σ H λ c H1=>Q (!c) H1
theorem d_H (ha:PT X a tA):PW X (.BoolOp .Or [a] pos) tA:=by
 intro wh pins s σ H Q I h;refine isTrue_or (thn (ha pins s σ H Q I h) λ c s1 e=>?_);cases c with
 | false=>exact isTrue_or_nil e
 | true=>exact e
theorem d_N (ha:PT X a tA) (hb:PW X (.BoolOp .Or (b :: rest) pos) tB'):PW X (.BoolOp .Or (a :: b :: rest) pos) (tOr tA tB'):=by
 intro wh pins s σ H Q I h;refine isTrue_or (thn (ha pins s σ H _ I h) λ c s1 ⟨H1,I1,q1⟩=>?_);cases c with
 | true=>exact ⟨H1,I1,q1⟩
 | false=>exact hb wh pins s1 σ H1 Q I1 q1
theorem g_a (ha:PT X a tA):PT X (.UnaryOp .Not a pos) (tNot tA):=by
 intro pins s σ H Q I h;exact isTrue_not (ha pins s σ H (λ c H1=>Q (!c) H1) I h)
noncomputable def u_O (ta tb:TE):TE:=λ σ H Q=>ta σ H λ x H1=>∃ c,x=.bl c/\if c=true then tb σ H1 Q else Q (.bl false) H1
noncomputable def tOrV (ta tb:TE):TE:=λ σ H Q=>ta σ H λ x H1=>∃ c,x=.bl c/\if c=true then Q (.bl true) H1 else tb σ H1 Q
noncomputable def u_P (ta:TE):TE:=λ σ H Q=>ta σ H λ x H1=>∃ c,x=.bl c/\Q (.bl (!c)) H1
theorem m_H {op} {t:TE} (h:PE X a t):PE X (.BoolOp op [a] pos) t:=λ pins s σ H Q I hw=>BoolOp_one (h pins s σ H Q I hw)
theorem j_G (ha:PE X a ta) (hb:PE X (.BoolOp .And (b :: rest) pos) tb):PE X (.BoolOp .And (a :: b :: rest) pos) (u_O ta tb):=by
 intro pins s σ H Q I h;refine BoolOp_and (thn (ha pins s σ H _ I h) λ v s1 ⟨x,H1,I1,r1,q1⟩=>?_);obtain ⟨c,rfl,q1⟩:=q1;cases r1;refine wpAny_truthy_bool ?_;cases c with
 | true=>exact hb pins s1 σ H1 Q I1 q1
 | false=>exact ⟨.bl false,H1,I1,rfl,q1⟩
theorem m_I (ha:PE X a ta):PE X (.UnaryOp .Not a pos) (u_P ta):=by
 intro pins s σ H Q I h;refine UnaryOp_ (thn (ha pins s σ H _ I h) λ v s1 ⟨x,H1,I1,r1,q1⟩=>?_);obtain ⟨c,rfl,q1⟩:=q1;cases r1;exact not_of (wpAny_truthy_bool ⟨.bl (!c),H1,I1,rfl,q1⟩)
noncomputable def tIf (t:TT) (ta tb:TE):TE:=λ σ H Q=>t σ H λ c H1=>if c=true then ta σ H1 Q else tb σ H1 Q
theorem g_l {c:Expr} (hc:PT X c tA) (ha:PE X a ta) (hb:PE X b tb):PE X (.IfExp c a b pos) (tIf tA ta tb):=by
 intro pins s σ H Q I h;refine wpAny_IfExp (thn (hc pins s σ H _ I h) λ d s1 ⟨H1,I1,q1⟩=>?_);cases d with
 | true=>exact ha pins s1 σ H1 Q I1 q1
 | false=>exact hb pins s1 σ H1 Q I1 q1
end
noncomputable def SqL (K:Frag) (H:Hp) (a:Addr) (xs:List V):Prop :=
 Rd H a (.lst xs) \/
  ∃ (o:Obj) (its:Array Value) (n:Nat),K.lookup a=some o/\o.cls=.type "list" /\ o.dict=none/\o.data=.seq its n/\its.size<=sizeLine/\Vals xs its.toList
noncomputable def SqT (K:Frag) (H:Hp) (a:Addr) (xs:List V):Prop :=
 Rd H a (.tup xs) \/
  ∃ (o:Obj) (its:Array Value) (n:Nat),K.lookup a=some o/\o.cls=.type "tuple" /\ o.data=.seq its n/\its.size<=sizeLine/\Vals xs its.toList
noncomputable def absV:Value->Option V
 | .none=>some .non
 | .bool b=>some (.bl b)
 | .int i _=>some (.int i)
 | .str x _=>some (.str x)
 | .bytes b _=>some (.byt b)
 | .float b _=>some (.flt b)
 | .ref a=>some (.ref a)
 | .type n=>some (.ty n)
 | _=>none
theorem RelV.abs {x:V} {u:Value} (r:RelV x u):absV u=some x:=by
 cases x with
 | non=>cases r; rfl
 | bl _=>cases r; rfl
 | int _=>obtain ⟨t,rfl⟩:=r; rfl
 | str _=>obtain ⟨t,rfl⟩:=r; rfl
 | byt _=>obtain ⟨t,rfl⟩:=r; rfl
 | flt _=>obtain ⟨t,rfl⟩:=r; rfl
 | ref _=>cases r; rfl
 | ty _=>cases r; rfl
theorem RelV.inj {x y:V} {u:Value} (r:RelV x u) (q:RelV y u):x=y:=zT (r.abs.symm.trans q.abs)
theorem Vals.inj:∀ {xs ys:List V} {us:List Value},Vals xs us->Vals ys us->xs=ys
 | _,_,_,.nil,.nil=>rfl
 | _,_,_,.cons r t,.cons r' t'=>by rw [r.inj r',Vals.inj t t']
section
variable {X:Cx} {pins:List (Addr × Obj)} {σ:St} {H:Hp} {s:Shared} {a:Addr} {xs ys:List V}
theorem SqL.of {K:Frag} (h:H a=some (.lst xs)):SqL K H a xs:=.inl (.inl h)
theorem SqT.of {K:Frag} (h:H a=some (.tup xs)):SqT K H a xs:=.inl (.inl h)
theorem Inv.list (I:Inv X pins σ H s) (h:SqL X.K H a xs):∃ its:List Value,Vals xs its/\PlainL s.heap a its.toArray/\xs.length<=sizeLine:=by
 rcases h with h | ⟨o,its,n,hk,hc,hd,hs,hz,r⟩
 ·obtain ⟨z,its,n,r,e⟩:=h.ok I.hok;exact ⟨its,r,⟨_,n,e,rfl,rfl,rfl⟩,z⟩
 ·refine ⟨its.toList,r,⟨o,n,I.kIn a o hk,hc,hd,by simpa using hs⟩,?_⟩;have e:=r.length;simp only [Array.length_toList] at e;omega
theorem Inv.tuple (I:Inv X pins σ H s) (h:SqT X.K H a xs):∃ its:List Value,Vals xs its/\IsTup s.heap a its.toArray/\xs.length<=sizeLine:=by
 rcases h with h | ⟨o,its,n,hk,hc,hs,hz,r⟩
 ·obtain ⟨z,its,r,p⟩:=h.ok I.hok;exact ⟨its,r,p,z⟩
 ·refine ⟨its.toList,r,⟨o,I.kIn a o hk,hc,n,by simpa using hs⟩,?_⟩;have e:=r.length;simp only [Array.length_toList] at e;omega
theorem Inv.list_inj (I:Inv X pins σ H s) (h:SqL X.K H a xs) (h':SqL X.K H a ys):xs=ys:=by
 obtain ⟨its,r,⟨o,n,e,_,_,d⟩,_⟩:=I.list h;obtain ⟨its',r',⟨o',n',e',_,_,d'⟩,_⟩:=I.list h';rw [e] at e'; cases e';rw [d] at d';injection d' with d1 _;have:its=its':=by simpa using congrArg Array.toList d1
 subst this;exact r.inj r'
theorem Inv.tuple_inj (I:Inv X pins σ H s) (h:SqT X.K H a xs) (h':SqT X.K H a ys):xs=ys:=by
 obtain ⟨its,r,⟨o,e,_,n,d⟩,_⟩:=I.tuple h;obtain ⟨its',r',⟨o',e',_,n',d'⟩,_⟩:=I.tuple h';rw [e] at e'; cases e';rw [d] at d';injection d' with d1 _;have:its=its':=by simpa using congrArg Array.toList d1
 subst this;exact r.inj r'
end
noncomputable abbrev Cx.wish (X:Cx) (E:Value->Shared->Prop):Cx:={ X with xe:=E }
noncomputable abbrev Cx.nox (X:Cx):Cx:=X.wish λ _ _=>False
theorem Cx.Ok.wish {X:Cx} (ok:X.Ok) (E:Value->Shared->Prop):(X.wish E).Ok :=
 ⟨ok.mod,ok.kind,ok.glob,ok.blt,ok.above,ok.inj,ok.has,ok.cab,ok.hd,ok.frames,ok.stk,ok.exf,ok.bs,ok.bsz,ok.noex,ok.exfs,ok.funs,ok.frf⟩
theorem Cx.Ok.unwish {X:Cx} {E:Value->Shared->Prop} (ok:(X.wish E).Ok):X.Ok :=
 ⟨ok.mod,ok.kind,ok.glob,ok.blt,ok.above,ok.inj,ok.has,ok.cab,ok.hd,ok.frames,ok.stk,ok.exf,ok.bs,ok.bsz,ok.noex,ok.exfs,ok.funs,ok.frf⟩
section
variable {X:Cx} {pins:List (Addr × Obj)} {σ:St} {H:Hp} {s:Shared} {E:Value->Shared->Prop}
theorem Inv.wish (I:Inv X pins σ H s) (E:Value->Shared->Prop):Inv (X.wish E) pins σ H s:=⟨I.ok.wish E,I.os,I.bare,I.base,I.loc,I.cell,I.free,I.freeC,I.pin,I.hok,I.len⟩
theorem Inv.unwish (I:Inv (X.wish E) pins σ H s):Inv X pins σ H s:=⟨I.ok.unwish,I.os,I.bare,I.base,I.loc,I.cell,I.free,I.freeC,I.pin,I.hok,I.len⟩
theorem SP.unwish {D:Ends} {f:Flow} {s':Shared} (h:SP (X.wish E) pins D f s'):SP X pins D f s':=by
 cases f with
 | next=>obtain ⟨σ',H',I,q⟩:=h; exact ⟨σ',H',I.unwish,q⟩
 | brk=>obtain ⟨σ',H',I,q⟩:=h; exact ⟨σ',H',I.unwish,q⟩
 | cont=>obtain ⟨σ',H',I,q⟩:=h; exact ⟨σ',H',I.unwish,q⟩
 | ret u=>obtain ⟨v,σ',H',I,r,q⟩:=h; exact ⟨v,σ',H',I.unwish,r,q⟩
theorem PE.nox {e:Expr} {t:TE} (h:PE X.nox e t):PE X e t:=λ pins s σ H Q I hw =>
 zC (h pins s σ H Q (I.wish _) hw) (λ _ _ ⟨v,H',I',r,q⟩=>⟨v,H',I'.unwish,r,q⟩) λ _ _ z=>False.elim z
theorem PT.nox {e:Expr} {t:TT} (h:PT X.nox e t):PT X e t:=λ pins s σ H Q I hw =>
 zC (h pins s σ H Q (I.wish _) hw) (λ _ _ ⟨H',I',q⟩=>⟨H',I'.unwish,q⟩) λ _ _ z=>False.elim z
theorem PSs.nox {st:List Stmt} {t:TS} (h:PSs X.nox st t):PSs X st t:=λ pins s σ H D I hw =>
 zC (h pins s σ H D (I.wish _) hw) (λ _ _ q=>q.unwish) λ _ _ z=>False.elim z
end
section
variable {X:Cx} {st:Stmt} {rest:List Stmt} {t u:TS} {e:Expr} {te:TE} {pos:Pos}
noncomputable def o_d:TS:=λ D σ H=>D.nx σ H
noncomputable def tSeq (t u:TS):TS:=λ D σ H=>t { D with nx:=u D } σ H
theorem a_S:PSs X [] o_d:=λ _ _ σ H _ I h=>wpAny_execs_nil ⟨σ,H,I,h⟩
theorem a_D (h1:PS X st t) (h2:PSs X rest u):PSs X (st :: rest) (tSeq t u):=by
 intro pins s σ H D I h;refine wpAny_execs_cons (thn (h1 pins s σ H { D with nx:=u D } I h) λ f s1 q=>?_);cases f with
 | next =>
  obtain ⟨σ',H',I',q⟩:=q;exact h2 pins s1 σ' H' D I' q
 | ret v=>exact q
 | brk=>exact q
 | cont=>exact q
theorem a_G (h1:PS X st t):PSs X [st] t:=by
 intro pins s σ H D I h;refine wpAny_execs_cons (thn (h1 pins s σ H D I h) λ f s1 q=>?_);cases f with
 | next=>exact wpAny_execs_nil q
 | ret v=>exact q
 | brk=>exact q
 | cont=>exact q
theorem Inv.quiet {pins:List (Addr × Obj)} {σ:St} {H:Hp} {s:Shared} (I:Inv X pins σ H s):interactive X.env=false:=by simp [interactive,I.ok.kind]
noncomputable def u_Q (te:TE):TS:=λ D σ H=>te σ H λ _ H1=>D.nx σ H1
theorem e_F (he:PE X e te) (hs:swapsWith e none pos.line X.env=pure false:=by rfl):PS X (.Expr e pos) (u_Q te):=by
 intro pins s σ H D I h;exact wpAny_Expr_any (thn (he pins s σ H _ I h) λ v s1 ⟨x,H1,I1,r1,q1⟩=>⟨σ,H1,I1,q1⟩) I.quiet hs
noncomputable def tRet (te:TE):TS:=λ D σ H=>te σ H D.rt
theorem a_N (he:PE X e te):PS X (.Return (some e) pos) (tRet te):=by
 intro pins s σ H D I h;exact wpAny_Return_some (thn (he pins s σ H _ I h) λ v s1 ⟨x,H1,I1,r1,q1⟩=>⟨x,σ,H1,I1,r1,q1⟩)
noncomputable def w_v:TS:=λ D _ H=>D.rt .non H
noncomputable def tIfS (c:TT) (t u:TS):TS:=λ D σ H=>c σ H λ b H1=>if b=true then t D σ H1 else u D σ H1
theorem b_G {c:Expr} {a b:List Stmt} {tc:TT} (hc:PT X c tc) (ha:PSs X a t) (hb:PSs X b u):PS X (.If c a b pos) (tIfS tc t u):=by
 intro pins s σ H D I h;refine wpAny_If (thn (hc pins s σ H _ I h) λ d s1 ⟨H1,I1,q1⟩=>?_);cases d with
 | true=>exact ha pins s1 σ H1 D I1 q1
 | false=>exact hb pins s1 σ H1 D I1 q1
noncomputable def v_r:TS:=λ _ _ _=>False
theorem e_Z:PS X st v_r:=λ _ _ _ _ _ _ h=>h.elim
end
noncomputable abbrev TG:=V->St->Hp->(St->Hp->Prop)->Prop
noncomputable abbrev TGs:=List V->St->Hp->(St->Hp->Prop)->Prop
noncomputable def PG (X:Cx) (target:Expr) (t:TG):Prop :=
 ∀ (pins:List (Addr × Obj)) (s:Shared) (σ:St) (H:Hp) (v:V) (u:Value) (Q:St->Hp->Prop),Inv X pins σ H s->RelV v u->t v σ H Q ->
  wpAny (model X.prog X.w) X.A (assign target X.env u) (λ _ s'=>∃ σ' H',Inv X pins σ' H' s'/\Q σ' H') X.xe s
noncomputable def PGs (X:Cx) (ts:List Expr) (t:TGs):Prop :=
 ∀ (pins:List (Addr × Obj)) (s:Shared) (σ:St) (H:Hp) (vs:List V) (us:List Value) (Q:St->Hp->Prop),Inv X pins σ H s->Vals vs us->t vs σ H Q ->
  wpAny (model X.prog X.w) X.A (assignInOrder ((assignEach ts X.env).map (·.2)) us) (λ _ s'=>∃ σ' H',Inv X pins σ' H' s'/\Q σ' H') X.xe s
noncomputable abbrev TSet:=V->V->V->Hp->(Hp->Prop)->Prop
noncomputable def PSet (X:Cx) (t:TSet):Prop :=
 ∀ (pins:List (Addr × Obj)) (s:Shared) (σ:St) (H:Hp) (o i v:V) (ov iv u:Value) (Q:Hp->Prop),Inv X pins σ H s->RelV o ov->RelV i iv->RelV v u->t o i v H Q ->
  wpAny (model X.prog X.w) X.A (setItem ov iv u) (λ _ s'=>∃ H',Inv X pins σ H' s'/\Q H') X.xe s
noncomputable abbrev TIp:=V->V->Hp->VK->Prop
noncomputable def PIp (X:Cx) (op:Operator) (t:TIp):Prop :=
 ∀ (pins:List (Addr × Obj)) (s:Shared) (σ:St) (H:Hp) (x y:V) (v u:Value) (Q:VK),Inv X pins σ H s->RelV x v->RelV y u->t x y H Q ->
  wpAny (model X.prog X.w) X.A (inplaceOp op v u) (EP X pins σ Q) X.xe s
section
variable {X:Cx} {pos:Pos}
noncomputable def a_T (i:Nat):TG:=λ v σ H Q=>Q (σ.set i (some v)) H
theorem b_R {i:Nat} {x:Str} (hN:X.N.Nodup) (hi:X.N[i]?=some x) (hx:Loc X.env.scope x) (hf:X.fn x=true\/X.env.scope.names.lookup x=some .local:=by first | exact .inl rfl | exact .inr rfl | assumption):PG X (.Name x pos) (a_T i):=by
 intro pins s σ H v u Q I r h;exact wpAny_assign_Name (d_M I hN hi hx r (λ s' I'=>⟨_,H,I',h⟩) hf)
noncomputable def gNil:TGs:=λ vs σ H Q=>vs=[]/\Q σ H
noncomputable def c_N (t:TG) (u:TGs):TGs:=λ vs σ H Q=>∃ v r,vs=v :: r/\t v σ H λ σ' H'=>u r σ' H' Q
theorem d_W:PGs X [] gNil:=by
 intro pins s σ H vs us Q I r h;obtain ⟨e,h⟩:=h;subst e;cases r;exact assignInOrder_nil ⟨σ,H,I,h⟩
theorem b_N {e:Expr} {es:List Expr} {t:TG} {u:TGs} (h1:PG X e t) (h2:PGs X es u)
  (hs:(assignEach (e :: es) X.env).map (·.2)=assign e X.env :: (assignEach es X.env).map (·.2):=by rfl):PGs X (e :: es) (c_N t u):=by
 intro pins s σ H vs us Q I r h;obtain ⟨v,vr,e1,h⟩:=h;subst e1;cases r with
 | cons r rr =>
  rw [hs];refine assignInOrder_cons (thn (h1 pins s σ H _ _ _ I r h) λ _ s1 ⟨σ1,H1,I1,q1⟩=>?_);exact h2 pins s1 σ1 H1 _ _ Q I1 rr q1
noncomputable def gTup (K:Frag) (n:Nat) (t:TGs):TG:=λ v σ H Q=>∃ a xs,v=.ref a/\SqT K H a xs/\xs.length=n/\t xs σ H Q
theorem e_G {es:List Expr} {k:Nat} {t:TGs} {n:Nat} (hc:X.calm=true) (h:PGs X es t)
  (hn:(assignEach es X.env).length=n:=by rfl) (hst:(assignEach es X.env).findIdx? (·.1)=none:=by rfl):PG X (.Tuple es k pos) (gTup X.K n t):=by
 intro pins s σ H v u Q I r hw;obtain ⟨a,xs,e1,hq,hl,hw⟩:=hw;subst e1;cases r;obtain ⟨its,rv,ht,hz⟩:=I.tuple hq;refine assign_Tuple_tuple (I.ok.hd hc) ht (by simp [hn,← hl,rv.length]) hst λ h' hx=>?_;have I1:Inv X pins σ H { s with heap:=h' }:=I.kept (t':=s.toks) λ b o e=>hx b o (Nat.ne_of_lt (zE e)) e;exact h pins _ σ H xs _ Q I1 (by simpa using rv) hw
noncomputable def gSub (to ti:TE) (t:TSet):TG:=λ v σ H Q=>to σ H λ o H1=>ti σ H1 λ i H2=>t o i v H2 λ H3=>Q σ H3
theorem q_J {o i:Expr} {to ti:TE} {t:TSet} (ho:PE X o to) (hi:PE X i ti) (hs:PSet X t)
  (ha:∀ v,assign (.Subscript o i pos) X.env v=(do
   let ov ← holding [v] (eval o X.env)
   let iv ← holding [v,ov] (eval i X.env)
   standAt pos
   holding [v,ov,iv] (setItem ov iv v)
   release [v,ov,iv] []):=by intro _; rfl):PG X (.Subscript o i pos) (gSub to ti t):=by
 intro pins s σ H v u Q I r h;rw [ha];refine zA (wpAny_holding (thn (ho pins s σ H _ I h) λ ov s1 ⟨x,H1,I1,r1,q1⟩=>?_));refine zA (wpAny_holding (thn (hi pins s1 σ H1 _ I1 q1) λ iv s2 ⟨y,H2,I2,r2,q2⟩=>?_));refine zA (wpAny_standAt (zA (wpAny_holding (thn (hs pins s2 σ H2 x y v ov iv u _ I2 r1 r2 r q2) λ _ s3 ⟨H3,I3,q3⟩=>?_))));exact wpAny_release ⟨σ,H3,I3,q3⟩
noncomputable def tAsg (te:TE) (g:TG):TS:=λ D σ H=>te σ H λ x H1=>g x σ H1 D.nx
theorem q_K {tg e:Expr} {te:TE} {g:TG} (he:PE X e te) (hg:PG X tg g) (hs:swapsWithSole [tg] e pos.line X.env=pure false:=by rfl) (hw:swappedStores [tg] e X.env=pure none:=by rfl)
  (h1:(assignEach [tg] X.env).map (·.2)=[assign tg X.env]:=by rfl):PS X (.Assign [tg] e pos) (tAsg te g):=by
 intro pins s σ H D I h;refine wpAny_Assign_stores (thn (he pins s σ H _ I h) λ v s1 ⟨x,H1,I1,r1,q1⟩=>?_) hs hw;rw [h1];exact thn (hg pins s1 σ H1 x v _ I1 r1 q1) λ _ s2 q=>q
theorem a_R {i:Nat} {x:Str} {e:Expr} {te:TE} {pos':Pos} (hN:X.N.Nodup) (hi:X.N[i]?=some x) (hx:Loc X.env.scope x) (he:PE X e te) (hs:swapsWith e (some (.Name x pos')) pos.line X.env=pure false:=by rfl) (hf:X.fn x=true\/X.env.scope.names.lookup x=some .local:=by first | exact .inl rfl | exact .inr rfl | assumption) :
  PS X (.Assign [.Name x pos'] e pos) (tAsg te (a_T i)):=by
 intro pins s σ H D I h;refine wpAny_Assign_Name (thn (he pins s σ H _ I h) λ v s1 ⟨y,H1,I1,r1,q1⟩=>?_) hs;exact d_M I1 hN hi hx r1 (λ s2 I2=>⟨_,H1,I2,q1⟩) hf
noncomputable def tPar (i j:Nat) (ta:TA):TS:=λ D σ H=>ta σ H λ vs H1=>∃ v w,vs=[v,w]/\D.nx ((σ.set i (some v)).set j (some w)) H1
theorem v_s {i j:Nat} {x y:Str} {a b:Expr} {ta:TA} {px py pt:Pos} {kt k2 pt2} (hc:X.calm=true) (hN:X.N.Nodup) (hi:X.N[i]?=some x) (hj:X.N[j]?=some y) (hij:i≠j)
  (hx:X.env.scope.names.lookup x=some .local) (hy:X.env.scope.names.lookup y=some .local) (ha:PA X [a,b] ta)
  (hw:swappedStores [.Tuple [.Name x px,.Name y py] kt pt] (.Tuple [a,b] k2 pt2) X.env=pure (some [x,y]))
  (hs:swapsWithSole [.Tuple [.Name x px,.Name y py] kt pt] (.Tuple [a,b] k2 pt2) pos.line X.env=pure false:=by rfl) :
  PS X (.Assign [.Tuple [.Name x px,.Name y py] kt pt] (.Tuple [a,b] k2 pt2) pos) (tPar i j ta):=by
 intro pins s σ H D I h;rw [exec_Assign_arm];refine zA (wpAny_standAt ?_);rw [hs];refine zA (zB ?_);rw [if_neg (by decide)];refine zA (Tuple_ (thn (ha _ pins s σ H _ I h) λ us s1 ⟨vs,H1,I1,r1,q1⟩=>?_));obtain ⟨v,w,e1,q1⟩:=q1;subst e1;obtain ⟨u1,u2,rfl,rv,rw'⟩:∃ u1 u2,us=[u1,u2]/\RelV v u1/\RelV w u2:=by
  cases r1 with
  | cons p q =>
   cases q with
   | cons p' q' =>
    cases q';exact ⟨_,_,rfl,p,p'⟩
 refine wpAny_newObj_type ?_ (by show 2<=sizeLine; decide);have I2:Inv X pins σ H1 { s1 with heap:=s1.heap.push { cls:=.type "tuple",data:=.seq [u1,u2].toArray } }:=I1.kept (t':=s1.toks) λ b o e=>zD _ e;rw [hw];refine zA (zB ?_);show wpAny (model X.prog X.w) X.A (do rule "assign.swapped-stores"; let items ← unpackItems (.ref s1.heap.objs.size) 2 none; assignInOrder [λ v=>bindName X.env y v,λ v=>bindName X.env x v] items.reverse; pure Flow.next) _ _ _;refine zA (wpAny_rule (zA (unpackItems_tuple (items:=#[u1,u2]) (I.ok.hd hc) (IsTup.new s1.heap _) λ h' hx'=>?_)));have I3:=I2.kept (h':=h') (t':=s1.toks) λ b o e=>hx' b o (Nat.ne_of_lt (zE e)) e;show wpAny _ _ (assignInOrder [λ v=>bindName X.env y v,λ v=>bindName X.env x v] [u2,u1] >>= λ _=>pure Flow.next) _ _ _;refine zA (assignInOrder_cons (wpAny_bindName (d_M I3 hN hj (.inl hy) rw' (λ s2 I4=>?_) (.inr hy))));refine assignInOrder_cons (wpAny_bindName (d_M I4 hN hi (.inl hx) rv (λ s3 I5=>assignInOrder_nil (zB ?_)) (.inr hx)));rw [List.set_comm _ _ (Ne.symm hij)] at I5;exact ⟨_,H1,I5,q1⟩
noncomputable def tAug (i:Nat) (te:TE) (ti:TIp):TS:=λ D σ H=>∃ x,σ[i]?=some (some x)/\te σ H λ y H1=>ti x y H1 λ z H2=>D.nx (σ.set i (some z)) H2
theorem q_L {i:Nat} {x:Str} {e:Expr} {te:TE} {op:Operator} {ti:TIp} {pos':Pos} (hN:X.N.Nodup) (hi:X.N[i]?=some x) (hx:Loc X.env.scope x) (he:PE X e te) (ho:PIp X op ti) (hf:X.fn x=true\/X.env.scope.names.lookup x=some .local:=by first | exact .inl rfl | exact .inr rfl | assumption) :
  PS X (.AugAssign (.Name x pos') op e pos) (tAug i te ti):=by
 intro pins s σ H D I h;obtain ⟨v,e1,h⟩:=h;obtain ⟨m,hn,hl⟩:=I.loc;have vis:Vis X.env.scope x:=by rcases hx with k | k; exact .inl k; exact .inr (.inl k)
 obtain ⟨u,r,l⟩:=hl i x v hi e1 vis;refine wpAny_AugAssign_Name ?_;have go:wpAny (model X.prog X.w) X.A (eval e X.env) (λ w s₂=>wpAny (model X.prog X.w) X.A (inplaceOp op u w) (λ r s₃=>wpAny (model X.prog X.w) X.A (storeName X.env x r) (λ _=>SP X pins D .next) X.xe s₃) X.xe s₂) X.xe s:=by
  refine thn (he pins s σ H _ I h) λ w s1 ⟨y,H1,I1,r1,q1⟩=>?_;refine thn (ho pins s1 σ H1 v y u w _ I1 r r1 q1) λ z s2 ⟨zv,H2,I2,r2,q2⟩=>?_;exact d_M I2 hN hi hx r2 (λ s3 I3=>⟨_,H2,I3,q2⟩) hf
 rcases l with ⟨hk,hm⟩ | ⟨hk,c,hc,hcell⟩
 ·exact wpAny_loadName_local I.ok.kind hk hn hm go
 ·rcases hk with hk | hk
  ·exact wpAny_loadName_cell I.ok.kind hk hc hcell go
  ·rcases hx with k | k
   ·have:X.env.scope.names.lookup x=some .free:=hk;rw [k] at this; cases this
   ·have:X.env.scope.names.lookup x=some .free:=hk;rw [k] at this; cases this
noncomputable def ipI (f:Int->Int->Int):TIp:=λ x y H Q=>∃ i j,x=.int i/\y=.int j/\Q (.int (f i j)) H
theorem q_M:PIp X .Add (ipI λ i j=>i+j):=by
 intro pins s σ H x y v u Q I r1 r2 h;obtain ⟨i,j,e1,e2,q⟩:=h;subst e1; subst e2;obtain ⟨t,rfl⟩:=r1;obtain ⟨t',rfl⟩:=r2;exact iadd_int ⟨.int _,H,I.tok _,⟨_,rfl⟩,q⟩
end
section
variable {X:Cx} {pos:Pos}
noncomputable def q_N (c:TT) (tb:TS):TS:=λ D σ H=>∃ W:Nat->St->Hp->Prop,(∃ m,W m σ H)/\∀ m σ H,W m σ H ->
 c σ H λ b H1=>if b=true then ∃ N:St->Hp->Prop,(∀ σ' H',N σ' H'->∃ m',m' < m/\W m' σ' H')/\tb { D with nx:=N,ct:=N,bk:=D.nx } σ H1 else D.nx σ H1
theorem h_U {c:Expr} {body:List Stmt} {tc:TT} {tb:TS} (hp:PassesOwn (model X.prog X.w) X.A X.env X.xe) (hc:PT X c tc) (hb:PSs X body tb):PS X (.While c body [] pos) (q_N tc tb):=by
 intro pins s σ H D I h;obtain ⟨W,⟨m0,w0⟩,turn⟩:=h;refine wpAny_While (codeAny_whileLoop (λ n s'=>∃ σ' H',Inv X pins σ' H' s'/\W n σ' H') ?_ m0 ⟨σ,H,I,w0⟩);rintro n s1 ⟨σ1,H1,I1,w1⟩;refine wpAny_passesOwn hp (thn (hc pins s1 σ1 H1 _ I1 (turn n σ1 H1 w1)) λ b s2 ⟨H2,I2,q2⟩=>?_);cases b with
 | true =>
  obtain ⟨N,hN,q2⟩:=q2;rw [if_pos rfl];refine wpAny_passesOwn hp (thn (hb pins s2 σ1 H2 _ I2 q2) λ f s3 q3=>?_);cases f with
  | next =>
   obtain ⟨σ3,H3,I3,n3⟩:=q3;obtain ⟨m',hm,w3⟩:=hN σ3 H3 n3;exact ⟨m',hm,σ3,H3,I3,w3⟩
  | cont =>
   obtain ⟨σ3,H3,I3,n3⟩:=q3;obtain ⟨m',hm,w3⟩:=hN σ3 H3 n3;exact ⟨m',hm,σ3,H3,I3,w3⟩
  | brk=>exact q3
  | ret v=>exact q3
 | false =>
  rw [if_neg zV];exact wpAny_execs_nil ⟨σ1,H2,I2,q2⟩
end
structure It where
 go:Nat->Hp->Prop
 yld:Nat->Hp->V->Hp->Prop
 stop:Nat->Hp->Prop
noncomputable def FpOk (X:Cx) (pins:List (Addr × Obj)) (H:Hp) (b:Addr):Prop :=
 H b=none/\b≠X.env.locals/\b ∉ X.fs/\(b∈X.ex\/X.s₀.heap.objs.size<=b)/\(∀ x c,X.env.cells.lookup x=some c->c≠b)/\∀ p∈X.pn++pins,p.1≠b
theorem Inv.fpOk {X:Cx} {pins:List (Addr × Obj)} {σ:St} {H H':Hp} {s:Shared} {b:Addr} (I:Inv X pins σ H s) (hb:s.heap.objs.size<=b) (hn:H' b=none):FpOk X pins H' b:=by
 refine ⟨hn,Nat.ne_of_gt (zI I.lt hb),I.nofs hb,.inr (zS I.sz hb),λ x c e z=>?_,λ p hp z=>?_⟩
 ·obtain ⟨v,q⟩:=I.cell x c e;exact yJ (zI q.lt (by rw [z]; exact hb)) (Nat.lt_irrefl _)
 ·exact yJ (zI (zE (I.pin p hp).1) (by rw [z]; exact hb)) (Nat.lt_irrefl _)
structure Turn (P:Program) (w:World) (K:Frag) (tg:Expr) (J:It) (fp:List Addr) (it:Addr) (tn:Nat->Heap->Prop):Prop where
 mem:it∈fp
 obj:∀ i h,tn i h->∀ b∈fp,∃ o,h.get? b=some o/\∀ v,o.data≠.cell v
 keep:∀ i h h',tn i h->(∀ b∈fp,∀ o,h.get? b=some o->h'.get? b=some o)->tn i h'
 item:∀ (X:Cx),X.prog=P->X.w=w->X.K=K->X.calm=true->∀ (i:Nat) (pins:List (Addr × Obj)) (s:Shared) (σ:St) (H:Hp) (E:Value->Shared->Prop),Inv X pins σ H s->(∀ b∈fp,FpOk X pins H b)->tn i s.heap->J.go i H ->
  wpAny (model P w) X.A (pyNext (.ref it)) (λ r s1=>∃ u,r=some u /\
   wpAny (model P w) X.A (letOwnedTupleGo tg (.ref it) u) (λ _ s2=>∃ x H',Inv X pins σ H' s2/\RelV x u/\J.yld i H x H'/\tn (i+1) s2.heap/\∀ b∈fp,H' b=none) E s1) E s
 done:∀ (X:Cx),X.prog=P->X.w=w->X.K=K->X.calm=true->∀ (i:Nat) (pins:List (Addr × Obj)) (s:Shared) (σ:St) (H:Hp) (E:Value->Shared->Prop),Inv X pins σ H s->(∀ b∈fp,FpOk X pins H b)->tn i s.heap->J.stop i H ->
  wpAny (model P w) X.A (pyNext (.ref it)) (λ r s1=>r=none/\Inv X pins σ H s1) E s
 self:∀ (A:Around) (i:Nat) (s:Shared) (Q:Value->Shared->Prop) (E:Value->Shared->Prop),tn i s.heap->Q (.ref it) s->wpAny (model P w) A (pyIter (.ref it)) Q E s
noncomputable abbrev TI:=St->Hp->(It->Hp->Prop)->Prop
noncomputable def PIE (X:Cx) (pins:List (Addr × Obj)) (σ:St) (tg:Expr) (R:It->Hp->Prop) (itv:Value) (s2:Shared):Prop :=
 ∃ (it:Addr) (fp:List Addr) (tn:Nat->Heap->Prop) (J:It) (H':Hp),itv=.ref it/\Inv X pins σ H' s2/\Turn X.prog X.w X.K tg J fp it tn/\tn 0 s2.heap/\(∀ b∈fp,FpOk X pins H' b)/\R J H'
noncomputable def PI (X:Cx) (tg iter:Expr) (wi:TI):Prop :=
 ∀ (pins:List (Addr × Obj)) (s:Shared) (σ:St) (H:Hp) (R:It->Hp->Prop),Inv X pins σ H s->wi σ H R ->
  wpAny (model X.prog X.w) X.A (eval iter X.env) (λ v s1=>wpAny (model X.prog X.w) X.A (pyIter v) (PIE X pins σ tg R) X.xe s1) X.xe s
theorem o_e {M:Model} {A:Around} {E:Value->Shared->Prop} {s:Shared} {tg:Expr} {it:Addr} {u:Value} {o:Obj} {n:String} {vs:Array Value} {Q:Unit->Shared->Prop} (ho:s.heap.get? it=some o) (hc:o.cls=.type n) (hd:o.data=.fields vs)
    (hn:["enumerate","zip","dict_itemiterator","dict_reverseitemiterator","odict_iterator","itertools.zip_longest","itertools.pairwise"].contains n=false) (hQ:Q () s):wpAny M A (letOwnedTupleGo tg (.ref it) u) Q E s:=by
  unfold letOwnedTupleGo;cases tg <;> first
    | exact zB hQ
    | (cases u <;> first
        | exact zB hQ
        | (refine zA (wpAny_load ho ?_)
           rw [hc,hd];show wpAny M A (if (["enumerate","zip","dict_itemiterator","dict_reverseitemiterator","odict_iterator","itertools.zip_longest","itertools.pairwise"].contains n && vs[0]? == some (rawInt _))=true then _ else _) Q E s;rw [if_neg (by intro h; rw [hn,Bool.false_and] at h; cases h)];exact zB hQ))
noncomputable def Itl (K:Frag) (a:Addr):It :=
 ⟨λ i H=>∃ xs x,SqL K H a xs/\xs[i]?=some x,λ i H x H'=>H'=H/\∀ xs,SqL K H a xs->xs[i]?=some x,λ i H=>∃ xs,SqL K H a xs/\xs.length<=i⟩
noncomputable def Itt (K:Frag) (a:Addr):It :=
 ⟨λ i H=>∃ xs x,SqT K H a xs/\xs[i]?=some x,λ i H x H'=>H'=H/\∀ xs,SqT K H a xs->xs[i]?=some x,λ i H=>∃ xs,SqT K H a xs/\xs.length<=i⟩
noncomputable def Itr (lo:Int) (n:Nat):It:=⟨λ i _=>i < n,λ i H x H'=>H'=H/\x=.int (lo+i),λ i _=>n<=i⟩
theorem p_n {P:Program} {w:World} {K:Frag} {tg:Expr} (a it:Addr):Turn P w K tg (Itl K a) [it] it (λ i h=>h.IsListIter it a i) where
 mem:=by simp
 obj:=λ i h st b hb=>by
  have e:b=it:=by simpa using hb
  subst e;obtain ⟨o,e,c,d⟩:=st;exact ⟨o,e,λ v z=>by rw [d] at z; cases z⟩
 keep:=λ i h h' st k=>st.at λ o e=>k it (by simp) o e
 item:=by
  intro X hP hw hK hc i pins s σ H E I hf st hg;subst hP hw hK;obtain ⟨xs,x,hq,hx⟩:=hg;obtain ⟨its,rv,p,hz⟩:=I.list hq;obtain ⟨u,hu,ru⟩:=rv.get hx;obtain ⟨f0,f1,f2,f3,f4,f5⟩:=hf it (by simp);refine wpAny_pyNext_list_item st p.isList (x:=u) (by simpa using hu) λ h' st' sb=>?_;have I1:Inv X pins σ H { s with heap:=h' }:=I.turned (t':=s.toks) (λ b o hb e=>(sb.2 b hb).trans e) f0 f1 f3 f4 f5;obtain ⟨o,e,c,d⟩:=id st';exact ⟨u,rfl,o_e (s:={ s with heap:=h' }) e c d (by decide) ⟨x,H,I1,ru,⟨rfl,λ ys hy=>by rw [I.list_inj hy hq]; exact hx⟩,st',λ b hb=>(hf b hb).1⟩⟩
 done:=by
  intro X hP hw hK hc i pins s σ H E I hf st hg;subst hP hw hK;obtain ⟨xs,hq,hx⟩:=hg;obtain ⟨its,rv,p,hz⟩:=I.list hq;obtain ⟨f0,f1,f2,f3,f4,f5⟩:=hf it (by simp);have hl:=rv.length;exact wpAny_pyNext_list_end (I.ok.hd hc) st p.isList (by simp; omega) λ h' eb=>⟨rfl,I.turned (t':=s.toks) (λ b o hb e=>eb b o hb e) f0 f1 f3 f4 f5⟩
 self:=λ _ _ _ _ _ st h=>wpAny_pyIter_listiter st h
theorem m_J {P:Program} {w:World} {K:Frag} {tg:Expr} (a it:Addr):Turn P w K tg (Itt K a) [it] it (λ i h=>h.IsTupleIter it a i) where
 mem:=by simp
 obj:=λ i h st b hb=>by
  have e:b=it:=by simpa using hb
  subst e;obtain ⟨o,e,c,d⟩:=st;exact ⟨o,e,λ v z=>by rw [d] at z; cases z⟩
 keep:=λ i h h' st k=>st.at λ o e=>k it (by simp) o e
 item:=by
  intro X hP hw hK hc i pins s σ H E I hf st hg;subst hP hw hK;obtain ⟨xs,x,hq,hx⟩:=hg;obtain ⟨its,rv,p,hz⟩:=I.tuple hq;obtain ⟨u,hu,ru⟩:=rv.get hx;obtain ⟨f0,f1,f2,f3,f4,f5⟩:=hf it (by simp);refine wpAny_pyNext_tuple_item st (show s.heap.IsTuple a its.toArray from p) (x:=u) (by simpa using hu) λ h' st' sb=>?_;have I1:Inv X pins σ H { s with heap:=h' }:=I.turned (t':=s.toks) (λ b o hb e=>(sb.2 b hb).trans e) f0 f1 f3 f4 f5;obtain ⟨o,e,c,d⟩:=id st';exact ⟨u,rfl,o_e (s:={ s with heap:=h' }) e c d (by decide) ⟨x,H,I1,ru,⟨rfl,λ ys hy=>by rw [I.tuple_inj hy hq]; exact hx⟩,st',λ b hb=>(hf b hb).1⟩⟩
 done:=by
  intro X hP hw hK hc i pins s σ H E I hf st hg;subst hP hw hK;obtain ⟨xs,hq,hx⟩:=hg;obtain ⟨its,rv,p,hz⟩:=I.tuple hq;obtain ⟨f0,f1,f2,f3,f4,f5⟩:=hf it (by simp);have hl:=rv.length;exact wpAny_pyNext_tuple_end (I.ok.hd hc) st (show s.heap.IsTuple a its.toArray from p) (by simp; omega) λ h' eb=>⟨rfl,I.turned (t':=s.toks) (λ b o hb e=>eb b o hb e) f0 f1 f3 f4 f5⟩
 self:=λ _ _ _ _ _ st h=>wpAny_pyIter_tupleiter st h
theorem m_K {P:Program} {w:World} {K:Frag} {tg:Expr} (it:Addr) (lo:Int) (n:Nat):Turn P w K tg (Itr lo n) [it] it (λ i h=>IsRangeIter h it (lo+(i:Nat)*1) ((n:Int) - (i:Nat)) 1) where
 mem:=by simp
 obj:=λ i h st b hb=>by
  have e:b=it:=by simpa using hb
  subst e;exact ⟨_,st,λ v z=>by
   have z':Data.fields _=Data.cell v:=z;cases z'⟩
 keep:=λ i h h' st k=>k it (by simp) _ st
 item:=by
  intro X hP hw hK hc i pins s σ H E I hf st hg;subst hP hw hK;obtain ⟨f0,f1,f2,f3,f4,f5⟩:=hf it (by simp);have W:=Walks.range (prog:=X.prog) (w:=X.w) (I.ok.hd hc) it lo 1 n;refine W.item i s _ _ hg st λ v h' tk hv st' kk=>?_;obtain ⟨t,rfl⟩:=hv;have I1:Inv X pins σ H { s with heap:=h',toks:=tk }:=I.turned (λ b o hb e=>kk b o (by simpa using hb) e) f0 f1 f3 f4 f5;refine ⟨_,rfl,o_e (s:={ s with heap:=h',toks:=tk }) (n := "range_iterator") st' rfl rfl (by decide) ⟨.int (lo+i),H,I1,⟨t,?_⟩,⟨rfl,rfl⟩,st',λ b hb=>(hf b hb).1⟩⟩;rw [Int.mul_one]
 done:=by
  intro X hP hw hK hc i pins s σ H E I hf st hg;subst hP hw hK;obtain ⟨f0,f1,f2,f3,f4,f5⟩:=hf it (by simp);exact wpAny_pyNext_range_end (I.ok.hd hc) st (by have:n<=i:=hg; omega) λ h' eb=>⟨rfl,I.turned (t':=s.toks) (λ b o hb e=>eb b o hb e) f0 f1 f3 f4 f5⟩
 self:=λ _ _ _ _ _ st h=>wpAny_pyIter_rangeiter st h
section
variable {X:Cx} {tg:Expr}
theorem q_O {pins:List (Addr × Obj)} {σ:St} {H:Hp} {s:Shared} {R:It->Hp->Prop} {E:Value->Shared->Prop} {lo hi:Int} {t u v:Tok} {tk:Nat} (I:Inv X pins σ H s) (h1:-(2 ^ 62)<=lo) (h2:lo < 2 ^ 62) (h3:-(2 ^ 62)<=hi) (h4:hi < 2 ^ 62)
  (q:R (Itr lo (hi - lo).toNat) H):wpAny (model X.prog X.w) X.A (pyIter (.ref s.heap.objs.size)) (PIE X pins σ tg R) E { s with heap:=s.heap.push { cls:=.type "range",data:=.fields #[.int lo t,.int hi u,.int 1 v] },toks:=tk }:=by
 refine wpAny_pyIter_range (IsRange.new ..) (small_one h1 h2 h3 h4) ?_;have I1:Inv X pins σ H { s with heap:=s.heap.push { cls:=.type "range",data:=.fields #[.int lo t,.int hi u,.int 1 v] },toks:=tk }:=I.kept λ b o e=>zD _ e;refine ⟨(s.heap.push { cls:=.type "range",data:=.fields #[.int lo t,.int hi u,.int 1 v] }).objs.size,[(s.heap.push { cls:=.type "range",data:=.fields #[.int lo t,.int hi u,.int 1 v] }).objs.size],_,_,H,rfl,
  I1.kept (t':=tk) λ b o e=>zD _ e,m_K _ lo (hi - lo).toNat,?_,λ b hb=>?_,q⟩
 ·have e1:lo+((0:Nat):Int)*1=lo:=by simp
  have e2:(((hi - lo).toNat:Nat):Int) - ((0:Nat):Int)=Builtin.Range.rangeSize lo hi 1:=by rw [rangeSize_one]; split <;> omega
  show IsRangeIter _ _ (lo+((0:Nat):Int)*1) ((((hi - lo).toNat:Nat):Int) - ((0:Nat):Int)) 1;rw [e1,e2];exact zF _ rfl
 ·have e:b=(s.heap.push { cls:=.type "range",data:=.fields #[.int lo t,.int hi u,.int 1 v] }).objs.size:=by simpa using hb
  subst e;exact I1.fpOk (zL _) (I1.hok.fresh (zL _))
noncomputable def k_O (ta:TA):TI:=λ σ H R=>ta σ H λ vs H1=>∃ j:Int,vs=[.int j]/\-(2 ^ 62)<=j/\j < 2 ^ 62/\R (Itr 0 j.toNat) H1
theorem g_L {a:Expr} {ta:TA} {p pos:Pos} (hg:Gl X "range") (hm:X.mg "range" = none) (ha:PA X [a] ta) (hs:starEach [a] X.env=[(false,eval a X.env)]:=by rfl):PI X tg (.Call (.Name "range" p) [a] [] pos) (k_O ta):=by
 intro pins s σ H R I h;refine Call_ (g_K I hg hm boot_range (PyProof.Rows.callWith_type1 (thn (ha pos pins s σ H _ I h) λ us s1 ⟨vs,H1,I1,r1,q1⟩=>?_) hs rfl));obtain ⟨j,e,q1,q2,q⟩:=q1;subst e;cases r1 with
 | cons r rr =>
  cases rr;obtain ⟨t,rfl⟩:=r;exact call_range_1 (q_O I1 (by omega) (by omega) q1 q2 (by simpa using q))
noncomputable def tFor (wi:TI) (g:TG) (tb:TS):TS:=λ D σ H=>wi σ H λ J H1=>∃ W:Nat->Nat->St->Hp->Prop,(∃ m,W 0 m σ H1)/\∀ i m σ H,W i m σ H ->
 (J.stop i H/\D.nx σ H)\/(J.go i H/\∃ N:St->Hp->Prop,(∀ σ' H',N σ' H'->∃ m',m' < m/\W (i+1) m' σ' H')/\∀ x H',J.yld i H x H'->g x σ H' λ σ2 H2=>tb { D with nx:=N,ct:=N,bk:=D.nx } σ2 H2)
noncomputable def h_V (fp:List Addr) (h:Heap):List (Addr × Obj):=fp.filterMap λ b=>(h.get? b).map λ o=>(b,o)
theorem e_H {fp:List Addr} {h:Heap} {b:Addr} {o:Obj} (hb:b∈fp) (e:h.get? b=some o):(b,o)∈h_V fp h:=List.mem_filterMap.mpr ⟨b,hb,by rw [e]; rfl⟩
theorem p_o {fp:List Addr} {h:Heap} {p:Addr × Obj} (hp:p∈h_V fp h):p.1∈fp/\h.get? p.1=some p.2:=by
 obtain ⟨b,hb,e⟩:=List.mem_filterMap.mp hp;cases q:h.get? b with
 | none=>rw [q] at e; cases e
 | some o =>
  rw [q] at e;have e':(b,o)=p:=zT e;subst e';exact ⟨hb,q⟩
theorem Inv.pinned {pins:List (Addr × Obj)} {σ:St} {H:Hp} {s:Shared} {fp:List Addr} (I:Inv X pins σ H s) (hf:∀ b∈fp,FpOk X pins H b) (ho:∀ b∈fp,∃ o,s.heap.get? b=some o/\∀ v,o.data≠.cell v):Inv X (pins++h_V fp s.heap) σ H s :=
 I.pins_of λ p hp=>(List.mem_append.mp hp).elim (λ z=>I.pin p (zZ _ z)) λ z=>by
  obtain ⟨hb,e⟩:=p_o z;obtain ⟨f0,f1,f2,_⟩:=hf p.1 hb;obtain ⟨o,e',d⟩:=ho p.1 hb;rw [e] at e'; cases e';exact ⟨e,f0,f1,f2,d⟩
theorem Inv.unpinned {pins pl:List (Addr × Obj)} {σ:St} {H:Hp} {s:Shared} (I:Inv X (pins++pl) σ H s):Inv X pins σ H s:=I.pins_of λ p hp=>I.pin p (zZ _ (List.mem_append_left _ hp))
theorem d_A {iter:Expr} {body:List Stmt} {wi:TI} {g:TG} {tb:TS} {pos:Pos} (hp:PassesOwn (model X.prog X.w) X.A X.env X.xe) (hc:X.calm=true) (hi:PI X tg iter wi) (hg:PG X tg g) (hb:PSs X body tb)
  (hs:∀ x,foldedSetIterable iter X.env x=pure x:=by intro _; rfl):PS X (.For tg iter body [] pos) (tFor wi g tb):=by
 intro pins s σ H D I h;refine wpAny_For (thn (hi pins s σ H _ I h) λ v s1 h1=>thn h1 λ itv s2 h2=>?_) hs;obtain ⟨it,fp,tn,J,H2,e,I2,T,st2,f2,W,⟨m0,w0⟩,turn⟩:=h2;subst e
 -- what stays true of the iterator's objects through the loop
 have stat:∀ {H':Hp},(∀ b∈fp,H' b=none)->∀ b∈fp,FpOk X pins H' b:=λ hn b hb=>⟨hn b hb,(f2 b hb).2⟩;refine codeAny_forLoop_any (λ n s'=>∃ i σ' H',Inv X pins σ' H' s'/\tn i s'.heap/\(∀ b∈fp,H' b=none)/\W i n σ' H') ?_ m0 ⟨0,σ,H2,I2,st2,λ b hb=>(f2 b hb).1,w0⟩;rintro n s3 ⟨i,σ3,H3,I3,st3,fr3,w3⟩;rcases turn i n σ3 H3 w3 with ⟨stop,qn⟩ | ⟨go,N,hN,step⟩
 ·refine wpAny_passesOwn hp (thn (T.done X rfl rfl rfl hc i pins s3 σ3 H3 X.xe I3 (stat fr3) st3 stop) λ r s4 ⟨hr,I4⟩=>?_);subst hr;exact wpAny_execs_nil ⟨σ3,H3,I4,qn⟩
 ·refine wpAny_passesOwn hp (thn (T.item X rfl rfl rfl hc i pins s3 σ3 H3 X.xe I3 (stat fr3) st3 go) λ r s4 ⟨u,hr,h4⟩=>?_);subst hr;refine wpAny_passesOwn hp (thn h4 λ _ s5 ⟨x,H5,I5,r5,y5,st5,fr5⟩=>?_);have I5':=I5.pinned (stat fr5) (T.obj _ _ st5);refine wpAny_passesOwn hp (thn (hg _ s5 σ3 H5 x u _ I5' r5 (step x H5 y5)) λ _ s6 ⟨σ6,H6,I6,q6⟩=>?_);refine wpAny_passesOwn hp (thn (hb _ s6 σ6 H6 _ I6 q6) λ f s7 q7=>?_);have again:∀ {σ7:St} {H7:Hp},Inv X (pins++h_V fp s5.heap) σ7 H7 s7->N σ7 H7->∃ m,m < n/\∃ i σ' H',Inv X pins σ' H' s7/\tn i s7.heap/\(∀ b∈fp,H' b=none)/\W i m σ' H':=λ {σ7 H7} I7 n7=>by
   obtain ⟨m',hm,w7⟩:=hN σ7 H7 n7;refine ⟨m',hm,i+1,σ7,H7,I7.unpinned,T.keep _ _ _ st5 λ b hb o e=>(I7.pin (b,o) (zZ _ (zZ _ (e_H hb e)))).1,λ b hb=>?_,w7⟩;obtain ⟨o,e,d⟩:=T.obj _ _ st5 b hb;exact (I7.pin (b,o) (zZ _ (zZ _ (e_H hb e)))).2.1
  cases f with
  | next=>obtain ⟨σ7,H7,I7,n7⟩:=q7; exact again I7 n7
  | cont=>obtain ⟨σ7,H7,I7,n7⟩:=q7; exact again I7 n7
  | brk=>obtain ⟨σ7,H7,I7,q7⟩:=q7; exact ⟨σ7,H7,I7.unpinned,q7⟩
  | ret v=>obtain ⟨x7,σ7,H7,I7,r7,q7⟩:=q7; exact ⟨x7,σ7,H7,I7.unpinned,r7,q7⟩
end
theorem q_P {K:Frag} {a:Addr} {xs:List V} {g:TG} {tb:TS} {D:Ends} {σ:St} {H:Hp} (Pv:Nat->St->Hp->Prop) (h0:Pv 0 σ H) (hl:∀ i σ H,i<=xs.length->Pv i σ H->SqL K H a xs)
  (hs:∀ i x σ H,xs[i]?=some x->Pv i σ H->g x σ H λ σ2 H2=>tb { D with nx:=Pv (i+1),ct:=Pv (i+1),bk:=D.nx } σ2 H2) (hd:∀ σ H,Pv xs.length σ H->D.nx σ H) :
  ∃ W:Nat->Nat->St->Hp->Prop,(∃ m,W 0 m σ H)/\∀ i m σ H,W i m σ H ->
   ((Itl K a).stop i H/\D.nx σ H)\/((Itl K a).go i H/\∃ N:St->Hp->Prop,(∀ σ' H',N σ' H'->∃ m',m' < m/\W (i+1) m' σ' H')/\∀ x H',(Itl K a).yld i H x H'->g x σ H' λ σ2 H2=>tb { D with nx:=N,ct:=N,bk:=D.nx } σ2 H2):=by
 refine ⟨λ i m σ H=>m=xs.length - i/\i<=xs.length/\Pv i σ H,⟨xs.length,by simp,Nat.zero_le _,h0⟩,?_⟩;rintro i m σ H ⟨rfl,hi,p⟩;have q:=hl i σ H hi p
 by_cases hlt:i < xs.length
 ·refine .inr ⟨⟨xs,xs[i],q,by simp [hlt]⟩,Pv (i+1),λ σ' H' p'=>⟨xs.length - (i+1),by omega,rfl,hlt,p'⟩,λ x H' y=>?_⟩;obtain ⟨e,y⟩:=y;subst e;exact hs i x σ _ (y xs q) p
 ·have e:i=xs.length:=by omega
  subst e;exact .inl ⟨⟨xs,q,zL _⟩,hd σ H p⟩
theorem t_H {K:Frag} {a:Addr} {xs:List V} {g:TG} {tb:TS} {D:Ends} {σ:St} {H:Hp} (Pv:Nat->St->Hp->Prop) (h0:Pv 0 σ H) (hl:∀ i σ H,i<=xs.length->Pv i σ H->SqT K H a xs)
  (hs:∀ i x σ H,xs[i]?=some x->Pv i σ H->g x σ H λ σ2 H2=>tb { D with nx:=Pv (i+1),ct:=Pv (i+1),bk:=D.nx } σ2 H2) (hd:∀ σ H,Pv xs.length σ H->D.nx σ H) :
  ∃ W:Nat->Nat->St->Hp->Prop,(∃ m,W 0 m σ H)/\∀ i m σ H,W i m σ H ->
   ((Itt K a).stop i H/\D.nx σ H)\/((Itt K a).go i H/\∃ N:St->Hp->Prop,(∀ σ' H',N σ' H'->∃ m',m' < m/\W (i+1) m' σ' H')/\∀ x H',(Itt K a).yld i H x H'->g x σ H' λ σ2 H2=>tb { D with nx:=N,ct:=N,bk:=D.nx } σ2 H2):=by
 refine ⟨λ i m σ H=>m=xs.length - i/\i<=xs.length/\Pv i σ H,⟨xs.length,by simp,Nat.zero_le _,h0⟩,?_⟩;rintro i m σ H ⟨rfl,hi,p⟩;have q:=hl i σ H hi p
 by_cases hlt:i < xs.length
 ·refine .inr ⟨⟨xs,xs[i],q,by simp [hlt]⟩,Pv (i+1),λ σ' H' p'=>⟨xs.length - (i+1),by omega,rfl,hlt,p'⟩,λ x H' y=>?_⟩;obtain ⟨e,y⟩:=y;subst e;exact hs i x σ _ (y xs q) p
 ·have e:i=xs.length:=by omega
  subst e;exact .inl ⟨⟨xs,q,zL _⟩,hd σ H p⟩
noncomputable abbrev R2:=V->V->Hp->VK->Prop
noncomputable def OpR (X:Cx) (f:Value->Value->Sem Value) (r:R2):Prop :=
 ∀ (pins:List (Addr × Obj)) (s:Shared) (σ:St) (H:Hp) (x y:V) (v u:Value) (Q:VK),Inv X pins σ H s->RelV x v->RelV y u->r x y H Q ->
  wpAny (model X.prog X.w) X.A (f v u) (EP X pins σ Q) X.xe s
noncomputable def UnR (X:Cx) (f:Value->Sem Value) (r:V->Hp->VK->Prop):Prop :=
 ∀ (pins:List (Addr × Obj)) (s:Shared) (σ:St) (H:Hp) (x:V) (v:Value) (Q:VK),Inv X pins σ H s->RelV x v->r x H Q ->
  wpAny (model X.prog X.w) X.A (f v) (EP X pins σ Q) X.xe s
noncomputable def c_O (X:Cx) (f:Value) (r:List V->Hp->VK->Prop):Prop :=
 ∀ (pins:List (Addr × Obj)) (s:Shared) (σ:St) (H:Hp) (xs:List V) (us:List Value) (Q:VK),Inv X pins σ H s->Vals xs us->r xs H Q ->
  wpAny (model X.prog X.w) X.A (call f us) (EP X pins σ Q) X.xe s
noncomputable def tOp (r:R2) (ta tb:TE):TE:=λ σ H Q=>ta σ H λ x H1=>tb σ H1 λ y H2=>r x y H2 Q
noncomputable def tUn (r:V->Hp->VK->Prop) (ta:TE):TE:=λ σ H Q=>ta σ H λ x H1=>r x H1 Q
noncomputable def rI (C:Int->Int->Prop) (g:Int->Int->V):R2:=λ x y H Q=>∃ i j,x=.int i/\y=.int j/\C i j/\Q (g i j) H
noncomputable def rI0 (g:Int->Int->V):R2:=λ x y H Q=>∃ i j,x=.int i/\y=.int j/\Q (g i j) H
noncomputable def rU (g:Int->V):V->Hp->VK->Prop:=λ x H Q=>∃ i,x=.int i/\Q (g i) H
section
variable {X:Cx} {a b c:Expr} {ta tb tc:TE} {pos:Pos}
theorem binT (ha:PE X a ta) (hb:PE X b tb) {pins:List (Addr × Obj)} {s:Shared} {σ:St} {H:Hp} {R:V->V->Hp->Prop} (I:Inv X pins σ H s)
  (h:ta σ H λ x H1=>tb σ H1 λ y H2=>R x y H2) {Q:Value->Shared->Prop} {f:Value->Value->Sem Value}
  (hf:∀ v u s2 x y H2,Inv X pins σ H2 s2->RelV x v->RelV y u->R x y H2->wpAny (model X.prog X.w) X.A (f v u) Q X.xe s2) :
  wpAny (model X.prog X.w) X.A (eval a X.env) (λ v s₁=>wpAny (model X.prog X.w) X.A (eval b X.env) (λ u s₂=>wpAny (model X.prog X.w) X.A (f v u) Q X.xe s₂) X.xe s₁) X.xe s:=by
 refine thn (ha pins s σ H _ I h) λ v s1 ⟨x,H1,I1,r1,q1⟩=>?_;refine thn (hb pins s1 σ H1 _ I1 q1) λ u s2 ⟨y,H2,I2,r2,q2⟩=>?_;exact hf v u s2 x y H2 I2 r1 r2 q2
theorem a_Z {op:Operator} {r:R2} (ho:OpR X (binaryOp op) r) (ha:PE X a ta) (hb:PE X b tb):PE X (.BinOp a op b pos) (tOp r ta tb):=by
 intro pins s σ H Q I h;exact wpAny_BinOp (binT ha hb I h λ v u s2 x y H2 I2 rx ry q=>ho pins s2 σ H2 x y v u Q I2 rx ry q)
theorem e_S {op:UnaryOp} {r:V->Hp->VK->Prop} (ho:UnR X (unaryOp op) r) (ha:PE X a ta):PE X (.UnaryOp op a pos) (tUn r ta):=by
 intro pins s σ H Q I h;exact UnaryOp_ (thn (ha pins s σ H _ I h) λ v s1 ⟨x,H1,I1,r1,q1⟩=>ho pins s1 σ H1 x v Q I1 r1 q1)
theorem opI {f:Value->Value->Sem Value} {C:Int->Int->Prop} {g:Int->Int->Int}
  (rule:∀ (i j:Int) (t u:Tok) (s:Shared) (Q:Value->Shared->Prop) (E:Value->Shared->Prop),C i j->Q (.int (g i j) s.toks) { s with toks:=s.toks+1 }->wpAny (model X.prog X.w) X.A (f (.int i t) (.int j u)) Q E s) :
  OpR X f (rI C λ i j=>.int (g i j)):=by
 intro pins s σ H x y v u Q I rx ry h;obtain ⟨i,j,rfl,rfl,hc,q⟩:=h;obtain ⟨t,rfl⟩:=rx;obtain ⟨t',rfl⟩:=ry;exact rule i j t t' s _ _ hc ⟨.int (g i j),H,I.tok _,⟨_,rfl⟩,q⟩
theorem opI0 {f:Value->Value->Sem Value} {g:Int->Int->Int}
  (rule:∀ (i j:Int) (t u:Tok) (s:Shared) (Q:Value->Shared->Prop) (E:Value->Shared->Prop),Q (.int (g i j) s.toks) { s with toks:=s.toks+1 }->wpAny (model X.prog X.w) X.A (f (.int i t) (.int j u)) Q E s) :
  OpR X f (rI0 λ i j=>.int (g i j)):=by
 intro pins s σ H x y v u Q I rx ry h;obtain ⟨i,j,rfl,rfl,q⟩:=h;obtain ⟨t,rfl⟩:=rx;obtain ⟨t',rfl⟩:=ry;exact rule i j t t' s _ _ ⟨.int (g i j),H,I.tok _,⟨_,rfl⟩,q⟩
theorem opB0 {f:Value->Value->Sem Value} {g:Int->Int->Bool}
  (rule:∀ (i j:Int) (t u:Tok) (s:Shared) (Q:Value->Shared->Prop) (E:Value->Shared->Prop),Q (.bool (g i j)) s->wpAny (model X.prog X.w) X.A (f (.int i t) (.int j u)) Q E s) :
  OpR X f (rI0 λ i j=>.bl (g i j)):=by
 intro pins s σ H x y v u Q I rx ry h;obtain ⟨i,j,rfl,rfl,q⟩:=h;obtain ⟨t,rfl⟩:=rx;obtain ⟨t',rfl⟩:=ry;exact rule i j t t' s _ _ ⟨.bl (g i j),H,I,rfl,q⟩
noncomputable def CPow (i j:Int):Prop:=0<=j/\j<=1000000/\i.natAbs < 2 ^ 64
noncomputable def CMul (i j:Int):Prop:=(-(2 ^ 64) < i/\i < 2 ^ 64)\/(-(2 ^ 64) < j/\j < 2 ^ 64)
theorem CMul.ok {i j:Int} (h:CMul i j):IntMulOk i j:=by
 rcases h with ⟨h1,h2⟩ | ⟨h1,h2⟩
 ·exact .of_left (intBits_le_64 h1 h2)
 ·exact .of_right (intBits_le_64 h1 h2)
theorem g_b:OpR X (binaryOp .Add) (rI0 λ i j=>.int (i+j)):=opI0 λ _ _ _ _ _ _ _ q=>add_int q
theorem h_W:OpR X (binaryOp .Sub) (rI0 λ i j=>.int (i - j)):=opI0 λ _ _ _ _ _ _ _ q=>sub_int q
theorem c_P:OpR X (binaryOp .Mod) (rI (λ _ j=>j≠0) λ i j=>.int (i.fmod j)):=opI λ _ _ _ _ _ _ _ hc q=>mod_int' hc q
theorem q_Q:OpR X (binaryOp .Pow) (rI CPow λ i j=>.int (i ^ j.toNat)):=opI λ _ _ _ _ _ _ _ hc q=>pow_int_small hc.1 hc.2.1 hc.2.2 q
theorem unI {f:Value->Sem Value} {g:Int->Int}
  (rule:∀ (i:Int) (t:Tok) (s:Shared) (Q:Value->Shared->Prop) (E:Value->Shared->Prop),Q (.int (g i) s.toks) { s with toks:=s.toks+1 }->wpAny (model X.prog X.w) X.A (f (.int i t)) Q E s) :
  UnR X f (rU λ i=>.int (g i)):=by
 intro pins s σ H x v Q I rx h;obtain ⟨i,rfl,q⟩:=h;obtain ⟨t,rfl⟩:=rx;exact rule i t s _ _ ⟨.int (g i),H,I.tok _,⟨_,rfl⟩,q⟩
theorem d_S:UnR X (unaryOp .USub) (rU λ i=>.int (-i)):=unI λ _ _ _ _ _ q=>neg_int q
end
noncomputable def scal:V->V->Bool
 | .non,.non=>true | .non,.int _=>true | .int _,.non=>true | .non,.bl _=>true | .bl _,.non=>true | .non,.str _=>true | .str _,.non=>true
 | .int _,.int _=>true | .bl _,.bl _=>true | .str _,.str _=>true | .byt _,.byt _=>true
 | .int _,.str _=>true | .str _,.int _=>true | .bl _,.str _=>true | .str _,.bl _=>true
 | _,_=>false
noncomputable def rEq:R2:=λ x y H Q=>scal x y=true/\Q (.bl (decide (x=y))) H
noncomputable def rNe:R2:=λ x y H Q=>scal x y=true/\Q (.bl (!decide (x=y))) H
theorem o_f {i j:Int}:decide (V.int i=V.int j)=(i == j):=by
 rw [Bool.eq_iff_iff];simp
theorem q_R {i j:Bool}:decide (V.bl i=V.bl j)=(i == j):=by
 rw [Bool.eq_iff_iff];simp
theorem o_g {i j:Str}:decide (V.str i=V.str j)=(i == j):=by
 rw [Bool.eq_iff_iff];simp
theorem o_h {i j:Array UInt8}:decide (V.byt i=V.byt j)=(i.toList == j.toList):=by
 rw [Bool.eq_iff_iff];cases i;cases j;simp
section
variable {X:Cx} {a b c:Expr} {ta tb tc:TE} {pos:Pos}
theorem b_H {pins:List (Addr × Obj)} {σ:St} {H:Hp} {s:Shared} {Q:VK} {k k':Bool} (I:Inv X pins σ H s) (q:Q (.bl k) H) (e:k=k'):EP X pins σ Q (.bool k') s:=by
 subst e;exact ⟨.bl k,H,I,rfl,q⟩
theorem q_S:OpR X (compareOp .Eq) rEq:=by
 intro pins s σ H x y v u Q I rx ry h;obtain ⟨hs,q⟩:=h;cases x with
 | non =>
  cases rx;cases y with
  | non=>cases ry; exact PySem.EqNone.eq_none_none (b_H I q (by simp))
  | bl j=>cases ry; exact PySem.EqNone.eq_none_bool (b_H I q (by simp))
  | int j=>obtain ⟨t',rfl⟩:=ry; exact PySem.EqNone.eq_none_int (b_H I q (by simp))
  | str j=>obtain ⟨t',rfl⟩:=ry; exact PySem.EqNone.eq_none_str (b_H I q (by simp))
  | _=>exact yJ (show false=true from hs) zV
 | bl i =>
  cases rx;cases y with
  | non=>cases ry; exact PySem.EqNone.eq_bool_none (b_H I q (by simp))
  | bl j=>cases ry; exact eq_bool (b_H I q q_R)
  | str j=>obtain ⟨t',rfl⟩:=ry; exact PySem.EqMixed.eq_bool_str (b_H I q (by simp))
  | _=>exact yJ (show false=true from hs) zV
 | int i =>
  obtain ⟨t,rfl⟩:=rx;cases y with
  | non=>cases ry; exact PySem.EqNone.eq_int_none (b_H I q (by simp))
  | int j=>obtain ⟨t',rfl⟩:=ry; exact eq_int (b_H I q o_f)
  | str j=>obtain ⟨t',rfl⟩:=ry; exact PySem.EqMixed.eq_int_str (b_H I q (by simp))
  | _=>exact yJ (show false=true from hs) zV
 | str i =>
  obtain ⟨t,rfl⟩:=rx;cases y with
  | non=>cases ry; exact PySem.EqNone.eq_str_none (b_H I q (by simp))
  | bl j=>cases ry; exact PySem.EqMixed.eq_str_bool (b_H I q (by simp))
  | int j=>obtain ⟨t',rfl⟩:=ry; exact PySem.EqMixed.eq_str_int (b_H I q (by simp))
  | str j=>obtain ⟨t',rfl⟩:=ry; exact eq_str (b_H I q o_g)
  | _=>exact yJ (show false=true from hs) zV
 | byt i =>
  obtain ⟨t,rfl⟩:=rx;cases y with
  | byt j=>obtain ⟨t',rfl⟩:=ry; exact PySem.W.eq_bytes (b_H I q o_h)
  | _=>exact yJ (show false=true from hs) zV
 | _=>cases y <;> exact yJ (show false=true from hs) zV
theorem w_w:OpR X (compareOp .NotEq) rNe:=by
 intro pins s σ H x y v u Q I rx ry h;obtain ⟨hs,q⟩:=h;cases x with
 | non =>
  cases rx;cases y with
  | non=>cases ry; exact PySem.EqNone.ne_none_none (b_H I q (by simp))
  | bl j=>cases ry; exact PySem.EqNone.ne_none_bool (b_H I q (by simp))
  | int j=>obtain ⟨t',rfl⟩:=ry; exact PySem.EqNone.ne_none_int (b_H I q (by simp))
  | str j=>obtain ⟨t',rfl⟩:=ry; exact PySem.EqNone.ne_none_str (b_H I q (by simp))
  | _=>exact yJ (show false=true from hs) zV
 | bl i =>
  cases rx;cases y with
  | non=>cases ry; exact PySem.EqNone.ne_bool_none (b_H I q (by simp))
  | bl j=>cases ry; exact ne_bool (b_H I q (congrArg not q_R))
  | str j=>obtain ⟨t',rfl⟩:=ry; exact PySem.EqMixed.ne_bool_str (b_H I q (by simp))
  | _=>exact yJ (show false=true from hs) zV
 | int i =>
  obtain ⟨t,rfl⟩:=rx;cases y with
  | non=>cases ry; exact PySem.EqNone.ne_int_none (b_H I q (by simp))
  | int j=>obtain ⟨t',rfl⟩:=ry; exact ne_int (b_H I q (congrArg not o_f))
  | str j=>obtain ⟨t',rfl⟩:=ry; exact PySem.EqMixed.ne_int_str (b_H I q (by simp))
  | _=>exact yJ (show false=true from hs) zV
 | str i =>
  obtain ⟨t,rfl⟩:=rx;cases y with
  | non=>cases ry; exact PySem.EqNone.ne_str_none (b_H I q (by simp))
  | bl j=>cases ry; exact PySem.EqMixed.ne_str_bool (b_H I q (by simp))
  | int j=>obtain ⟨t',rfl⟩:=ry; exact PySem.EqMixed.ne_str_int (b_H I q (by simp))
  | str j=>obtain ⟨t',rfl⟩:=ry; exact ne_str (b_H I q (congrArg not o_g))
  | _=>exact yJ (show false=true from hs) zV
 | byt i =>
  obtain ⟨t,rfl⟩:=rx;cases y with
  | byt j=>obtain ⟨t',rfl⟩:=ry; exact PySem.W.ne_bytes (b_H I q (congrArg not o_h))
  | _=>exact yJ (show false=true from hs) zV
 | _=>cases y <;> exact yJ (show false=true from hs) zV
theorem f_X:OpR X (compareOp .Lt) (rI0 λ i j=>.bl (decide (i < j))):=opB0 λ _ _ _ _ _ _ _ q=>lt_int q
theorem h_X:OpR X (compareOp .Gt) (rI0 λ i j=>.bl (decide (j < i))):=opB0 λ _ _ _ _ _ _ _ q=>gt_int q
theorem w_x:OpR X (compareOp .GtE) (rI0 λ i j=>.bl (decide (j<=i))):=opB0 λ _ _ _ _ _ _ _ q=>ge_int q
theorem v_t:OpR X (compareOp .Is) (λ x y H Q=>y=.non/\Q (.bl (decide (x=.non))) H):=by
 intro pins s σ H x y v u Q I rx ry h;obtain ⟨rfl,q⟩:=h;cases ry;refine is_none_gen (b_H I q ?_);cases x <;> first
  | (cases rx; rfl)
  | (obtain ⟨t,rfl⟩:=rx; rfl)
theorem j_H:OpR X (compareOp .NotIn) (λ x y H Q=>∃ i j,x=.str i/\y=.str j/\Q (.bl (!(!(Builtin.Str.occurrences j i 0 j.length 1).isEmpty))) H):=by
 intro pins s σ H x y v u Q I rx ry h;obtain ⟨i,j,rfl,rfl,q⟩:=h;obtain ⟨t,rfl⟩:=rx;obtain ⟨t',rfl⟩:=ry;exact notIn_str (b_H I q rfl)
theorem OpR.or {f:Value->Value->Sem Value} {r r':R2} (h:OpR X f r) (h':OpR X f r'):OpR X f (λ x y H Q=>r x y H Q\/r' x y H Q):=by
 intro pins s σ H x y v u Q I rx ry q;rcases q with q | q
 ·exact h pins s σ H x y v u Q I rx ry q
 ·exact h' pins s σ H x y v u Q I rx ry q
theorem a_U (b:Expr) {op:CmpOp} (h:op≠.In:=by decide) (h2:op≠.NotIn:=by decide):behindInMarks op b=false:=by
 have e1:(op == CmpOp.In)=false:=by cases op <;> first | rfl | exact yJ rfl h
 have e2:(op == CmpOp.NotIn)=false:=by cases op <;> first | rfl | exact yJ rfl h2
 cases b <;> simp [behindInMarks,e1,e2]
theorem t_I {op:CmpOp} {r:R2} (ho:OpR X (compareOp op) r) (ha:PE X a ta) (hb:PE X b tb) (hm:behindInMarks op b=false):PE X (.Compare a [op] [b] pos) (tOp r ta tb):=by
 intro pins s σ H Q I h;exact wpAny_Compare1 (binT ha hb I h λ v u s2 x y H2 I2 rx ry q=>ho pins s2 σ H2 x y v u Q I2 rx ry q) hm
noncomputable def k_P (t:TE):TT:=λ σ H Q=>t σ H λ x H'=>∃ k,x=.bl k/\Q k H'
theorem a_K {op:CmpOp} {r:R2} (ho:OpR X (compareOp op) r) (ha:PE X a ta) (hb:PE X b tb) (hm:behindInMarks op b=false):PT X (.Compare a [op] [b] pos) (k_P (tOp r ta tb)):=by
 intro pins s σ H Q I h;refine wpAny_isTrue_Compare1 (thn (ha pins s σ H _ I h) λ v s1 ⟨x,H1,I1,r1,q1⟩=>thn (hb pins s1 σ H1 _ I1 q1) λ u s2 ⟨y,H2,I2,r2,q2⟩ =>
  thn (ho pins s2 σ H2 x y v u _ I2 r1 r2 q2) λ c s3 ⟨z,H3,I3,r3,k,e,q3⟩=>?_) hm
 subst e;cases r3;exact wpAny_truthy_bool ⟨H3,I3,q3⟩
theorem h_Y:(sizeLine:Nat) < 2 ^ 63:=by rw [sizeLine_eq]; decide
theorem e_T {x:V} {us:List Value} (r:Vals [x] us):∃ u,us=[u]/\RelV x u:=by
 cases r with
 | cons r1 r2=>cases r2; exact ⟨_,rfl,r1⟩
theorem f_z:c_O X (.builtin "abs") (λ xs H Q=>∃ i,xs=[.int i]/\Q (.int (if i < 0 then -i else i)) H):=by
 intro pins s σ H xs us Q I r h;obtain ⟨i,rfl,q⟩:=h;obtain ⟨u,rfl,t,rfl⟩:=e_T r;exact call_abs_int λ u tk=>⟨.int (if i < 0 then -i else i),H,I.tok _,⟨_,rfl⟩,q⟩
end
structure ObjM (h:Heap) (x dx C:Addr) (mA:Str->Option Value):Prop where
 obj:h.get? x=some (PySem.W.instObj C dx)
 ns:h.Ns1 dx mA
 ne:dx≠x
theorem p_p {h:Heap} {dx:Addr} {mA:Str->Option Value} (n:h.Ns1 dx mA):∃ od,h.get? dx=some od/\∀ name,PySem.W.lookIn name od=some (mA name):=by
 obtain ⟨o,es,ep,ho,hd,hk,_,hm⟩:=n;refine ⟨o,ho,λ name=>?_⟩;have e:=hm name;unfold nsFind findBy at e;rw [← Array.find?_toList] at e;unfold PySem.W.lookIn;rw [hd];dsimp only;split
 ·rename_i y q;rw [q] at e;exact congrArg some e
 ·rename_i q;rw [q] at e;have a:es.toList.any (·.refKey)=false:=by
   rw [List.any_eq_false];intro y hy;obtain ⟨z,t,hkey⟩:=hk y (Array.mem_toList_iff.mp hy);simp [DictEntry.refKey,hkey]
  have a':¬ es.toList.any (·.refKey)=true:=by rw [a]; exact zV
  rw [if_neg a'];exact congrArg some e
theorem ObjM.look {h:Heap} {x dx C:Addr} {mA:Str->Option Value} (I:ObjM h x dx C mA):∃ od,PySem.W.InstAt h x (PySem.W.instObj C dx) C (some od)/\∀ name,PySem.W.lookIn name od=some (mA name) :=
 let ⟨od,ho,hl⟩:=p_p I.ns
 ⟨od,⟨I.obj,rfl,rfl,ho⟩,hl⟩
section
variable {prog:Program} {w:World} {A:Around} {E:Value->Shared->Prop} {s:Shared} {K:Frag} {x dx C f:Addr} {mA:Str->Option Value} {name:Str} {v:Value}
theorem t_J {expr:Bool} {Q:Value->Shared->Prop} (X:K.In s.heap) (I:ObjM s.heap x dx C mA) (hg:PySem.W.plainGet K C name=true) (hh:PySem.W.hasDictIn K C=true)
  (ha:PySem.W.findIn K (.ref C) name=some none) (hv:mA name=some v) (hv':PySem.W.handedIn v=true) (h:Q v { s with toks:=s.toks+1 }) :
  wpAny (model prog w) A (getAttr (.ref x) name expr) Q E s:=by
 obtain ⟨od,J,hl⟩:=I.look;exact PySem.W.get_value X J (PySem.W.plainGet_of hg).1 (PySem.W.findObj_own hh ha rfl (by rw [hl,hv])) hv' h
theorem q_T {pl:Sem Bool} {Q:Value × List Value->Shared->Prop} (X:K.In s.heap) (I:ObjM s.heap x dx C mA) (hg:PySem.W.plainGet K C name=true)
  (hf:PySem.W.findIn K (.ref C) name=some (some (.ref f))) (ht:PySem.W.isFn K (.ref f)=true) (hv:mA name=none) (h:Q (.ref f,[.ref x]) s) :
  wpAny (model prog w) A (getMethod (.ref x) name pl) Q E s:=by
 obtain ⟨od,J,hl⟩:=I.look;exact PySem.W.method_fn X J (PySem.W.plainGet_of hg).1 (PySem.W.plainGet_of hg).2 hf (beq_iff_eq.mp ht) (by show (PySem.W.lookIn name od).map (·.isSome)=some false; rw [hl,hv]; rfl) h
theorem t_K {ns:List Str} {Q:Unit->Shared->Prop} (X:K.In s.heap) (I:ObjM s.heap x dx C mA)
  (hs:PySem.W.findIn K (.ref C) "__setattr__" = some (some (.builtin "object.__setattr__"))) (hp:PySem.W.plainOver K C=true) (ht:PySem.W.takerIn K C name=some none) (hh:PySem.W.hasDictIn K C=true)
  (hw:PySem.Within mA ns) (hsz:ns.length<=sizeLine)
  (h:∀ h',ObjM h' x dx C (λ y=>if y=name then some v else mA y)->Heap.SameBut dx s.heap h'->Q () { s with heap:=h',toks:=s.toks+2 }) :
  wpAny (model prog w) A (setAttr (.ref x) name v) Q E s:=by
 obtain ⟨od,J,hl⟩:=I.look;refine PySem.W.set_plain X J hs (PySem.W.osa_open (s:={ s with toks:=s.toks+1 }) (r:=none) X J hp ht λ b=>?_);obtain ⟨cd,hc,hd'⟩:=PySem.W.any_some hh;have hx:s.heap.get? x=some ⟨.ref C,some dx,.plain,#[]⟩:=I.obj;refine zA (zB (zA (zA (wpAny_loadPart hx (zA (PySem.W.Looks.here (s:={ s with toks:=s.toks+1 }) (PySem.W.looks_clsIn X hc) ?_))))));rw [hd'];refine zB (a:=some dx) (zA (zB (zA ?_)));refine wpAny_nsSet1 (s:={ s with toks:=s.toks+1 }) I.ns λ h' hn2 hs2=>?_;obtain ⟨oD,esD,epD,hoD,hdD,hcD⟩:=hn2.count (PySem.Within.cons name v hw);refine zA (wpAny_lookBehind hoD (by rw [hdD]; exact pastItsLine_dict (zS hcD (by rw [List.length_cons]; omega))) ?_);exact zB (h _ ⟨(hs2.2 _ (Ne.symm I.ne)).trans I.obj,hn2,I.ne⟩ hs2)
theorem q_U {R:Result->Shared->Prop} {vs:List Value} {kw:List (Str × Value)} (X:K.In s.heap) (hm:PySem.W.makesIn K C=true)
  (hi:PySem.W.findIn K (.ref C) "__init__" = some (some (.ref f))) (hf:PySem.W.typeIn K (.ref f)=some (.type "function"))
  (h:codeAny (model prog w) (A.under (.builtin "type.__call__" ⟨.ref C :: vs,kw⟩)) (.call (.ref f) ⟨.ref (s.heap.objs.size+1) :: vs,kw⟩) (PySem.W.InitBack (s.heap.objs.size+1) R)
   { s with heap:=(s.heap.push PySem.W.emptyDict).push (PySem.W.instObj C s.heap.objs.size) }) :
  codeAny (model prog w) A (.call (.ref C) ⟨vs,kw⟩) R s:=by
 obtain ⟨hh,g,d,t,os⟩:=s;exact PySem.W.make_core (PySem.W.makes_of X hm) (PySem.W.looks_findIn X hi) (λ self=>PySem.W.bind_fn X self hf) (.inl rfl) h
end
noncomputable def putF (f:Str) (v:V):List (Str × V)->List (Str × V)
 | []=>[(f,v)]
 | (g,x) :: r=>if g=f then (g,v) :: r else (g,x) :: putF f v r
theorem h_j (f g:Str) (v:V):∀ fs:List (Str × V),(putF f v fs).lookup g=if g=f then some v else fs.lookup g
 | []=>by
  show List.lookup g [(f,v)]=_
  by_cases h:g=f
  ·have hb:(g == f)=true:=beq_iff_eq.mpr h;simp only [List.lookup,hb,if_pos h]
  ·have hb:(g == f)=false:=beq_eq_false_iff_ne.mpr h;simp only [List.lookup,hb,if_neg h]
 | (k,x) :: r=>by
  have ih:=h_j f g v r;rw [show putF f v ((k,x) :: r)=(if k=f then (k,v) :: r else (k,x) :: putF f v r) from rfl]
  by_cases hk:k=f
  ·rw [if_pos hk]
   by_cases h:g=k
   ·have hb:(g == k)=true:=beq_iff_eq.mpr h;simp only [List.lookup,hb,if_pos (h.trans hk)]
   ·have hb:(g == k)=false:=beq_eq_false_iff_ne.mpr h;simp only [List.lookup,hb,if_neg (λ e:g=f=>h (e.trans hk.symm))]
  ·rw [if_neg hk]
   by_cases h:g=k
   ·have hb:(g == k)=true:=beq_iff_eq.mpr h;simp only [List.lookup,hb,if_neg (λ e:g=f=>hk (h.symm.trans e))]
   ·have hb:(g == k)=false:=beq_eq_false_iff_ne.mpr h;simp only [List.lookup,hb];exact ih
theorem g_M (f:Str) (v:V):∀ fs:List (Str × V),f∈(putF f v fs).map (·.1)/\∀ g,g∈fs.map (·.1)->g∈(putF f v fs).map (·.1)
 | []=>⟨by simp [putF],λ g h=>by simp at h⟩
 | (k,x) :: r=>by
  obtain ⟨i1,i2⟩:=g_M f v r;rw [show putF f v ((k,x) :: r)=(if k=f then (k,v) :: r else (k,x) :: putF f v r) from rfl]
  by_cases hk:k=f
  ·rw [if_pos hk];subst hk;exact ⟨by simp,λ g h=>by simpa using h⟩
  ·rw [if_neg hk];refine ⟨?_,λ g h=>?_⟩
   ·rw [List.map_cons];exact zN _ i1
   ·rw [List.map_cons] at h ⊢;rcases List.mem_cons.mp h with e | e
    ·exact List.mem_cons.mpr (.inl e)
    ·exact zN _ (i2 g e)
theorem h_v (f:Str) (v:V):∀ fs:List (Str × V),(putF f v fs).length<=fs.length+1
 | []=>by simp [putF]
 | (k,x) :: r=>by
  have ih:=h_v f v r;rw [show putF f v ((k,x) :: r)=(if k=f then (k,v) :: r else (k,x) :: putF f v r) from rfl]
  by_cases hk:k=f
  ·rw [if_pos hk,List.length_cons,List.length_cons]; omega
  ·rw [if_neg hk,List.length_cons,List.length_cons]; omega
theorem RelO.some_of {v:V} {o:Option Value} (r:RelO (some v) o):∃ u,o=some u/\RelV v u:=by
 cases o with
 | none=>exact (show False from r).elim
 | some u=>exact ⟨u,rfl,r⟩
theorem RelO.none_of {o:Option Value} (r:RelO none o):o=none:=by
 cases o with
 | none=>rfl
 | some u=>exact (show False from r).elim
theorem p_q {v:V} {u:Value} (r:RelV v u):PySem.W.handedIn u=true:=by
 cases v with
 | non=>cases (show u=Value.none from r); rfl
 | bl b=>cases (show u=Value.bool b from r); rfl
 | int i=>obtain ⟨t,e⟩:=(show ∃ t,u=Value.int i t from r); cases e; rfl
 | str x=>obtain ⟨t,e⟩:=(show ∃ t,u=Value.str x t from r); cases e; rfl
 | byt b=>obtain ⟨t,e⟩:=(show ∃ t,u=Value.bytes b t from r); cases e; rfl
 | flt b=>obtain ⟨t,e⟩:=(show ∃ t,u=Value.float b t from r); cases e; rfl
 | ref a=>cases (show u=Value.ref a from r); rfl
 | ty n=>cases (show u=Value.type n from r); rfl
section
variable {P:Program} {w:World} {H H':Hp} {h h':Heap} {a C dx:Addr} {fs fs':List (Str × V)}
theorem h_H (hok:HOk P w H h) (e:H a=some (.ins C dx fs)):∃ mA,ObjM h a dx C mA/\(∀ f,RelO (fs.lookup f) (mA f))/\PySem.Within mA (fs.map (·.1))/\fs.length<=1000/\H dx=some (.own a):=by
 obtain ⟨d,z,ne,ob,mA,n,r,q⟩:=(show c_A P w H h a (.ins C dx fs) from hok a _ e);exact ⟨mA,⟨ob,n,ne⟩,r,q,z,d⟩
end
structure Cls (K:Frag) (C:Addr):Prop where
 pg:PySem.W.plainGet K C Str.empty=true
 hd:PySem.W.hasDictIn K C=true
 po:PySem.W.plainOver K C=true
 sa:PySem.W.findIn K (.ref C) "__setattr__" = some (some (.builtin "object.__setattr__"))
theorem Cls.get {K:Frag} {C:Addr} (c:Cls K C) (f:Str):PySem.W.plainGet K C f=true:=c.pg
noncomputable def g_c (K:Frag) (C:Addr) (f:Str):Prop:=PySem.W.findIn K (.ref C) f=some none
theorem g_c.taker {K:Frag} {C:Addr} {f:Str} (n:g_c K C f):PySem.W.takerIn K C f=some none:=by
 unfold PySem.W.takerIn;rw [show PySem.W.findIn K (.ref C) f=some none from n];rfl
structure Meth (K:Frag) (C:Addr) (m:Str) (f:Addr):Prop where
 at_:PySem.W.findIn K (.ref C) m=some (some (.ref f))
 fn:PySem.W.isFn K (.ref f)=true
 kp:PySem.W.keepIn K (.ref f)=true
section
variable {X:Cx} {pins:List (Addr × Obj)} {σ:St} {H:Hp} {s:Shared} {a C dx:Addr} {fs:List (Str × V)} {f:Str} {v:V} {A:Around} {E:Value->Shared->Prop}
theorem m_L {b:Bool} {Q:Value->Shared->Prop} (I:Inv X pins σ H s) (e:H a=some (.ins C dx fs)) (c:Cls X.K C) (n:g_c X.K C f) (l:fs.lookup f=some v)
  (h:∀ u s',Inv X pins σ H s'->RelV v u->Q u s'):wpAny (model X.prog X.w) A (getAttr (.ref a) f b) Q E s:=by
 obtain ⟨mA,O,r,_,_,_⟩:=h_H I.hok e;obtain ⟨u,hu,ru⟩:=RelO.some_of (v:=v) (o:=mA f) (by rw [← l]; exact r f);exact t_J I.kIn O (c.get f) c.hd n hu (p_q ru) (h u _ (I.tok _) ru)
theorem h_Z {m:Str} {g:Addr} {pl:Sem Bool} {Q:Value × List Value->Shared->Prop} (I:Inv X pins σ H s) (e:H a=some (.ins C dx fs)) (c:Cls X.K C) (k:Meth X.K C m g) (l:fs.lookup m=none)
  (h:Q (.ref g,[.ref a]) s):wpAny (model X.prog X.w) A (getMethod (.ref a) m pl) Q E s:=by
 obtain ⟨mA,O,r,_,_,_⟩:=h_H I.hok e;have hn:mA m=none:=RelO.none_of (by rw [← l]; exact r m);exact q_T I.kIn O (c.get m) k.at_ k.fn hn h
theorem m_M {y:V} {u:Value} {Q:Unit->Shared->Prop} (I:Inv X pins σ H s) (e:H a=some (.ins C dx fs)) (c:Cls X.K C) (n:g_c X.K C f) (hl:fs.length < 1000) (ry:RelV y u)
  (h:∀ s',Inv X pins σ (upd H a (.ins C dx (putF f y fs))) s'->Q () s'):wpAny (model X.prog X.w) A (setAttr (.ref a) f u) Q E s:=by
 obtain ⟨mA,O,r,wi,_,ho⟩:=h_H I.hok e;have hz:(fs.map (·.1)).length<=sizeLine:=by rw [yI,sizeLine_eq]; omega
 refine t_K I.kIn O c.sa c.po n.taker c.hd wi hz λ h' O' sb=>h _ ?_;have hd:∃ o,h'.get? dx=some o:=let ⟨o,_,_,e',_⟩:=O'.ns; ⟨o,e'⟩
 refine I.write (x:=a) (e:=dx) (by rw [e]; exact True.intro) (.inr ho) (λ b q hb z=>(sb.2 b hb).trans z) hd ?_;refine ⟨by rw [a_I O.ne]; exact ho,?_,O.ne,O'.obj,_,O'.ns,λ g=>?_,λ g hg=>?_⟩
 ·have:=h_v f y fs; omega
 ·show RelO ((putF f y fs).lookup g) (if g=f then some u else mA g);rw [h_j]
  by_cases q:g=f
  ·rw [if_pos q,if_pos q]; exact ry
  ·rw [if_neg q,if_neg q]; exact r g
 ·by_cases q:g=f
  ·rw [q]; exact (g_M f y fs).1
  ·refine (g_M f y fs).2 g (wi g λ z=>hg ?_);show (if g=f then some u else mA g)=none;rw [if_neg q]; exact z
theorem Inv.made (I:Inv X pins σ H s):Inv X pins σ (upd (upd H s.heap.objs.size (.own (s.heap.objs.size+1))) (s.heap.objs.size+1) (.ins C s.heap.objs.size []))
  { s with heap:=(s.heap.push PySem.W.emptyDict).push (PySem.W.instObj C s.heap.objs.size) }:=by
 have e1:(s.heap.push PySem.W.emptyDict).get? s.heap.objs.size=some PySem.W.emptyDict:=zF s.heap rfl;have e2:((s.heap.push PySem.W.emptyDict).push (PySem.W.instObj C s.heap.objs.size)).get? (s.heap.objs.size+1)=some (PySem.W.instObj C s.heap.objs.size):=by
  have:=zF (s.heap.push PySem.W.emptyDict) (o:=PySem.W.instObj C s.heap.objs.size) rfl
  rwa [Heap.size_push] at this
 have e3:(s.heap.push PySem.W.emptyDict).Ns s.heap.objs.size (λ _=>none):=⟨PySem.W.emptyDict,#[],_,e1,rfl,(λ e he=>yJ he (by simp)),λ _=>rfl⟩;have I1:=I.laid (a:=s.heap.objs.size) (o:=.own (s.heap.objs.size+1)) (h':=s.heap.push PySem.W.emptyDict) (t':=s.toks) (λ b u q=>zD _ q) (zL _) ⟨_,e1⟩;refine I1.laid (a:=s.heap.objs.size+1) (o:=.ins C s.heap.objs.size []) (t':=s.toks) (λ b u q=>zD _ q) (Nat.le_of_eq (Heap.size_push _ _)) ?_;have ne:s.heap.objs.size≠s.heap.objs.size+1:=Nat.ne_of_lt (Nat.lt_succ_self _);refine ⟨by rw [a_I ne,a_F],Nat.zero_le _,ne,e2,λ _=>none,(Heap.Ns1.of_empty e3).at λ o q=>zD _ q,λ _=>True.intro,λ y hy=>yJ rfl hy⟩
theorem t_L {prog:Program} {w:World} {env:Env} {e:Expr} {f:Str} {pos:Pos} {s:Shared} {Q:Value->Shared->Prop} (hb:attributeBase e f env (eval e env)=eval e env)
  (h:wpAny (model prog w) A (eval e env) (λ o s₁=>wpAny (model prog w) A (getAttr o f true) Q E s₁) E s):wpAny (model prog w) A (eval (.Attribute e f pos) env) Q E s :=
 Attribute_any_ h (by rw [arm_eval_Attribute,hb])
end
noncomputable def tFld (K:Frag) (ta:TE) (f:Str):TE:=λ σ H Q=>ta σ H λ x H1=>∃ a C dx fs v,x=.ref a/\H1 a=some (.ins C dx fs)/\Cls K C/\g_c K C f/\fs.lookup f=some v/\Q v H1
noncomputable def sFld (K:Frag) (ta tv:TE) (f:Str):TS:=λ D σ H=>tv σ H λ y H1=>ta σ H1 λ x H2=>∃ a C dx fs,x=.ref a/\H2 a=some (.ins C dx fs)/\Cls K C/\g_c K C f/\fs.length < 1000 /\
 D.nx σ (upd H2 a (.ins C dx (putF f y fs)))
section
variable {X:Cx} {o e value:Expr} {f:Str} {pos pos' tpos:Pos} {ta tv:TE}
theorem g_d (he:PE X e ta) (hb:attributeBase e f X.env (eval e X.env)=eval e X.env):PE X (.Attribute e f pos) (tFld X.K ta f):=by
 intro pins s σ H Q I h;refine t_L hb (thn (he pins s σ H _ I h) λ u s1 ⟨x,H1,I1,rx,a,C,dx,fs,v,ex,ea,c,n,l,q⟩=>?_);subst ex;obtain rfl:u=Value.ref a:=rx;exact m_L I1 ea c n l λ u' s2 I2 ru=>⟨v,H1,I2,ru,q⟩
theorem i_a (ha:PE X o ta) (hv:PE X value tv) (hs:swapsWith value (some (.Attribute o f pos')) pos.line X.env=pure false):PS X (.Assign [.Attribute o f pos'] value pos) (sFld X.K ta tv f):=by
 intro pins s σ H D I h;refine plainObj_wpAny_Assign_Attribute (thn (hv pins s σ H _ I h) λ u s1 ⟨y,H1,I1,ry,q⟩=>thn (ha pins s1 σ H1 _ I1 q) λ ov s2 ⟨x,H2,I2,rx,a,C,dx,fs,ex,ea,c,n,l,q2⟩=>?_) hs;subst ex;obtain rfl:ov=Value.ref a:=rx;exact m_M I2 ea c n l ry λ s3 I3=>⟨σ,_,I3,q2⟩
end
section
variable {X:Cx} {pins:List (Addr × Obj)} {σ:St} {H:Hp} {s:Shared} {A:Around} {E:Value->Shared->Prop} {Q:Value->Shared->Prop} {c:Value} {b:Bool}
inductive TyOf (K:Frag) (H:Hp):V->Value->Prop where
 | non:TyOf K H .non (.type "NoneType")
 | bl (x:Bool):TyOf K H (.bl x) (.type "bool")
 | int (i:Int):TyOf K H (.int i) (.type "int")
 | str (x:Str):TyOf K H (.str x) (.type "str")
 | flt (x:UInt64):TyOf K H (.flt x) (.type "float")
 | lst {a:Addr} {xs:List V} (e:H a=some (.lst xs)):TyOf K H (.ref a) (.type "list")
 | frz {a:Addr} {o:Obj} {xs:List V} (e:H a=some (.frz o (.lst xs))):TyOf K H (.ref a) (.type "list")
 | tup {a:Addr} {xs:List V} (e:H a=some (.tup xs)):TyOf K H (.ref a) (.type "tuple")
 | dK {a:Addr} {kvs:List (Key × V)} (e:H a=some (.dK kvs)):TyOf K H (.ref a) (.type "dict")
 | dT {a:Addr} {kvs:List (List Key × V)} (e:H a=some (.dT kvs)):TyOf K H (.ref a) (.type "dict")
 | ins {a C dx:Addr} {fs:List (Str × V)} (e:H a=some (.ins C dx fs)) (cl:Cls K C) (ha:PySem.W.findIn K (.ref C) "__class__" = some (some (.builtin "object.__class__")))
   (hn:PySem.W.specialIn K (.builtin "object.__class__") "__get__" = some (some (.builtin "getset_descriptor.__get__"))) (htk:PySem.W.takesIn K (.builtin "object.__class__")=some true)
   (hm:PySem.W.mroIn K C (.type "object")=some true):TyOf K H (.ref a) (.ref C)
theorem p_r {x:V} {u t:Value} (I:Inv X pins σ H s) (rx:RelV x u) (ty:TyOf X.K H x t) (e:PySem.W.kitOne X.K t c=some b) (h:∀ tk,Q (.bool b) { s with toks:=tk }) :
  wpAny (model X.prog X.w) A (call (.builtin "isinstance") [u,c]) Q E s:=by
 cases ty with
 | non=>cases (show u=Value.none from rx); exact PySem.W.kia_one PySem.W.kitx_none I.kIn True.intro e (λ z=>nomatch z) h
 | bl y=>cases (show u=Value.bool y from rx); exact PySem.W.kia_one PySem.W.kitx_bool I.kIn True.intro e (λ z=>nomatch z) h
 | int i=>obtain ⟨t,q⟩:=(show ∃ t,u=Value.int i t from rx); cases q; exact PySem.W.kia_one PySem.W.kitx_int I.kIn True.intro e (λ z=>nomatch z) h
 | str y=>obtain ⟨t,q⟩:=(show ∃ t,u=Value.str y t from rx); cases q; exact PySem.W.kia_one PySem.W.kitx_str I.kIn True.intro e (λ z=>nomatch z) h
 | flt y=>obtain ⟨t,q⟩:=(show ∃ t,u=Value.float y t from rx); cases q; exact PySem.W.kia_one PySem.W.kitx_float I.kIn True.intro e (λ z=>nomatch z) h
 | @lst a xs ea =>
  cases (show u=Value.ref a from rx);obtain ⟨_,_,n,_,h1⟩:=(show c_A X.prog X.w H s.heap a (.lst xs) from I.hok a _ ea);exact PySem.W.kia_one PySem.W.kitx_list I.kIn ⟨_,h1,rfl⟩ e (λ z=>nomatch z) h
 | @frz a ob xs ea =>
  cases (show u=Value.ref a from rx);obtain ⟨_,_,_,n,_,h1⟩:=(show c_A X.prog X.w H s.heap a (.frz ob (.lst xs)) from I.hok a _ ea);exact PySem.W.kia_one PySem.W.kitx_list I.kIn ⟨_,h1,rfl⟩ e (λ z=>nomatch z) h
 | @tup a xs ea =>
  cases (show u=Value.ref a from rx);obtain ⟨_,_,_,p⟩:=(show c_A X.prog X.w H s.heap a (.tup xs) from I.hok a _ ea);obtain ⟨o,h1,h2,_⟩:=p;exact PySem.W.kia_one PySem.W.kitx_tuple I.kIn ⟨o,h1,h2⟩ e (λ z=>nomatch z) h
 | @dK a kvs ea =>
  cases (show u=Value.ref a from rx);obtain ⟨_,_,vs,_,p⟩:=(show c_A X.prog X.w H s.heap a (.dK kvs) from I.hok a _ ea);obtain ⟨o,es,ep,h1,h2,_⟩:=p;exact PySem.W.kia_one PySem.W.kitx_dict I.kIn ⟨o,h1,h2.1⟩ e (λ z=>nomatch z) h
 | @dT a kvs ea =>
  cases (show u=Value.ref a from rx);obtain ⟨_,_,xs,_,o,es,ep,h1,h2,_⟩:=(show c_A X.prog X.w H s.heap a (.dT kvs) from I.hok a _ ea);exact PySem.W.kia_one PySem.W.kitx_dict I.kIn ⟨o,h1,h2.1⟩ e (λ z=>nomatch z) h
 | @ins a C dx fs ea cl ha hn htk hm =>
  cases (show u=Value.ref a from rx);obtain ⟨mA,O,_⟩:=h_H I.hok ea;obtain ⟨od,J,_⟩:=O.look;exact PySem.W.kia_one (PySem.W.kitx_own (cl.get _) cl.hd ha hn htk hm) I.kIn J e (λ z=>nomatch z) h
end
structure Room (k:Nat) (A:Around):Prop where
 hd:A.handled=none
 dp:A.depth+3*k+5 < recursionLimit
 un:A.units+16*k+200 < cLine
theorem Room.mono {j k:Nat} {A:Around} (r:Room k A) (h:j<=k):Room j A:=⟨r.hd,by have:=r.dp; omega,by have:=r.un; omega⟩
theorem Room.mo {j k:Nat} {A:Around} (r:Room k A) (h:j<=k:=by first | decide | omega):Room j A:=r.mono h
theorem Room.deeper {k:Nat} {A:Around} (r:Room (k+1) A) (env:Env):Room k (A.deeper env) :=
 ⟨r.hd,by have:=r.dp; show A.depth+1+3*k+5 < _; omega,by have:=r.un; show A.units+3+16*k+200 < _; omega⟩
theorem Room.in1 {k:Nat} {A:Around} (r:Room (k+1) A):Room k A.in1 :=
 ⟨r.hd,by have:=r.dp; show A.depth+3*k+5 < _; omega,by have:=r.un; show A.units+1+16*k+200 < _; omega⟩
theorem m_N {A:Around} {C:Addr} {us:List Value} {kw:List (Str × Value)}:(A.under (.builtin "type.__call__" ⟨.ref C :: us,kw⟩)).depth=A.depth+1:=by
 first | rfl | simp [Around.under,Code.weight,Code.isCreation,Code.isGuard,Code.isCaller,Code.frames,Code.isFrame,guardIds]
theorem m_O {A:Around} {C:Addr} {us:List Value} {kw:List (Str × Value)}:(A.under (.builtin "type.__call__" ⟨.ref C :: us,kw⟩)).units=A.units+1:=by
 first | rfl | simp [Around.under,Code.cUnits,Code.frames,Code.isFrame]
theorem Room.make {k:Nat} {A:Around} (r:Room (k+1) A) (C:Addr) (us:List Value) (kw:List (Str × Value)):Room k (A.under (.builtin "type.__call__" ⟨.ref C :: us,kw⟩)) :=
 ⟨r.hd,by have:=r.dp; rw [m_N]; omega,by have:=r.un; rw [m_O]; omega⟩
theorem Room.depth {k:Nat} {A:Around} (r:Room k A):A.depth < recursionLimit:=by have:=r.dp; omega
theorem Room.units {k:Nat} {A:Around} (r:Room k A):A.units+64 < cLine:=by have:=r.un; omega
noncomputable def tNil:TA:=λ _ H Q=>Q [] H
noncomputable def b_X (ta:TE) (tr:TA):TA:=λ σ H Q=>ta σ H λ x H1=>tr σ H1 λ xs H2=>Q (x :: xs) H2
section
variable {X:Cx} {e:Expr} {es:List Expr} {te:TE} {t:TA} {pos:Pos}
theorem a_C:PA X [] tNil:=λ _ _ _ _ H Q I h=>Calls.spliced_nil ⟨[],H,I,.nil,h⟩
theorem a_A (ha:PE X e te) (hr:PA X es t) (hs:starEach (e :: es) X.env=(false,eval e X.env) :: starEach es X.env:=by rfl):PA X (e :: es) (b_X te t):=by
 intro pos pins s σ H Q I h;rw [hs];show wpAny _ _ (spliced ((false,eval e X.env) :: backTo pos (starEach es X.env))) _ _ s;refine Calls.spliced_cons (thn (ha pins s σ H _ I h) λ u s1 ⟨x,H1,I1,r1,q1⟩=>?_);exact thn (hr pos pins s1 σ H1 _ I1 q1) λ us s2 ⟨xs,H2,I2,r2,q2⟩=>⟨x :: xs,H2,I2,.cons r1 r2,q2⟩
noncomputable def tTup (t:TA):TE:=λ σ H Q=>t σ H λ xs H1=>xs.length<=sizeLine/\∀ p,H1 p=none->Q (.ref p) (upd H1 p (.tup xs))
noncomputable def tLst (t:TA):TE:=λ σ H Q=>t σ H λ xs H1=>xs.length<=sizeLine/\∀ p,H1 p=none->Q (.ref p) (upd H1 p (.lst xs))
theorem b_P {x1} (h:PA X es t):PE X (.Tuple es x1 pos) (tTup t):=by
 intro pins s σ H Q I hq;refine wpAny_Tuple_spliced (thn (h pos pins s σ H _ I hq) λ us s1 ⟨xs,H1,I1,r,z,q⟩=>⟨by rw [← r.length]; exact z,?_⟩);have hf:H1 s1.heap.objs.size=none:=I1.hok.fresh (zL _);refine ⟨.ref s1.heap.objs.size,upd H1 s1.heap.objs.size (.tup xs),I1.laid (t':=s1.toks) (λ b u e=>zD _ e) (zL _) ?_,rfl,q _ hf⟩;exact ⟨z,us,r,⟨_,zF _ rfl,rfl,_,rfl⟩⟩
theorem d_T (h:PA X es t):PE X (.List es pos) (tLst t):=by
 intro pins s σ H Q I hq;refine wpAny_List_spliced (thn (h pos pins s σ H _ I hq) λ us s1 ⟨xs,H1,I1,r,z,q⟩=>⟨by rw [← r.length]; exact z,?_⟩);have hf:H1 s1.heap.objs.size=none:=I1.hok.fresh (zL _);refine ⟨.ref s1.heap.objs.size,upd H1 s1.heap.objs.size (.lst xs),I1.laid (t':=s1.toks) (λ b u e=>zD _ e) (zL _) ?_,rfl,q _ hf⟩;exact ⟨z,us,0,r,zF _ rfl⟩
end
noncomputable abbrev Sp:=List V->Hp->VK->XK->Prop
noncomputable abbrev CXT:=List Env->Hp->Shared->XK->Value->Shared->Prop
structure Env0 (P:Program) (w:World) (K:Frag) (mg:Str->Option Value) (base:Heap) (A:Around) (outer:List Env) (s:Shared) (H:Hp):Prop where
 frames:A.frames=some outer
 mod:Mod K mg base
 bs:∀ b o,base.get? b=some o->s.heap.get? b=some o/\H b=none
 bsz:base.objs.size<=s.heap.objs.size
 funs:s.heap.FunFrames base outer
 frf:∀ b∈frs outer,H b=none
 hok:HOk P w H s.heap
 bare:AllBare s.gens
noncomputable def CE (outer:List Env) (P:Program) (w:World) (H:Hp) (s:Shared) (Q:VK) (u:Value) (s':Shared):Prop :=
 ∃ v H',s'.os=s.os/\AllBare s'.gens/\Un (frs outer) [] H H' s.heap s'.heap/\HOk P w H' s'.heap/\RelV v u/\Q v H'
noncomputable def CR (CX:CXT) (outer:List Env) (P:Program) (w:World) (H:Hp) (s:Shared) (Q:VK) (E:XK) (r:Result) (s':Shared):Prop :=
 match r with
 | .ok (.ret u)=>CE outer P w H s Q u s'
 | .ok _=>False
 | .error e=>CX outer H s E e s'
structure FnOk (P:Program) (w:World) (K:Frag) (mg:Str->Option Value) (base:Heap) (CX:CXT) (k:Nat) (f:Addr) (fd:FuncData) (ps:List Str) (sp:Sp):Prop where
 len:∀ vs H Q E,sp vs H Q E->vs.length=ps.length
 run:∀ (A:Around) (outer:List Env) (s:Shared) (H:Hp) (args:Args) (us:List Value) (vs:List V) (Q:VK) (E:XK),Room k A->Env0 P w K mg base A outer s H->BindsTo s fd args (ps.zip us)->Vals vs us->sp vs H Q E ->
  codeAny (model P w) A (.call (.ref f) args) (CR CX outer P w H s Q E) s
theorem FnOk.mono {P:Program} {w:World} {K:Frag} {mg:Str->Option Value} {base:Heap} {CX:CXT} {j k:Nat} {f:Addr} {fd:FuncData} {ps:List Str} {sp:Sp} (F:FnOk P w K mg base CX j f fd ps sp) (h:j<=k) :
  FnOk P w K mg base CX k f fd ps sp:=⟨F.len,λ A outer s H args us vs Q E hr=>F.run A outer s H args us vs Q E (hr.mono h)⟩
theorem FnOk.imp {P:Program} {w:World} {K:Frag} {mg:Str->Option Value} {base:Heap} {CX:CXT} {k:Nat} {f:Addr} {fd:FuncData} {ps:List Str} {sp sp':Sp} (F:FnOk P w K mg base CX k f fd ps sp)
  (h:∀ vs H Q E,sp' vs H Q E->sp vs H Q E):FnOk P w K mg base CX k f fd ps sp' :=
 ⟨λ vs H Q E q=>F.len vs H Q E (h _ _ _ _ q),λ A outer s H args us vs Q E hr he hb hv hs=>F.run A outer s H args us vs Q E hr he hb hv (h _ _ _ _ hs)⟩
theorem Env0.make {P:Program} {w:World} {K:Frag} {mg:Str->Option Value} {base:Heap} {A:Around} {outer:List Env} {s:Shared} {H:Hp} (e:Env0 P w K mg base A outer s H) (C:Addr) (us:List Value) (kw:List (Str × Value)) :
  Env0 P w K mg base (A.under (.builtin "type.__call__" ⟨.ref C :: us,kw⟩)) outer s H:=⟨by first | exact e.frames | (simpa [Around.under,Code.envs,Code.isFrame,pushEnvs] using e.frames),e.mod,e.bs,e.bsz,e.funs,e.frf,e.hok,e.bare⟩
theorem Env0.in1 {P:Program} {w:World} {K:Frag} {mg:Str->Option Value} {base:Heap} {A:Around} {outer:List Env} {s:Shared} {H:Hp} (e:Env0 P w K mg base A outer s H) :
  Env0 P w K mg base A.in1 outer s H:=⟨e.frames,e.mod,e.bs,e.bsz,e.funs,e.frf,e.hok,e.bare⟩
section
variable {X:Cx} {pins:List (Addr × Obj)} {σ:St} {H:Hp} {s s':Shared}
theorem Inv.env0 (I:Inv X pins σ H s):Env0 X.prog X.w X.K X.mg X.base X.A X.stack s H :=
 ⟨I.ok.frames,I.ok.mod,I.bs,zS I.ok.bsz I.sz,I.stack,I.stkFree,I.hok,I.bare⟩
theorem Inv.after {Q:VK} {u:Value} (I:Inv X pins σ H s) (h:CE X.stack X.prog X.w H s Q u s'):EP X pins σ Q u s':=by
 obtain ⟨v,H',os,bare,un,hok,r,q⟩:=h;obtain ⟨hh,g,d,t,os'⟩:=s';obtain rfl:os'=s.os:=os;exact ⟨v,H',I.call (h':=hh) (g':=g) (d':=d) (t':=t) (ch:=[]) un hok bare (λ b z=>yJ z (by simp)),r,q⟩
end
noncomputable def e_u (sp:Sp) (dvs:List V) (E:XK) (t:TA):TE:=λ σ H Q=>t σ H λ vs H1=>sp (vs++dvs) H1 Q E
noncomputable def h_w (C:Addr) (m:Str) (sp:Sp) (dvs:List V) (E:XK) (ta:TE) (t:TA):TE:=λ σ H Q=>ta σ H λ x H1=>∃ a dx fs,x=.ref a/\H1 a=some (.ins C dx fs)/\fs.lookup m=none /\
 t σ H1 λ vs H2=>sp (x :: (vs++dvs)) H2 Q E
noncomputable def u_R (C:Addr) (sp:Sp) (dvs:List V) (E:XK) (t:TA):TE:=λ σ H Q=>t σ H λ vs H1=>∀ x dx,H1 x=none->H1 dx=none->dx≠x ->
 sp (.ref x :: (vs++dvs)) (upd (upd H1 dx (.own x)) x (.ins C dx [])) (λ v H2=>v=.non/\Q (.ref x) H2) E
noncomputable def a_X (K:Frag) (fd:FuncData) (ps:List Str) (ds:List Value):Prop :=
 ∀ (s:Shared) (us:List Value),K.In s.heap->(us++ds).length=ps.length->BindsTo s fd ⟨us,[]⟩ (ps.zip (us++ds))
theorem a_X.all {K:Frag} {fd:FuncData} {ps:List Str} (h:∀ us:List Value,us.length=ps.length->bindArgs fd ⟨us,[]⟩=pure (ps.zip us)):a_X K fd ps []:=λ s us _ hl=>by
 rw [List.append_nil] at hl ⊢;exact .of_eq (h us hl)
noncomputable def f_A (CX:CXT) (X:Cx) (E:XK):Prop:=∀ (pins:List (Addr × Obj)) (σ:St) (H:Hp) (s:Shared) (e:Value) (s':Shared),Inv X pins σ H s->CX X.stack H s E e s'->X.xe e s'
section
variable {X:Cx} {CX:CXT} {k:Nat} {f C:Addr} {fd:FuncData} {ps:List Str} {sp:Sp} {dvs:List V} {ds:List Value} {E:XK} {x m:Str} {p pos apos:Pos} {e o:Expr} {es:List Expr} {ta:TE} {t:TA}
theorem m_P {pins:List (Addr × Obj)} {σ:St} {H:Hp} {s:Shared} {Q:VK} {us:List Value} {vs:List V} (F:FnOk X.prog X.w X.K X.mg X.base CX k f fd ps sp) (hr:Room k X.A) (hb:a_X X.K fd ps ds) (hd:Vals dvs ds) (hx:f_A CX X E)
  (I:Inv X pins σ H s) (r:Vals vs us) (h:sp (vs++dvs) H Q E):wpAny (model X.prog X.w) X.A (call (.ref f) us) (EP X pins σ Q) X.xe s:=by
 have r2:Vals (vs++dvs) (us++ds):=r.append hd;have hl:(us++ds).length=ps.length:=by rw [← r2.length]; exact F.len _ _ _ _ h
 refine wpAny_call (codeAny_mono (F.run X.A X.stack s H ⟨us,[]⟩ (us++ds) (vs++dvs) Q E hr I.env0 (hb s us I.kIn hl) r2 h) λ r s' hq=>?_);cases r with
 | error e=>exact hx pins σ H s e s' I hq
 | ok fl =>
  cases fl with
  | ret u=>exact I.after hq
  | next=>exact False.elim hq
  | brk=>exact False.elim hq
  | cont=>exact False.elim hq
theorem a_P (F:FnOk X.prog X.w X.K X.mg X.base CX k f fd ps sp) (hr:Room k X.A) (hg:Gl X x) (hm:X.mg x=some (.ref f)) (hk:PySem.W.keepIn X.K (.ref f)=true) (hb:a_X X.K fd ps ds) (hd:Vals dvs ds) (hx:f_A CX X E)
  (ha:PA X (e :: es) t) (hdb:(x == ("__debug__" : Str))=false:=by decide) (he:starEach (e :: es) X.env=(false,eval e X.env) :: starEach es X.env:=by rfl) (hpl:(backTo pos (starEach es X.env)).any (·.1)=false:=by rfl) :
  PE X (.Call (.Name x p) (e :: es) [] pos) (e_u sp dvs E t):=by
 intro pins s σ H Q I h;refine wpAny_Call_Name_kw (e_j I hg hm ?_ hdb);refine PySem.W.callWith_K (h₀:=X.base) I.ok.mod.kin hk (thn (ha pos pins s σ H _ I h) λ us s1 ⟨vs,H1,I1,r,q⟩=>⟨I1.kIn,?_⟩) he hpl;exact m_P F hr hb hd hx I1 r q
theorem o_i {pl:Sem Bool} (he:PE X o ta) (c:Cls X.K C) (hm:Meth X.K C m f) (F:FnOk X.prog X.w X.K X.mg X.base CX k f fd ps sp) (hr:Room k X.A) (hb:a_X X.K fd ps ds) (hd:Vals dvs ds) (hx:f_A CX X E) (ha:PA X (e :: es) t)
  (hst:starEach (e :: es) X.env=(false,eval e X.env) :: starEach es X.env:=by rfl) (hpl:(backTo pos (starEach es X.env)).any (·.1)=false:=by rfl)
  (ht:eval (.Call (.Attribute o m apos) (e :: es) [] pos) X.env=(do
   let ov ← eval o X.env
   standAt apos.atName
   let (f,first) ← holding [ov] (getMethod ov m pl)
   callWith pos f first (backTo pos (starEach (e :: es) X.env)) (backToKw pos (keywordEach [] X.env))):=by rfl) :
  PE X (.Call (.Attribute o m apos) (e :: es) [] pos) (h_w C m sp dvs E ta t):=by
 intro pins s σ H Q I h;refine PySem.W.methodCall_KW (pl:=pl) (thn (he pins s σ H _ I h) λ u s1 ⟨x,H1,I1,rx,a,dx,fs,ex,ea,l,q⟩=>?_) ht;subst ex;obtain rfl:u=Value.ref a:=rx;refine h_Z I1 ea c hm l ?_;refine PySem.W.callWith_K (first:=[.ref a]) (h₀:=X.base) I.ok.mod.kin hm.kp (thn (ha pos pins s1 σ H1 _ I1 q) λ us s2 ⟨vs,H2,I2,r,q2⟩=>⟨I2.kIn,?_⟩) hst hpl;exact m_P (us:=.ref a :: us) (vs:=.ref a :: vs) F hr hb hd hx I2 (.cons rfl r) q2
theorem f_B {pl:Sem Bool} (he:PE X o ta) (c:Cls X.K C) (hm:Meth X.K C m f) (F:FnOk X.prog X.w X.K X.mg X.base CX k f fd ps sp) (hr:Room k X.A) (hb:a_X X.K fd ps ds) (hd:Vals dvs ds) (hx:f_A CX X E)
  (ht:eval (.Call (.Attribute o m apos) [] [] pos) X.env=(do
   let ov ← eval o X.env
   standAt apos.atName
   let (f,first) ← holding [ov] (getMethod ov m pl)
   callWith pos f first (backTo pos (starEach [] X.env)) (backToKw pos (keywordEach [] X.env))):=by rfl) :
  PE X (.Call (.Attribute o m apos) [] [] pos) (h_w C m sp dvs E ta tNil):=by
 intro pins s σ H Q I h;refine PySem.W.methodCall_KW (pl:=pl) (thn (he pins s σ H _ I h) λ u s1 ⟨x,H1,I1,rx,a,dx,fs,ex,ea,l,q⟩=>?_) ht;subst ex;obtain rfl:u=Value.ref a:=rx;refine h_Z I1 ea c hm l ?_;exact PySem.W.callWith_K0 (first:=[.ref a]) I1.kIn hm.kp (m_P (us:=[.ref a]) (vs:=[.ref a]) F hr hb hd hx I1 (.cons rfl .nil) q)
structure Mk (K:Frag) (C f:Addr):Prop where
 makes:PySem.W.makesIn K C=true
 init:PySem.W.findIn K (.ref C) "__init__" = some (some (.ref f))
 fn:PySem.W.isFn K (.ref f)=true
 kp:PySem.W.keepIn K (.ref C)=true
theorem q_V {pins:List (Addr × Obj)} {σ:St} {H:Hp} {s:Shared} {Q:VK} {us:List Value} {vs:List V} (M:Mk X.K C f) (F:FnOk X.prog X.w X.K X.mg X.base CX k f fd ps sp) (hr:Room (k+1) X.A) (hb:a_X X.K fd ps ds) (hd:Vals dvs ds)
  (hx:f_A CX X E) (I:Inv X pins σ H s) (r:Vals vs us)
  (h:∀ x dx,H x=none->H dx=none->dx≠x->sp (.ref x :: (vs++dvs)) (upd (upd H dx (.own x)) x (.ins C dx [])) (λ v H2=>v=.non/\Q (.ref x) H2) E) :
  wpAny (model X.prog X.w) X.A (call (.ref C) us) (EP X pins σ Q) X.xe s:=by
 have hq:=h (s.heap.objs.size+1) s.heap.objs.size (I.hok.fresh (Nat.le_succ _)) (I.hok.fresh (zL _)) (Nat.ne_of_lt (Nat.lt_succ_self _));have I2:=Inv.made (C:=C) I;have r2:Vals (V.ref (s.heap.objs.size+1) :: (vs++dvs)) (Value.ref (s.heap.objs.size+1) :: (us++ds)):=.cons rfl (r.append hd);have hl:(Value.ref (s.heap.objs.size+1) :: us++ds).length=ps.length:=by
  have e:=r2.length;rw [F.len _ _ _ _ hq] at e;exact e.symm
 refine wpAny_call (q_U (f:=f) I.kIn M.makes M.init (beq_iff_eq.mp M.fn) (codeAny_mono (F.run _ X.stack _ _ ⟨Value.ref (s.heap.objs.size+1) :: us,[]⟩ (Value.ref (s.heap.objs.size+1) :: (us++ds)) _ _ E (hr.make C us [])
  (I2.env0.make C us []) (hb _ (Value.ref (s.heap.objs.size+1) :: us) I2.kIn hl) r2 hq) λ r s' hq'=>?_))
 cases r with
 | error e=>exact hx pins σ _ _ e s' I2 hq'
 | ok fl =>
  cases fl with
  | ret u =>
   obtain ⟨v,H',I3,rv,ev,q3⟩:=I2.after hq';subst ev;exact ⟨rv,⟨V.ref (s.heap.objs.size+1),H',I3,rfl,q3⟩⟩
  | next=>exact False.elim hq'
  | brk=>exact False.elim hq'
  | cont=>exact False.elim hq'
theorem t_M (M:Mk X.K C f) (F:FnOk X.prog X.w X.K X.mg X.base CX k f fd ps sp) (hr:Room (k+1) X.A) (hg:Gl X x) (hm:X.mg x=some (.ref C)) (hb:a_X X.K fd ps ds) (hd:Vals dvs ds) (hx:f_A CX X E)
  (ha:PA X (e :: es) t) (hdb:(x == ("__debug__" : Str))=false:=by decide) (he:starEach (e :: es) X.env=(false,eval e X.env) :: starEach es X.env:=by rfl) (hpl:(backTo pos (starEach es X.env)).any (·.1)=false:=by rfl) :
  PE X (.Call (.Name x p) (e :: es) [] pos) (u_R C sp dvs E t):=by
 intro pins s σ H Q I h;refine wpAny_Call_Name_kw (e_j I hg hm ?_ hdb);refine PySem.W.callWith_K (h₀:=X.base) I.ok.mod.kin M.kp (thn (ha pos pins s σ H _ I h) λ us s1 ⟨vs,H1,I1,r,q⟩=>⟨I1.kIn,?_⟩) he hpl;exact q_V M F hr hb hd hx I1 r q
end
section
variable {X:Cx} {CX:CXT} {k:Nat} {f C:Addr} {fd:FuncData} {ps ks:List Str} {sp:Sp} {E:XK} {x m:Str} {p pos apos kpos:Pos} {e o:Expr} {es:List Expr} {kws:List Keyword} {te ta:TE} {t tk:TA} {nm:Option Str}
variable {g:List Value->List Value->List Value} {gV:List V->List V->List V}
end
structure a_M (N P:List Str) (sc:Scope):Prop where
 kind:sc.kind=.function
 co:sc.isCoroutine=false
 gen:sc.isGenerator=false
 nd:N.Nodup
 pre:N.take P.length=P
 par:∀ x∈P,sc.names.lookup x=some .local\/sc.names.lookup x=some .cell
 nofree:∀ y∈sc.names,y.2≠.free
theorem i_Y {kindOf:Str->Option NameKind} {x:Str}:∀ {binds:List (Str × Value)} {m:Str->Option Value},(∀ v,(x,v) ∉ binds)->bindL kindOf binds m x=m x
 | [],_,_=>rfl
 | (n,v) :: r,m,h=>by
  unfold bindL;rw [i_Y λ w hw=>h w (zN _ hw)];split
  ·have:x≠n:=by rintro rfl; exact h v zU
   simp [this]
  ·rfl
theorem i_Z {kindOf:Str->Option NameKind} {x:Str}:∀ {binds:List (Str × Value)} {m:Str->Option Value},(∀ v,(x,v) ∉ binds)->bindC kindOf binds m x=m x
 | [],_,_=>rfl
 | (n,v) :: r,m,h=>by
  unfold bindC;rw [i_Z λ w hw=>h w (zN _ hw)];split
  ·rfl
  ·have:x≠n:=by rintro rfl; exact h v zU
   simp [this]
theorem j_a {kindOf:Str->Option NameKind} {x:Str} {v:Value}:∀ {P:List Str} {vs:List Value} {i:Nat} {m:Str->Option Value},P.Nodup->P[i]?=some x->vs[i]?=some v->kindOf x=some .local ->
  bindL kindOf (P.zip vs) m x=some v
 | [],_,_,_,_,h,_,_=>by simp at h
 | _ :: _,[],_,_,_,_,h,_=>by simp at h
 | p :: P,w :: vs,0,m,nd,h1,h2,hk=>by
  simp at h1 h2; subst h1; subst h2;show bindL kindOf ((p,w) :: P.zip vs) m p=_;unfold bindL;rw [i_Y λ v hv=>(List.nodup_cons.mp nd).1 (List.of_mem_zip hv).1,if_pos hk];simp
 | p :: P,w :: vs,i+1,m,nd,h1,h2,hk=>by
  show bindL kindOf ((p,w) :: P.zip vs) m x=_;unfold bindL;exact j_a (i:=i) (List.nodup_cons.mp nd).2 (by simpa using h1) (by simpa using h2) hk
theorem j_b {kindOf:Str->Option NameKind} {x:Str} {v:Value}:∀ {P:List Str} {vs:List Value} {i:Nat} {m:Str->Option Value},P.Nodup->P[i]?=some x->vs[i]?=some v->kindOf x≠some .local ->
  bindC kindOf (P.zip vs) m x=some v
 | [],_,_,_,_,h,_,_=>by simp at h
 | _ :: _,[],_,_,_,_,h,_=>by simp at h
 | p :: P,w :: vs,0,m,nd,h1,h2,hk=>by
  simp at h1 h2; subst h1; subst h2;show bindC kindOf ((p,w) :: P.zip vs) m p=_;unfold bindC;rw [i_Z λ v hv=>(List.nodup_cons.mp nd).1 (List.of_mem_zip hv).1,if_neg hk];simp
 | p :: P,w :: vs,i+1,m,nd,h1,h2,hk=>by
  show bindC kindOf ((p,w) :: P.zip vs) m x=_;unfold bindC;exact j_b (i:=i) (List.nodup_cons.mp nd).2 (by simpa using h1) (by simpa using h2) hk
noncomputable def e_k (N:List Str) (vs:List V):St:=vs.map some++List.replicate (N.length - vs.length) none
noncomputable def cxOf (CX:CXT) (P:Program) (w:World) (K:Frag) (mg:Str->Option Value) (base:Heap) (N:List Str) (qual:Str) (scope:Scope) (f:Addr) (cd:Value) (A:Around) (outer:List Env) (s:Shared) (H:Hp) (E:XK):Cx where
 prog:=P
 w:=w
 K:=K
 mg:=mg
 base:=base
 A:=A.deeper (envOfC qual scope s.heap.objs.size f cd)
 N:=N
 s₀:=s
 H₀:=H
 env:=envOfC qual scope s.heap.objs.size f cd
 outer:=outer
 stack:=envOfC qual scope s.heap.objs.size f cd :: outer
 ex:=[]
 calm:=true
 fn:=λ _=>true
 pn:=[]
 xe:=λ e s'=>wpAny (model P w) (A.deeper (envOfC qual scope s.heap.objs.size f cd)) (leaving (envOfC qual scope s.heap.objs.size f cd) e) (λ _ s''=>CX outer H s E e s'') (λ e' s''=>CX outer H s E e' s'') s'
theorem k_Q {sc:Scope} {n:Nat} {x:Str} (h:sc.names.lookup x=some .cell):∃ c,(cellsFrom n sc.names []).lookup x=some c:=by
 have q:=PySem.W.cellsFrom_some sc.names n [] (.inl h);exact Option.isSome_iff_exists.mp q
theorem j_c {CX:CXT} {P:Program} {w:World} {K:Frag} {mg:Str->Option Value} {base:Heap} {N ps:List Str} {qual:Str} {scope:Scope} {f:Addr} {cd:Value} {A:Around} {outer:List Env} {s s1:Shared} {H:Hp} {E:XK} {us:List Value} {vs:List V}
  (S:a_M N ps scope) (hd:A.handled=none) (e0:Env0 P w K mg base A outer s H) (hl:vs.length=ps.length) (r:Vals vs us)
  (x:InCallC s s.heap.objs.size (bindL (envOfC qual scope s.heap.objs.size f cd).kindOf (ps.zip us) λ _=>none) (cellsFrom (s.heap.objs.size+1) scope.names []) (bindC (envOfC qual scope s.heap.objs.size f cd).kindOf (ps.zip us) λ _=>none) s1) :
  Inv (cxOf CX P w K mg base N qual scope f cd A outer s H E) [] (e_k N vs) H s1:=by
 have hpl:ps.length<=N.length:=by have:=congrArg List.length S.pre; rw [List.length_take] at this; omega
 obtain ⟨h1,tk,rfl,hk⟩:=x.done;have noA:∀ b:Addr,b ∉ (cxOf CX P w K mg base N qual scope f cd A outer s H E).ex:=λ b z=>yJ (show b∈([]:List Addr) from z) (by simp);refine ⟨⟨e0.mod,S.kind,rfl,rfl,zL _,λ y z c h1 h2=>?_,λ y hy=>?_,λ y c _ h=>?_,λ _=>hd,Around.frames_deeper e0.frames,.inr ⟨rfl,rfl⟩,λ b z=>yJ z (noA b),e0.bs,e0.bsz,λ b _ _=>noA b,λ b z=>yJ z (noA b),e0.funs,e0.frf⟩,
  rfl,e0.bare,Un.kept hk,⟨_,x.toInCall.ns,λ i y v h1 h2 h3=>?_⟩,λ y c h=>⟨_,x.cell y c h⟩,e0.hok.fresh (zL _),λ y c h=>?_,λ p hp=>yJ (show p∈([]:List (Addr × Obj)) from hp) (by simp),e0.hok.kept hk,?_⟩
 ·exact name_of_addr x.apart (PySem.mem_of_lookup h1) (PySem.mem_of_lookup h2)
 ·have hy:scope.names.lookup y=some .cell\/scope.names.lookup y=some .free:=hy;rcases hy with hy | hy
  ·exact k_Q hy
  ·exact yJ rfl (S.nofree _ (PySem.mem_of_lookup hy))
 ·exact Nat.le_of_lt (x.above y c (PySem.mem_of_lookup h))
 ·have hi:i < vs.length:=by
   unfold e_k at h2
   by_cases hi:i < vs.length
   ·exact hi
   ·rw [yD (by simpa using hi)] at h2;rw [List.getElem?_replicate] at h2;split at h2 <;> cases h2
  have ha:vs[i]?=some v:=by
   unfold e_k at h2;rw [yC (by simpa using hi),zH] at h2;cases e:vs[i]? with
   | none=>rw [e] at h2; cases h2
   | some a=>rw [e] at h2; cases h2; rfl
  obtain ⟨u,hu,rv⟩:=r.get ha;have hp:ps[i]?=some y:=by
   rw [← S.pre,List.getElem?_take_of_lt (by omega)]; exact h1
  have ndP:ps.Nodup:=by rw [← S.pre]; exact S.nd.sublist (List.take_sublist _ _)
  refine ⟨u,rv,?_⟩;rcases S.par y (List.mem_of_getElem? hp) with k | k
  ·exact .inl ⟨k,j_a ndP hp hu k⟩
  ·obtain ⟨c,e⟩:=k_Q (n:=s.heap.objs.size+1) k;refine .inr ⟨.inl k,c,e,?_⟩;have q:=x.cell y c e;rw [j_b ndP hp hu (by show scope.names.lookup y≠_; rw [k]; decide)] at q;exact q
 ·exact e0.hok.fresh (Nat.le_of_lt (x.above y c (PySem.mem_of_lookup h)))
 ·unfold e_k;show _=N.length;rw [List.length_append,yI,List.length_replicate];omega
theorem q_W {CX:CXT} {P:Program} {w:World} {K:Frag} {mg:Str->Option Value} {base:Heap} {k:Nat} {f:Addr} {name qual:Str} {params:Arguments} {body:List Stmt} {scope:Scope} {dV kV doc pm cdv ct oc:Value} {an od:Option Addr}
  {osl:Array (Option Value)} {N ps:List Str} {sp:Sp} (lk:K.lookup f=some ⟨oc,od,.func (PySem.W.fnOf name qual params body scope dV kV doc pm an cdv ct),osl⟩) (hcd:PySem.W.codeIn K cdv qual=true) (S:a_M N ps scope)
  (len:∀ vs H Q E,sp vs H Q E->vs.length=ps.length)
  (hbody:∀ (A:Around) (outer:List Env) (s:Shared) (H:Hp) (vs:List V) (Q:VK) (E:XK),Room k (A.deeper (envOfC qual scope s.heap.objs.size f cdv))->sp vs H Q E ->
   ∃ t,PSs (cxOf CX P w K mg base N qual scope f cdv A outer s H E) body t/\t { nx:=λ _ H'=>Q .non H',rt:=Q } (e_k N vs) H) :
  FnOk P w K mg base CX (k+1) f (PySem.W.fnOf name qual params body scope dV kV doc pm an cdv ct) ps sp:=by
 refine ⟨len,λ A outer s H args us vs Q E hr e0 hb r hsp=>?_⟩;have hl:=len _ _ _ _ hsp;have KX:K.In s.heap:=e0.mod.kin.keeps λ b o e=>(e0.bs b o e).1;have lim:s.heap.NoLimit:=e0.mod.nolimit.keeps λ b o e=>(e0.bs b o e).1;have hkind:∀ y∈ps.zip us,scope.names.lookup y.1=some .local\/(scope.names.lookup y.1=some .cell/\((cellsFrom (s.heap.objs.size+1) scope.names []).lookup y.1).isSome=true):=λ ⟨n,v⟩ hy=>by
  rcases S.par n (List.of_mem_zip hy).1 with q | q
  ·exact .inl q
  ·exact .inr ⟨q,PySem.W.cellsFrom_some _ _ _ (.inl q)⟩
 refine codeAny_call_function hr.depth (KX _ _ lk) rfl S.co S.gen rfl (PySem.W.codeRec_of KX hcd) (hb _ _ _ _ ?_);refine wpAny_newFunctionEnv_cells S.kind hkind λ env he s1 x=>?_;subst he;refine ⟨lim.keeps x.toInCall.keep,codeAny_func ?_⟩;obtain ⟨t,ht,hq⟩:=hbody A outer s H vs Q E (hr.deeper _) hsp;have I:Inv (cxOf CX P w K mg base N qual scope f cdv A outer s H E) [] (e_k N vs) H s1:=j_c S hr.hd e0 hl r x;refine zC (ht [] s1 (e_k N vs) H _ I hq) (λ fl s' hs=>?_) λ e s' hs=>hs;have fin:∀ {σ':St} {H':Hp} {v:V} {u:Value},Inv (cxOf CX P w K mg base N qual scope f cdv A outer s H E) [] σ' H' s'->RelV v u->Q v H'->CE outer P w H s Q u s' :=
  λ {σ' H' v u} J rv q=>⟨v,H',J.os,J.bare,J.base,J.hok,rv,q⟩
 cases fl with
 | ret u =>
  obtain ⟨v,σ',H',J,rv,q⟩:=hs;exact fin J rv q
 | next =>
  obtain ⟨σ',H',J,q⟩:=hs;exact fin (v:=V.non) (u:=Value.none) J rfl q
 | brk =>
  obtain ⟨_,_,_,q⟩:=hs;exact False.elim q
 | cont =>
  obtain ⟨_,_,_,q⟩:=hs;exact False.elim q
section
variable {X:Cx} {x:Str} {p pos:Pos} {e:Expr} {es:List Expr} {t:TA} {id T:String} {r:List V->Hp->VK->Prop}
noncomputable def tCB (r:List V->Hp->VK->Prop) (t:TA):TE:=λ σ H Q=>t σ H λ vs H1=>r vs H1 Q
theorem a_O (hc:c_O X (.builtin id) r) (hg:Gl X x) (hm:X.mg x=none) (hv:bootBuiltins x=some (.builtin id)) (ha:PA X (e :: es) t) (hn:x ≠ "__name__" := by decide) (hdb:(x == ("__debug__" : Str))=false:=by decide)
  (he:starEach (e :: es) X.env=(false,eval e X.env) :: starEach es X.env:=by rfl) (hpl:(backTo pos (starEach es X.env)).any (·.1)=false:=by rfl):PE X (.Call (.Name x p) (e :: es) [] pos) (tCB r t):=by
 intro pins s σ H Q I h;refine wpAny_Call_Name_kw (g_K I hg hm hv ?_ hn hdb);exact PyProof.Rows.callWith_builtin1 (thn (ha pos pins s σ H _ I h) λ us s1 ⟨vs,H1,I1,r1,q1⟩=>hc pins s1 σ H1 vs us Q I1 r1 q1) he hpl
theorem b_Q (hc:c_O X (.type T) r) (hg:Gl X x) (hm:X.mg x=none) (hv:bootBuiltins x=some (.type T)) (ha:PA X (e :: es) t) (hn:x ≠ "__name__" := by decide) (hdb:(x == ("__debug__" : Str))=false:=by decide)
  (he:starEach (e :: es) X.env=(false,eval e X.env) :: starEach es X.env:=by rfl) (hpl:(backTo pos (starEach es X.env)).any (·.1)=false:=by rfl):PE X (.Call (.Name x p) (e :: es) [] pos) (tCB r t):=by
 intro pins s σ H Q I h;refine wpAny_Call_Name_kw (g_K I hg hm hv ?_ hn hdb);exact PyProof.Rows.callWith_type1 (thn (ha pos pins s σ H _ I h) λ us s1 ⟨vs,H1,I1,r1,q1⟩=>hc pins s1 σ H1 vs us Q I1 r1 q1) he hpl
end
end L2
namespace HT
open PySem PyProof.Rows
section
open PySem.SeqAt
open PySem.AutoSeq1 (wpAny_loadPart')
open PySem.MeetsSeq PySem.MeetsSeq2 PySem.MeetsSeq3
end
section
variable {prog:Program} {w:World} {A:Around} {E:Value->Shared->Prop} {s:Shared}
noncomputable def sIx (n d:Nat):Option Int->Nat
 | none=>d
 | some v=>if v < 0 then (v+(n:Int)).toNat else min v.toNat n
theorem sIx_none (n d:Nat):sIx n d none=d:=rfl
theorem sIx_nat (n d k:Nat):sIx n d (some (k:Int))=min k n:=by
 show (if (k:Int) < 0 then ((k:Int)+(n:Int)).toNat else min (k:Int).toNat n)=min k n;rw [if_neg (by omega),zR]
theorem v_u (n d:Nat) (hd:d<=n) (o:Option Int):sIx n d o<=n:=by
 cases o with
 | none=>exact hd
 | some v =>
  show (if v < 0 then (v+(n:Int)).toNat else min v.toNat n)<=n
  by_cases hv:v < 0
  ·rw [if_pos hv]; omega
  ·rw [if_neg hv]; exact Nat.min_le_right _ _
theorem o_j (v:Int) (n d:Nat):(if v < 0 then max (v+(n:Int)) 0 else min v (n:Int))=((sIx n d (some v):Nat):Int):=by
 show (if v < 0 then max (v+(n:Int)) 0 else min v (n:Int))=(((if v < 0 then (v+(n:Int)).toNat else min v.toNat n):Nat):Int)
 by_cases hv:v < 0
 ·simp only [if_pos hv]; omega
 ·simp only [if_neg hv]; omega
theorem m_Q (lo hi:Option Int) (n:Nat):Builtin.Slice.sliceAdjust lo hi 1 (n:Int)=(((sIx n 0 lo:Nat):Int),((sIx n n hi:Nat):Int)):=by
 have h1:¬ ((1:Int) < 0):=by omega
 unfold Builtin.Slice.sliceAdjust;simp only [h1,if_false];refine Prod.ext ?_ ?_
 ·cases lo with
  | none=>rfl
  | some v=>exact o_j v n 0
 ·cases hi with
  | none=>rfl
  | some v=>exact o_j v n n
theorem m_R (i j:Nat):Builtin.Slice.slicePlaces (i:Int) (j:Int) 1=j - i:=by
 unfold Builtin.Slice.slicePlaces;have h1:(1:Int) > 0:=by omega
 simp only [h1,if_true,Int.ediv_one];split <;> omega
theorem i_b {v:Value} {o:Option Int} {Q:Option Int->Shared->Prop} (p:IsPart v o) (h:Q o s):wpAny (model prog w) A (Builtin.Slice.slicePartIndex v) Q E s:=by
 cases p with
 | none=>exact slicePart_none h
 | int i t=>exact slicePart_int h
theorem g_N {sl:Addr} {vl vu:Value} {lo hi:Option Int} {n:Nat} {Q:Int × Int × Nat->Shared->Prop} (hs:s.heap.IsSliceOf sl vl vu .none) (pl:IsPart vl lo) (pu:IsPart vu hi)
  (h:Q (((sIx n 0 lo:Nat):Int),1,sIx n n hi - sIx n 0 lo) s):wpAny (model prog w) A (Builtin.Slice.sliceApplied (.ref sl) (pure (n:Int))) Q E s:=by
 obtain ⟨os,hos,hcs,hds⟩:=id hs;unfold Builtin.Slice.sliceApplied Builtin.Slice.sliceFields;refine zA (zA (wpAny_field hos hds (x:=vl) rfl (zA (wpAny_field hos hds (x:=vu) rfl (zA (wpAny_field hos hds (x:=.none) rfl (zB ?_)))))));refine zA (slicePart_none ?_);show wpAny _ _ (if ((1:Int) == 0)=true then _ else _) _ _ s;rw [if_neg (by decide)];refine zA (i_b pl (zA (i_b pu (zA (zB ?_)))));show wpAny _ _ (match Builtin.Slice.sliceAdjust lo hi 1 (n:Int) with | (lo,hi)=>pure (lo,(1:Int),Builtin.Slice.slicePlaces lo hi 1)) _ _ s;rw [m_Q lo hi n];show wpAny _ _ (pure (((sIx n 0 lo:Nat):Int),(1:Int),Builtin.Slice.slicePlaces ((sIx n 0 lo:Nat):Int) ((sIx n n hi:Nat):Int) 1)) _ _ s;rw [m_R];exact zB h
theorem q_X (xs:Array Value) (i k:Nat):((List.range k).filterMap λ (m:Nat)=>xs[((i:Int)+(m:Int)*1).toNat]?).toArray=((xs.toList.drop i).take k).toArray:=by
 have e:(λ (m:Nat)=>xs[((i:Int)+(m:Int)*1).toNat]?)=λ m=>xs[i+m]?:=by
  funext m
  have:((i:Int)+(m:Int)*1).toNat=i+m:=by omega
  rw [this]
 rw [e];have:=pick_run xs i k;rw [List.filterMap_map] at this;have e2:((λ x=>xs[x]?) ∘ λ x=>i+x)=λ m=>xs[i+m]?:=rfl;rw [e2] at this;rw [this]
theorem getItem_tuple_cut {t sl:Addr} {items:Array Value} {vl vu:Value} {lo hi:Option Int} {Q:Value->Shared->Prop} (ht:IsTup s.heap t items) (hs:s.heap.IsSliceOf sl vl vu .none) (pl:IsPart vl lo) (pu:IsPart vu hi)
  (hw:¬ (sIx items.size 0 lo=0/\sIx items.size items.size hi=items.size))
  (h:Q (.ref s.heap.objs.size) { s with heap:=s.heap.push { cls:=.type "tuple",data:=.seq ((items.toList.drop (sIx items.size 0 lo)).take (sIx items.size items.size hi - sIx items.size 0 lo)).toArray } })
  (hsz:items.size<=sizeLine):wpAny (model prog w) A (getItem (.ref t) (.ref sl)) Q E s:=by
 have htake:sizeOk (.seq ((items.toList.drop (sIx items.size 0 lo)).take (sIx items.size items.size hi - sIx items.size 0 lo)).toArray):=by
  show ((items.toList.drop (sIx items.size 0 lo)).take (sIx items.size items.size hi - sIx items.size 0 lo)).toArray.size<=sizeLine;rw [zJ,List.length_take,List.length_drop,Array.length_toList];omega
 have hj:sIx items.size items.size hi<=items.size:=v_u _ _ (zL _) hi;obtain ⟨os,hos,hcs,hds⟩:=id hs;have hTs:s.TypeIs (.ref sl) "slice" := ⟨os,hos,hcs⟩;unfold getItem
 try with_reducible refine wpAny_holding ?_
 first | refine zA (zB ?_) | skip
 refine zA (wpAny_sequenceKey ht.typeIs (by decide) ?_);refine zA (wpAny_callSpecial?_slot (name:=Str.ofString "__getitem__") ht.typeIs PyProof.Rows.slot_tuple_getitem
  (wpAny_call_entry PyProof.Rows.slot_tuple_getitem ht.typeIs entry_tuple_getitem ?_ (args_tuple_getitem _ _)))
 show wpAny _ _ (Builtin.Tuple.tupleItemsOf (.ref t) >>= _) _ _ s;refine zA (tupleItemsOf_ ht ?_);refine zA (wpAny_typeOf hTs ?_);rw [if_pos (by decide)];refine zA (g_N hs pl pu ?_);have hno:¬ ((((sIx items.size 0 lo:Nat):Int) == 0 && (1:Int) == 1 && (sIx items.size items.size hi - sIx items.size 0 lo) == items.size)=true):=by
  intro q;rw [Bool.and_eq_true,Bool.and_eq_true] at q;have q1:((sIx items.size 0 lo:Nat):Int)=0:=eq_of_beq q.1.1;have q2:sIx items.size items.size hi - sIx items.size 0 lo=items.size:=eq_of_beq q.2;exact hw ⟨by omega,by omega⟩
 show wpAny _ _ (if (((sIx items.size 0 lo:Nat):Int) == 0 && (1:Int) == 1 && (sIx items.size items.size hi - sIx items.size 0 lo) == items.size)=true then _ else _) _ _ s;rw [if_neg hno,q_X]
 first
  | exact zA (m:=Builtin.Tuple.tupleExact _) (wpAny_newObj_type (zB ⟨_,rfl,zB h⟩) htake)
  | exact zA (m:=Builtin.Tuple.tupleExact _) (wpAny_newObj_type (zA (zB (zB ⟨_,rfl,zB h⟩))) htake)
  | exact zA (zA (m:=Builtin.Tuple.tupleExact _) (wpAny_newObj_type (zB (zB ⟨_,rfl,zB h⟩)) htake))
  | exact zA (zA (m:=Builtin.Tuple.tupleExact _) (wpAny_newObj_type (zB ⟨_,rfl,zB h⟩) htake))
end
end HT
namespace L2
open PySem PySem.Spec PyProof.Rows
open PySem.W (Frag)
noncomputable abbrev TO:=St->Hp->(Option Int->Hp->Prop)->Prop
noncomputable def PO (X:Cx) (e:Option Expr) (t:TO):Prop :=
 ∀ (pins:List (Addr × Obj)) (s:Shared) (σ:St) (H:Hp) (Q:Option Int->Hp->Prop),Inv X pins σ H s->t σ H Q ->
  wpAny (model X.prog X.w) X.A (evalPart e X.env) (λ u s'=>∃ o H',Inv X pins σ H' s'/\IsPart u o/\Q o H') X.xe s
noncomputable def g_m:TO:=λ _ H Q=>Q none H
noncomputable def k_R (t:TE):TO:=λ σ H Q=>t σ H λ x H1=>∃ i,x=.int i/\Q (some i) H1
section
variable {X:Cx} {e:Expr} {te:TE} {lo hi:Option Expr} {tl th:TO} {pos p2:Pos}
theorem e_I:PO X none g_m:=by
 intro pins s σ H Q I h;rw [evalPart_none];exact zB ⟨none,H,I,.none,h⟩
theorem d_X (h:PE X e te):PO X (some e) (k_R te):=by
 intro pins s σ H Q I hw;rw [evalPart_some];refine thn (h pins s σ H _ I hw) λ u s1 ⟨x,H1,I1,r1,q1⟩=>?_;obtain ⟨i,rfl,q⟩:=q1;obtain ⟨t,rfl⟩:=r1;exact ⟨some i,H1,I1,.int i t,q⟩
noncomputable def SlR (X:Cx) (r:V->Option Int->Option Int->Hp->VK->Prop):Prop :=
 ∀ (pins:List (Addr × Obj)) (s:Shared) (σ:St) (H:Hp) (x:V) (v vl vu:Value) (lo hi:Option Int) (sl:Addr) (Q:VK),Inv X pins σ H s->RelV x v->s.heap.IsSliceOf sl vl vu .none->IsPart vl lo->IsPart vu hi->r x lo hi H Q ->
  ∃ T id,typeLookup (.type T) "__getitem__" = pure (some (.builtin id))/\s.TypeIs v T/\wpAny (model X.prog X.w) X.A (getItem v (.ref sl)) (EP X pins σ Q) X.xe s
theorem SlR.or {r r':V->Option Int->Option Int->Hp->VK->Prop} (h:SlR X r) (h':SlR X r'):SlR X (λ x lo hi H Q=>r x lo hi H Q\/r' x lo hi H Q):=by
 intro pins s σ H x v vl vu lo hi sl Q I rx hs pl pu q;rcases q with q | q
 ·exact h pins s σ H x v vl vu lo hi sl Q I rx hs pl pu q
 ·exact h' pins s σ H x v vl vu lo hi sl Q I rx hs pl pu q
noncomputable def tSl (r:V->Option Int->Option Int->Hp->VK->Prop) (te:TE) (tl th:TO):TE:=λ σ H Q=>te σ H λ x H1=>tl σ H1 λ l H2=>th σ H2 λ u H3=>r x l u H3 Q
theorem d_O {r:V->Option Int->Option Int->Hp->VK->Prop} (hr:SlR X r) (he:PE X e te) (hl:PO X lo tl) (hu:PO X hi th):PE X (.Subscript e (.Slice lo hi none p2) pos) (tSl r te tl th):=by
 intro pins s σ H Q I h;refine Subscript_ (thn (he pins s σ H _ I h) λ v s1 ⟨x,H1,I1,r1,q1⟩=>?_);refine wpAny_Slice (thn (hl pins s1 σ H1 _ I1 q1) λ vl s2 ⟨l,H2,I2,pl,q2⟩=>thn (hu pins s2 σ H2 _ I2 q2) λ vu s3 ⟨u,H3,I3,pu,q3⟩=>?_);rw [evalPart_none];refine zB ?_;have I4:Inv X pins σ H3 { s3 with heap:=s3.heap.push { cls:=.type "slice",data:=.fields #[vl,vu,.none] } }:=I3.kept (t':=s3.toks) λ b ob q=>zD _ q;obtain ⟨T,id,hT,ht,hg⟩:=hr pins { s3 with heap:=s3.heap.push { cls:=.type "slice",data:=.fields #[vl,vu,.none] } } σ H3 x v vl vu l u s3.heap.objs.size Q I4 r1 (Heap.IsSliceOf.new ..) pl pu q3;show wpAny (model X.prog X.w) X.A (subscriptTail e (.Slice lo hi none p2) v (.ref s3.heap.objs.size)) (EP X pins σ Q) X.xe { s3 with heap:=s3.heap.push { cls:=.type "slice",data:=.fields #[vl,vu,.none] } };exact tail_any (ops:=[.ref s3.heap.objs.size,v]) ht hT hg (by with_unfolding_all rfl)
noncomputable def cutV (xs:List V) (lo hi:Option Int):List V:=(xs.drop (HT.sIx xs.length 0 lo)).take (HT.sIx xs.length xs.length hi - HT.sIx xs.length 0 lo)
theorem h_x (xs:List V) (lo hi:Option Int):(cutV xs lo hi).length<=xs.length:=by
 unfold cutV;rw [List.length_take,List.length_drop];omega
noncomputable def rSlT (K:Frag):V->Option Int->Option Int->Hp->VK->Prop:=λ x lo hi H Q=>∃ a xs,x=.ref a/\SqT K H a xs /\
 ¬ (HT.sIx xs.length 0 lo=0/\HT.sIx xs.length xs.length hi=xs.length)/\∀ p,H p=none->Q (.ref p) (upd H p (.tup (cutV xs lo hi)))
theorem v_v:SlR X (rSlT X.K):=by
 intro pins s σ H x v vl vu lo hi sl Q I rx hs pl pu h;obtain ⟨a,xs,rfl,hx,hw,q⟩:=h;cases rx;obtain ⟨its,r,ht,hz⟩:=I.tuple hx;have hlen:its.toArray.size=xs.length:=by rw [zJ]; exact r.length.symm
 refine ⟨"tuple",_,PyProof.Rows.slot_tuple_getitem.lookup,ht.typeIs,?_⟩;refine HT.getItem_tuple_cut ht hs pl pu (by rw [hlen]; exact hw) ?_ (by rw [hlen]; exact hz);rw [hlen];refine ⟨.ref s.heap.objs.size,_,I.laid (t':=s.toks) (o:=.tup (cutV xs lo hi)) (λ b ob q=>zD _ q) (zL _) ?_,rfl,q _ (I.hok.fresh (zL _))⟩;exact ⟨zS (h_x xs lo hi) hz,_,(r.drop (HT.sIx xs.length 0 lo)).take (HT.sIx xs.length xs.length hi - HT.sIx xs.length 0 lo),IsTup.new _ _⟩
end
noncomputable def ixN (n:Nat) (i:Int):Option Nat:=if 0<=i then (if i < n then some i.toNat else none) else if -(n:Int)<=i then some (i+n).toNat else none
noncomputable def atI {α:Type} (xs:List α) (i:Int):Option α:=(ixN xs.length i).bind λ j=>xs[j]?
theorem o_k {n:Nat} {i:Int} {j:Nat} (h:ixN n i=some j):seqIndex? i n=some j/\j < n/\-(n:Int)<=i/\i < n:=by
 unfold ixN at h
 by_cases h0:0<=i
 ·rw [if_pos h0] at h
  by_cases h1:i < n
  ·rw [if_pos h1] at h;have e:i.toNat=j:=zT h;exact ⟨by rw [seqIndex_of h0 h1,e],by omega,by omega,h1⟩
  ·rw [if_neg h1] at h; cases h
 ·rw [if_neg h0] at h
  by_cases h1:-(n:Int)<=i
  ·rw [if_pos h1] at h;have e:(i+n).toNat=j:=zT h;exact ⟨by rw [seqIndex_neg (by omega) h1,e],by omega,h1,by omega⟩
  ·rw [if_neg h1] at h; cases h
theorem o_l {α:Type} {xs:List α} {i:Int} {v:α} (h:atI xs i=some v):∃ j,seqIndex? i xs.length=some j/\xs[j]?=some v/\j < xs.length/\-(xs.length:Int)<=i/\i < xs.length:=by
 unfold atI at h;cases e:ixN xs.length i with
 | none=>rw [e] at h; cases h
 | some j =>
  rw [e] at h;obtain ⟨h1,h2,h3,h4⟩:=o_k e;exact ⟨j,h1,h,h2,h3,h4⟩
theorem t_N {α:Type} {xs:List α} {j:Nat} {v:α} (h:xs[j]?=some v):atI xs (j:Int)=some v:=by
 have hj:j < xs.length:=(List.getElem?_eq_some_iff.mp h).1;have e:ixN xs.length (j:Int)=some j:=by
  unfold ixN;rw [if_pos (by omega),if_pos (by omega)]; simp
 unfold atI; rw [e]; exact h
noncomputable def o_m (b:Expr):Prop:=∀ o i,subscripted b false o i=operate [o,i] (getItem o i)
noncomputable def IxR (X:Cx) (r:R2):Prop :=
 ∀ (value slice:Expr) (pins:List (Addr × Obj)) (s:Shared) (σ:St) (H:Hp) (x y:V) (v u:Value) (Q:VK),Inv X pins σ H s->RelV x v->RelV y u->r x y H Q ->
  subscripted slice false v u=operate [v,u] (getItem v u)->wpAny (model X.prog X.w) X.A (subscriptTail value slice v u) (EP X pins σ Q) X.xe s
noncomputable def MtR (X:Cx) (id:String) (r:V->List V->Hp->VK->Prop):Prop :=
 ∀ (pins:List (Addr × Obj)) (s:Shared) (σ:St) (H:Hp) (x:V) (xs:List V) (v:Value) (us:List Value) (Q:VK),Inv X pins σ H s->RelV x v->Vals xs us->r x xs H Q ->
  wpAny (model X.prog X.w) X.A (call (.builtin id) (v :: us)) (EP X pins σ Q) X.xe s
section
variable {X:Cx} {a b:Expr} {ta tb:TE} {pos:Pos}
theorem IxR.or {r r':R2} (h:IxR X r) (h':IxR X r'):IxR X (λ x y H Q=>r x y H Q\/r' x y H Q):=by
 intro value slice pins s σ H x y v u Q I rx ry q hs;rcases q with q | q
 ·exact h value slice pins s σ H x y v u Q I rx ry q hs
 ·exact h' value slice pins s σ H x y v u Q I rx ry q hs
theorem MtR.or {id:String} {r r':V->List V->Hp->VK->Prop} (h:MtR X id r) (h':MtR X id r'):MtR X id (λ x xs H Q=>r x xs H Q\/r' x xs H Q):=by
 intro pins s σ H x xs v us Q I rx rs q;rcases q with q | q
 ·exact h pins s σ H x xs v us Q I rx rs q
 ·exact h' pins s σ H x xs v us Q I rx rs q
theorem a_J {r:R2} (hr:IxR X r) (ha:PE X a ta) (hb:PE X b tb) (hs:o_m b):PE X (.Subscript a b pos) (tOp r ta tb):=by
 intro pins s σ H Q I h;exact Subscript_ (binT ha hb I h λ v u s2 x y H2 I2 rx ry q=>hr a b pins s2 σ H2 x y v u Q I2 rx ry q (hs _ _))
noncomputable def rIxL (K:Frag):R2:=λ x y H Q=>∃ p xs i v,x=.ref p/\y=.int i/\SqL K H p xs/\atI xs i=some v/\Q v H
noncomputable def rIxT (K:Frag):R2:=λ x y H Q=>∃ p xs i v,x=.ref p/\y=.int i/\SqT K H p xs/\atI xs i=some v/\Q v H
noncomputable def rIxS:R2:=λ x y H Q=>∃ z i c,x=.str z/\y=.int i/\z.length<=sizeLine/\atI z.cps.toList i=some c/\Q (.str ⟨#[c]⟩) H
theorem t_O:IxR X (rIxL X.K):=by
 intro value slice pins s σ H x y v u Q I rx ry h hs;obtain ⟨p,xs,i,z,rfl,rfl,hq,he,q⟩:=h;cases rx;obtain ⟨t,rfl⟩:=ry;obtain ⟨its,r,pl,hz⟩:=I.list hq;obtain ⟨j,h1,h2,h3,h4,h5⟩:=o_l he;obtain ⟨w,ew,rw'⟩:=r.get h2;have hl:=r.length;have hn:=h_Y;have fin:EP X pins σ Q w s:=⟨z,H,I,rw',q⟩
 by_cases h0:0<=i
 ·have hj:i.toNat=j:=by
   rw [seqIndex_of h0 h5] at h1;exact zT h1
  exact item_listR pl.isList h0 (by omega) (by rw [hj]; simpa using ew) fin hs
 ·have hj:(i+(its.toArray.size:Int)).toNat=j:=by
   rw [seqIndex_neg (by omega) h4] at h1;rw [zJ,← hl];exact zT h1
  exact subscriptTail_builtinR (x:=w) pl.isList.typeIs slot_list_getitem.lookup
   (wpAny_getItem_list_neg (Q:=λ r s'=>r=w/\EP X pins σ Q r s') pl.isList (by omega) (by rw [zJ] <;> omega) (by omega) (by rw [hj]; simpa using ew) ⟨rfl,fin⟩) hs
theorem v_w:IxR X (rIxT X.K):=by
 intro value slice pins s σ H x y v u Q I rx ry h hs;obtain ⟨p,xs,i,z,rfl,rfl,hq,he,q⟩:=h;cases rx;obtain ⟨t,rfl⟩:=ry;obtain ⟨its,r,pl,hz⟩:=I.tuple hq;obtain ⟨j,h1,h2,h3,h4,h5⟩:=o_l he;obtain ⟨w,ew,rw'⟩:=r.get h2;have hl:=r.length;have hn:=h_Y;have fin:EP X pins σ Q w s:=⟨z,H,I,rw',q⟩;exact subscriptTail_builtinR (x:=w) pl.typeIs slot_tuple_getitem.lookup
  (getItem_tuple (j:=j) (Q:=λ r s'=>r=w/\EP X pins σ Q r s') pl (by omega) (by omega) (by rw [zJ,← hl]; exact h1) (by simpa using ew) ⟨rfl,fin⟩) hs
theorem m_S (its:List Value) (n j:Nat) (u:Value):Obj.mapSeq (·.setIfInBounds j u) { cls:=.type "list",data:=.seq its.toArray n }={ cls:=.type "list",data:=.seq (its.set j u).toArray n }:=by
 simp [Obj.mapSeq]
theorem Inv.lst {pins:List (Addr × Obj)} {σ:St} {H:Hp} {s:Shared} {p:Addr} {xs:List V} (I:Inv X pins σ H s) (h:H p=some (.lst xs)) :
  ∃ (its:List Value) (n:Nat),Vals xs its/\s.heap.get? p=some { cls:=.type "list",data:=.seq its.toArray n }/\xs.length<=sizeLine:=by
 obtain ⟨z,its,n,r,e⟩:=I.hok p _ h;exact ⟨its,n,r,e,z⟩
theorem Inv.lstUpd {pins:List (Addr × Obj)} {σ:St} {H:Hp} {s:Shared} {p:Addr} {xs ys:List V} {its its':List Value} {n n':Nat} {f:Obj->Obj} (I:Inv X pins σ H s) (h:H p=some (.lst xs))
  (ho:s.heap.get? p=some { cls:=.type "list",data:=.seq its.toArray n }) (hf:f { cls:=.type "list",data:=.seq its.toArray n }={ cls:=.type "list",data:=.seq its'.toArray n' }) (r:Vals ys its') (hz:ys.length<=sizeLine) (t:Nat) :
  Inv X pins σ (upd H p (.lst ys)) { s with heap:=s.heap.update p f,toks:=t }:=by
 have e:(s.heap.update p f).get? p=some { cls:=.type "list",data:=.seq its'.toArray n' }:=by
  rw [Heap.get?_update_self f ho (by rw [hf] <;> rfl),hf]
 refine I.write (x:=p) (e:=p) (by rw [h]; trivial) (.inl rfl) (λ b u hb q=>(Heap.get?_update_other _ _ (Ne.symm hb)).trans q) ⟨_,e⟩ ?_;exact ⟨hz,its',n',r,e⟩
noncomputable def q_Y:V->V->V->Hp->(Hp->Prop)->Prop:=λ o i v H Q=>∃ p xs k j,o=.ref p/\i=.int k/\H p=some (.lst xs)/\ixN xs.length k=some j/\Q (upd H p (.lst (xs.set j v)))
theorem q_Z:PSet X q_Y:=by
 intro pins s σ H o i v ov iv u Q I ro ri rv h;obtain ⟨p,xs,k,j,rfl,rfl,hp,hj,q⟩:=h;cases ro;obtain ⟨t,rfl⟩:=ri;obtain ⟨its,n,r,ho,hz⟩:=I.lst hp;obtain ⟨h1,h2,h3,h4⟩:=o_k hj;have hl:=r.length;have hn:=h_Y;have I':Inv X pins σ (upd H p (.lst (xs.set j v))) { s with heap:=s.heap.update p (Obj.mapSeq (·.setIfInBounds j u)) } :=
  I.lstUpd hp ho (m_S its n j u) (r.set rv j) (by rw [List.length_set]; exact hz) s.toks
 by_cases h0:0<=k
 ·have hk:k.toNat=j:=by
   rw [seqIndex_of h0 h4] at h1;exact zT h1
  exact PySem.W.ki_setAt ho h0 (by omega) (by rw [zJ,← hl]; exact h4) (by rw [hk]; exact ⟨_,I',q⟩)
 ·have hk:(k+(its.toArray.size:Int)).toNat=j:=by
   rw [seqIndex_neg (by omega) h3] at h1;rw [zJ,← hl];exact zT h1
  exact PySem.W.ki_setBack ho (by omega) (by rw [zJ,← hl]; exact h3) (by omega) (by rw [hk]; exact ⟨_,I',q⟩)
theorem j_I (lo hi:Option Int) (n:Nat):(sliceBounds lo hi none n).1=((HT.sIx n 0 lo:Nat):Int)/\(sliceBounds lo hi none n).2.1=((HT.sIx n n hi:Nat):Int)/\(sliceBounds lo hi none n).2.2=1:=by
 refine ⟨?_,?_,rfl⟩
 ·cases lo with
  | none=>simp [sliceBounds,HT.sIx]
  | some i =>
   simp only [sliceBounds,HT.sIx,Option.getD_none,show (1:Int) > 0 by decide,if_true]
   by_cases h:i < 0
   ·simp only [h,if_true] <;> omega
   ·simp only [h,if_false] <;> omega
 ·cases hi with
  | none=>simp [sliceBounds,HT.sIx]
  | some i =>
   simp only [sliceBounds,HT.sIx,Option.getD_none,show (1:Int) > 0 by decide,if_true]
   by_cases h:i < 0
   ·simp only [h,if_true] <;> omega
   ·simp only [h,if_false] <;> omega
theorem i_U (its:List Value) (lo hi:Option Int):slicePick its.toArray lo hi none=((its.drop (HT.sIx its.length 0 lo)).take (HT.sIx its.length its.length hi - HT.sIx its.length 0 lo)).toArray:=by
 obtain ⟨h1,h2,h3⟩:=j_I lo hi its.toArray.size;unfold slicePick;rw [h1,h2,h3];simp only [sliceRange_one,pick_run,zJ] <;> rfl
noncomputable def rSlL (K:Frag):V->Option Int->Option Int->Hp->VK->Prop:=λ x lo hi H Q=>∃ a xs,x=.ref a/\SqL K H a xs/\∀ p,H p=none->Q (.ref p) (upd H p (.lst (cutV xs lo hi)))
theorem t_P:SlR X (rSlL X.K):=by
 intro pins s σ H x v vl vu lo hi sl Q I rx hs pl pu h;obtain ⟨a,xs,rfl,hx,q⟩:=h;cases rx;obtain ⟨its,r,ht,hz⟩:=I.list hx;have hlen:=r.length;refine ⟨"list",_,slot_list_getitem.lookup,ht.isList.typeIs,?_⟩;refine wpAny_getItem_list_slice ht.isList hs pl pu .none (by simp) ?_ (by rw [zJ] <;> omega);rw [i_U,← hlen];refine ⟨.ref s.heap.objs.size,_,I.laid (t':=s.toks) (o:=.lst (cutV xs lo hi)) (λ b ob q=>zD _ q) (zL _) ?_,rfl,q _ (I.hok.fresh (zL _))⟩;exact ⟨zS (h_x xs lo hi) hz,_,0,(r.drop (HT.sIx xs.length 0 lo)).take (HT.sIx xs.length xs.length hi - HT.sIx xs.length 0 lo),zF _ rfl⟩
noncomputable def h_y:V->Bool
 | .non=>true
 | .bl _=>true
 | .int _=>true
 | .str _=>true
 | _=>false
noncomputable def eqV:V->V->Bool
 | .non,.non=>true
 | .bl a,.bl b=>a == b
 | .bl a,.int b=>(if a then 1 else 0) == b
 | .int a,.bl b=>a == (if b then 1 else 0)
 | .int a,.int b=>a == b
 | .str a,.str b=>a == b
 | _,_=>false
theorem v_x {A:Around} {s:Shared} {y x:V} {u v:Value} (ry:RelV y u) (rx:RelV x v) (fy:h_y y=true) (fx:h_y x=true):SeqAt.EqAt A s u v (eqV y x):=by
 cases y with
 | non =>
  cases ry;cases x with
  | non=>cases rx; exact SeqAt.EqAt.same _
  | bl b=>cases rx; exact SeqAt.EqAt.none_bool b
  | int b=>obtain ⟨t,rfl⟩:=rx; exact SeqAt.EqAt.none_int b t
  | str b=>obtain ⟨t,rfl⟩:=rx; exact SeqAt.EqAt.none_str b t
  | _=>exact yJ (show false=true from fx) zV
 | bl a =>
  cases ry;cases x with
  | non=>cases rx; exact SeqAt.EqAt.bool_none a
  | bl b=>cases rx; exact SeqAt.EqAt.bool_bool a b
  | int b=>obtain ⟨t,rfl⟩:=rx; exact SeqAt.EqAt.bool_int a b t
  | str b=>obtain ⟨t,rfl⟩:=rx; exact SeqAt.EqAt.bool_str a b t
  | _=>exact yJ (show false=true from fx) zV
 | int a =>
  obtain ⟨t',rfl⟩:=ry;cases x with
  | non=>cases rx; exact SeqAt.EqAt.int_none a t'
  | bl b=>cases rx; exact SeqAt.EqAt.int_bool a t' b
  | int b=>obtain ⟨t,rfl⟩:=rx; exact SeqAt.EqAt.int_int a t' b t
  | str b=>obtain ⟨t,rfl⟩:=rx; exact SeqAt.EqAt.int_str a t' b t
  | _=>exact yJ (show false=true from fx) zV
 | str a =>
  obtain ⟨t',rfl⟩:=ry;cases x with
  | non=>cases rx; exact SeqAt.EqAt.str_none a t'
  | bl b=>cases rx; exact SeqAt.EqAt.str_bool a t' b
  | int b=>obtain ⟨t,rfl⟩:=rx; exact SeqAt.EqAt.str_int a t' b t
  | str b=>obtain ⟨t,rfl⟩:=rx; exact SeqAt.EqAt.str_str a t' b t
  | _=>exact yJ (show false=true from fx) zV
 | _=>exact yJ (show false=true from fy) zV
noncomputable def eqU (x:V) (u:Value):Bool:=match u with
 | .none=>eqV .non x
 | .bool b=>eqV (.bl b) x
 | .int i _=>eqV (.int i) x
 | .str z _=>eqV (.str z) x
 | _=>false
theorem r_a {x y:V} {u:Value} (r:RelV y u) (f:h_y y=true):eqU x u=eqV y x:=by
 cases y with
 | non=>cases r; rfl
 | bl b=>cases r; rfl
 | int i=>obtain ⟨t,rfl⟩:=r; rfl
 | str z=>obtain ⟨t,rfl⟩:=r; rfl
 | _=>exact yJ (show false=true from f) zV
theorem j_J {x:V}:∀ {xs:List V} {us:List Value},Vals xs us->xs.all h_y=true->us.any (eqU x)=xs.any λ y=>eqV y x
 | _,_,.nil,_=>rfl
 | y :: xs,u :: us,.cons r t,f=>by
  rw [List.all_cons,Bool.and_eq_true] at f;rw [List.any_cons,List.any_cons,r_a r f.1,j_J t f.2]
theorem i_c {A:Around} {s:Shared} {x:V} {v:Value} (rx:RelV x v) (fx:h_y x=true):∀ {xs:List V} {us:List Value},Vals xs us->xs.all h_y=true->∀ u∈us,SeqAt.EqAt A s u v (eqU x u)
 | _,_,.nil,_=>λ u hu=>by cases hu
 | y :: xs,u :: us,.cons r t,f=>λ u' hu=>by
  rw [List.all_cons,Bool.and_eq_true] at f;rcases List.mem_cons.mp hu with rfl | hu
  ·rw [r_a r f.1]; exact v_x r rx f.1 fx
  ·exact i_c rx fx t f.2 u' hu
noncomputable def inV (x:V) (xs:List V):Bool:=xs.any λ y=>eqV y x
noncomputable def rIn (K:Frag) (neg:Bool):R2:=λ x y H Q=>∃ p xs,y=.ref p/\(SqL K H p xs\/SqT K H p xs)/\h_y x=true/\xs.all h_y=true/\Q (.bl (if neg then !inV x xs else inV x xs)) H
theorem d_Y:OpR X (compareOp .NotIn) (rIn X.K true):=by
 intro pins s σ H x y v u Q I rx ry h;obtain ⟨p,xs,rfl,hq,fx,fs,q⟩:=h;cases ry;rcases hq with hq | hq
 ·obtain ⟨its,r,pl,hz⟩:=I.list hq;refine SeqAt.notIn_listAt (eqU x) pl.isList (λ w hw=>i_c rx fx r fs w (by simpa using hw)) ⟨.bl _,H,I,rfl,?_⟩;rw [show its.toArray.any (eqU x)=its.any (eqU x) by simp,j_J r fs];exact q
 ·obtain ⟨its,r,pl,hz⟩:=I.tuple hq;refine SeqAt.notIn_tupleAt (eqU x) pl (λ w hw=>i_c rx fx r fs w (by simpa using hw)) ⟨.bl _,H,I,rfl,?_⟩;rw [show its.toArray.any (eqU x)=its.any (eqU x) by simp,j_J r fs];exact q
theorem j_K:c_O X (.builtin "len") (λ xs H Q=>∃ p ys,xs=[.ref p]/\(SqL X.K H p ys\/SqT X.K H p ys)/\Q (.int ys.length) H):=by
 intro pins s σ H xs us Q I r h;obtain ⟨p,ys,rfl,hq,q⟩:=h;obtain ⟨u,rfl,rx⟩:=e_T r;cases rx;have hn:=h_Y;rcases hq with hq | hq
 ·obtain ⟨its,r',pl,hz⟩:=I.list hq;have hlen:=r'.length;exact Calls.call_len_list pl.isList (by simp only [zJ] <;> omega) ⟨.int ys.length,H,I.tok _,⟨s.toks+1,by rw [zJ,hlen]⟩,q⟩
 ·obtain ⟨its,r',pl,hz⟩:=I.tuple hq;have hlen:=r'.length;exact len_tuple pl (by simp only [zJ] <;> omega) ⟨.int ys.length,H,I.tok _,⟨s.toks+1,by rw [zJ,hlen]⟩,q⟩
theorem g_n:c_O X (.builtin "len") (λ xs H Q=>∃ z,xs=[.str z]/\z.length<=sizeLine/\Q (.int z.length) H):=by
 intro pins s σ H xs us Q I r h;obtain ⟨z,rfl,hz,q⟩:=h;obtain ⟨u,rfl,t,rfl⟩:=e_T r;have hn:=h_Y;exact len_str (by omega) ⟨.int z.length,H,I.tok _,⟨_,rfl⟩,q⟩
theorem c_O.or {f:Value} {r r':List V->Hp->VK->Prop} (h:c_O X f r) (h':c_O X f r'):c_O X f (λ xs H Q=>r xs H Q\/r' xs H Q):=by
 intro pins s σ H xs us Q I rs q;rcases q with q | q
 ·exact h pins s σ H xs us Q I rs q
 ·exact h' pins s σ H xs us Q I rs q
theorem j_L:c_O X (.type "list") (λ xs H Q=>∃ p ys,xs=[.ref p]/\(SqL X.K H p ys\/SqT X.K H p ys)/\∀ l,H l=none->Q (.ref l) (upd H l (.lst ys))):=by
 intro pins s σ H xs us Q I r h;obtain ⟨p,ys,rfl,hq,q⟩:=h;obtain ⟨u,rfl,rx⟩:=e_T r;cases rx;have fin:∀ (its:List Value),Vals ys its->ys.length<=sizeLine->∀ (h':Heap) (c':Nat),(∀ b o',s.heap.get? b=some o'->h'.get? b=some o') ->
   h'.get? s.heap.objs.size=some { cls:=.type "list",dict:=none,data:=.seq its.toArray c',slots:=#[] }->EP X pins σ Q (.ref s.heap.objs.size) { s with heap:=h' }:=λ its r' hz h' c' kp e =>
  ⟨.ref s.heap.objs.size,_,I.laid (t':=s.toks) kp (zL _) (show c_A X.prog X.w _ h' _ (.lst ys) from ⟨hz,its,c',r',e⟩),rfl,q _ (I.hok.fresh (zL _))⟩
 rcases hq with hq | hq
 ·obtain ⟨its,r',pl,hz⟩:=I.list hq;have hlen:=r'.length;obtain ⟨o,ho,hc,n,hd⟩:=pl.isList;exact call_list_seq p (.inl rfl) ho hc hd (λ h' c' kp e=>fin its r' hz h' c' kp e) (by simp only [zJ] <;> omega)
 ·obtain ⟨its,r',pl,hz⟩:=I.tuple hq;have hlen:=r'.length;obtain ⟨o,ho,hc,n,hd⟩:=pl;exact call_list_seq p (.inr rfl) ho hc hd (λ h' c' kp e=>fin its r' hz h' c' kp e) (by simp only [zJ] <;> omega)
theorem i_V:c_O X (.type "tuple") (λ xs H Q=>∃ p ys,xs=[.ref p]/\((SqL X.K H p ys/\∀ l,H l=none->Q (.ref l) (upd H l (.tup ys)))\/(SqT X.K H p ys/\Q (.ref p) H))):=by
 intro pins s σ H xs us Q I r h;obtain ⟨p,ys,rfl,h⟩:=h;obtain ⟨u,rfl,rx⟩:=e_T r;cases rx;rcases h with ⟨hq,q⟩ | ⟨hq,q⟩
 ·obtain ⟨its,r',pl,hz⟩:=I.list hq;have hlen:=r'.length;refine call_tuple_list pl.isList (λ h' kp=>?_) (by simp only [zJ] <;> omega);have I1:Inv X pins σ H { s with heap:=h' }:=I.kept (t':=s.toks) kp;have I2:Inv X pins σ (upd H h'.objs.size (.tup ys)) { s with heap:=h'.push { cls:=.type "tuple",data:=.seq its.toArray } } :=
   I1.laid (t':=s.toks) (λ b o e=>zD _ e) (zL _) (show c_A X.prog X.w _ _ _ (.tup ys) from ⟨hz,its,r',IsTup.new _ _⟩)
  exact ⟨.ref h'.objs.size,_,I2,rfl,q _ (I1.hok.fresh (zL _))⟩
 ·obtain ⟨its,r',pl,hz⟩:=I.tuple hq;exact call_tuple_same pl ⟨.ref p,H,I,rfl,q⟩
noncomputable def tyV (K:Frag) (T:String) (x:V) (H:Hp):Prop:=match x with
 | .str _=>T = "str"
 | .int _=>T = "int"
 | .ref p=>(T = "list" /\ ∃ xs,SqL K H p xs)\/(T = "tuple" /\ ∃ o,K.lookup p=some o/\o.cls=.type "tuple" /\ o.dict=none) \/
   (T = "dict" /\ ((∃ kvs,H p=some (.dK kvs))\/∃ kvs,H p=some (.dT kvs)))\/(T = "set" /\ ∃ S n,H p=some (.set S n))
 | _=>False
theorem i_d {pins:List (Addr × Obj)} {σ:St} {H:Hp} {s:Shared} {T:String} {x:V} {v:Value} (I:Inv X pins σ H s) (r:RelV x v) (ty:tyV X.K T x H) :
  s.TypeIs v T/\∀ a,v=.ref a->∃ ob,s.heap.get? a=some ob/\ob.dict=none:=by
 cases x with
 | str z =>
  obtain ⟨t,rfl⟩:=r;cases (show T = "str" from ty);exact ⟨typeIs_str s z t,λ _ e=>nomatch e⟩
 | int i =>
  obtain ⟨t,rfl⟩:=r;cases (show T = "int" from ty);exact ⟨typeIs_int s i t,λ _ e=>nomatch e⟩
 | ref p =>
  cases r;rcases ty with ⟨rfl,xs,hq⟩ | ⟨rfl,o,hk,hc,hd⟩ | ⟨rfl,hk⟩ | ⟨rfl,S,n,hk⟩
  ·obtain ⟨its,_,pl,_⟩:=I.list hq;refine ⟨pl.isList.typeIs,λ a e=>?_⟩;cases e;obtain ⟨o,n,e,c,hd,_⟩:=pl;exact ⟨o,e,hd⟩
  ·refine ⟨⟨o,I.kIn p o hk,hc⟩,λ a e=>?_⟩;cases e;exact ⟨o,I.kIn _ o hk,hd⟩
  ·have z:∃ o,s.heap.get? p=some o/\o.ExactDict:=by
    rcases hk with ⟨kvs,hk⟩ | ⟨kvs,hk⟩
    ·obtain ⟨_,_,_,_,o,_,_,e,ex,_⟩:=I.hok p _ hk;exact ⟨o,e,ex⟩
    ·obtain ⟨_,_,_,_,o,_,_,e,ex,_⟩:=I.hok p _ hk;exact ⟨o,e,ex⟩
   obtain ⟨o,e,ex⟩:=z;refine ⟨⟨o,e,ex.1⟩,λ a e2=>?_⟩;cases e2;exact ⟨o,e,ex.2.1⟩
  ·obtain ⟨o,_,_,_,e,ex,_⟩:=I.hok p _ hk;refine ⟨⟨o,e,ex.1⟩,λ a e2=>?_⟩;cases e2;exact ⟨o,e,ex.2.1⟩
 | _=>exact False.elim ty
noncomputable def tBM0 (K:Frag) (T:String) (r:V->List V->Hp->VK->Prop) (to:TE):TE:=λ σ H Q=>to σ H λ x H1=>tyV K T x H1/\r x [] H1 Q
noncomputable def tBM (K:Frag) (T:String) (r:V->List V->Hp->VK->Prop) (to:TE) (t:TA):TE:=λ σ H Q=>to σ H λ x H1=>tyV K T x H1/\t σ H1 λ xs H2=>r x xs H2 Q
variable {o e:Expr} {es:List Expr} {to:TE} {t:TA} {name:Str} {apos cpos:Pos} {T id:String} {r:V->List V->Hp->VK->Prop}
theorem v_y (pa:PlainAttrs T) (slot:Slot T name id) (hty:typeOf (.builtin id)=pure (.type "method_descriptor")) (hm:MtR X id r) (ho:PE X o to)
  (hbase:attributeBase o name X.env (eval o X.env)=eval o X.env:=by rfl) (hline:(apos.endLine == cpos.line)=true:=by rfl):PE X (.Call (.Attribute o name apos) [] [] cpos) (tBM0 X.K T r to):=by
 intro pins s σ H Q I h;refine wpAny_Call_method0_late hbase hline (thn (ho pins s σ H _ I h) λ v s1 ⟨x,H1,I1,r1,ty,q1⟩=>?_);obtain ⟨h1,h2⟩:=i_d I1 r1 ty;exact ⟨T,id,pa,slot,hty,h1,h2,Calls.callWith_builtin rfl (PySem.evalArgs_none (hm pins s1 σ H1 x [] v [] Q I1 r1 .nil q1))⟩
theorem f_Y (pa:PlainAttrs T) (slot:Slot T name id) (hty:typeOf (.builtin id)=pure (.type "method_descriptor")) (hm:MtR X id r) (ho:PE X o to) (ha:PA X (e :: es) t)
  (hbase:attributeBase o name X.env (eval o X.env)=eval o X.env:=by rfl)
  (hfew:((backTo cpos (starEach (e :: es) X.env)).all (λ x=>!x.1) && (backToKw cpos (keywordEach [] X.env)).all (λ x=>x.1.isSome)
   && decide ((e :: es).length+([]:List Keyword).length+(if ([]:List Keyword).isEmpty then 0 else 1) < 30))=true:=by rfl)
  (hline:(apos.endLine == cpos.line)=true:=by rfl) (hs:starEach (e :: es) X.env=(false,eval e X.env) :: starEach es X.env:=by rfl) (hplain:(backTo cpos (starEach es X.env)).any (·.1)=false:=by rfl) :
  PE X (.Call (.Attribute o name apos) (e :: es) [] cpos) (tBM X.K T r to t):=by
 intro pins s σ H Q I h;refine wpAny_Call_method_late hbase hfew hline rfl (thn (ho pins s σ H _ I h) λ v s1 ⟨x,H1,I1,r1,ty,q1⟩=>?_);obtain ⟨h1,h2⟩:=i_d I1 r1 ty;refine ⟨T,id,pa,slot,hty,h1,h2,?_⟩;have hA:=ha cpos pins s1 σ H1 _ I1 q1;rw [hs] at hA ⊢;refine Calls.callWith_builtin (by show (false || (backTo cpos (starEach es X.env)).any (·.1))=false; rw [hplain] <;> rfl) (Calls.evalArgs_plain ?_);exact thn hA λ us s2 ⟨vs,H2,I2,r2,q2⟩=>hm pins s2 σ H2 x vs v us Q I2 r1 r2 q2
end
noncomputable def MtM (X:Cx) (id:String) (r:V->List V->Hp->VK->Prop):Prop :=
 ∀ (pins:List (Addr × Obj)) (s:Shared) (σ:St) (H:Hp) (x:V) (xs:List V) (v:Value) (us:List Value) (Q:VK),Inv X pins σ H s->RelV x v->Vals xs us->r x xs H Q ->
  wpAny (model X.prog X.w) X.A (call (.builtin id) (v :: us)) (EP X pins σ Q) X.xe s
theorem Vals.one:∀ {x:V} {us:List Value},Vals [x] us->∃ u,us=[u]/\RelV x u
 | _,_,.cons r .nil=>⟨_,rfl,r⟩
theorem Vals.two:∀ {x y:V} {us:List Value},Vals [x,y] us->∃ u v,us=[u,v]/\RelV x u/\RelV y v
 | _,_,_,.cons r (.cons q .nil)=>⟨_,_,rfl,r,q⟩
theorem Vals.zero:∀ {us:List Value},Vals [] us->us=[]
 | _,.nil=>rfl
theorem Vals.dropLast {xs:List V} {us:List Value} (h:Vals xs us):Vals xs.dropLast us.dropLast:=by
 induction h with
 | nil=>exact .nil
 | cons r t ih =>
  cases t with
  | nil=>exact .nil
  | cons q t'=>exact .cons r ih
theorem Vals.eraseIdx:∀ {xs:List V} {us:List Value} (i:Nat),Vals xs us->Vals (xs.eraseIdx i) (us.eraseIdx i)
 | _,_,_,.nil=>.nil
 | _,_,0,.cons _ t=>t
 | _,_,i+1,.cons r t=>.cons r (Vals.eraseIdx i t)
theorem Vals.reverse {xs:List V} {us:List Value} (h:Vals xs us):Vals xs.reverse us.reverse:=by
 induction h with
 | nil=>exact .nil
 | cons r t ih=>rw [List.reverse_cons,List.reverse_cons]; exact Vals.append ih (.cons r .nil)
theorem Vals.rep {xs:List V} {us:List Value} (h:Vals xs us):∀ k:Nat,Vals (List.replicate k xs).flatten (List.replicate k us).flatten
 | 0=>.nil
 | k+1=>by
  rw [List.replicate_succ,List.replicate_succ,List.flatten_cons,List.flatten_cons];exact Vals.append h (Vals.rep h k)
theorem j_d (its:List Value):∀ (k:Nat) (acc:List Value),
  List.foldl (λ x1 x2=>x1++x2) acc.toArray (List.replicate k its.toArray)=(acc++(List.replicate k its).flatten).toArray
 | 0,acc=>by simp
 | k+1,acc=>by
  have e:acc.toArray++its.toArray=(acc++its).toArray:=by simp
  have e2:(acc++its)++(List.replicate k its).flatten=acc++(List.replicate (k+1) its).flatten:=by
   rw [List.replicate_succ,List.flatten_cons,List.append_assoc]
  rw [← e2,← j_d its k (acc++its),← e,List.replicate_succ,List.foldl_cons]
section
variable {X:Cx} {pins:List (Addr × Obj)} {σ:St} {H:Hp} {s:Shared} {l b:Addr} {xs ys zs:List V}
theorem Inv.lset {its its':List Value} {n:Nat} {f:Array Value->Array Value} {t':Nat} (I:Inv X pins σ H s) (hH:H l=some (.lst xs))
  (e:s.heap.get? l=some { cls:=.type "list",data:=.seq its.toArray n }) (hf:f its.toArray=its'.toArray) (hv:Vals ys its') (hz:ys.length<=sizeLine) :
  Inv X pins σ (upd H l (.lst ys)) { s with heap:=s.heap.update l (Obj.mapSeq f),toks:=t' }:=by
 have q:=PySem.IsL.update e f;rw [hf] at q;refine I.write (x:=l) (e:=l) (by rw [hH]; exact trivial) (.inl rfl) (λ b' u hb hu=>(Heap.get?_update_other s.heap (Obj.mapSeq f) (Ne.symm hb)).trans hu) ⟨_,q⟩ ?_;exact ⟨hz,its',_,hv,q⟩
theorem Inv.lnew {its:List Value} {t':Nat} (I:Inv X pins σ H s) (hv:Vals ys its) (hz:ys.length<=sizeLine) :
  Inv X pins σ (upd H s.heap.objs.size (.lst ys)) { s with heap:=s.heap.push { cls:=.type "list",data:=.seq its.toArray },toks:=t' } :=
 I.laid (λ _ _ q=>zD _ q) (zL _) ⟨hz,its,0,hv,zF _ rfl⟩
theorem Inv.fresh (I:Inv X pins σ H s):H s.heap.objs.size=none:=I.hok.fresh (zL _)
theorem Inv.lstM (I:Inv X pins σ H s) (hH:H l=some (.lst xs)):xs.length<=sizeLine/\∃ (its:List Value) (n:Nat),Vals xs its/\xs.length=its.length/\s.heap.get? l=some { cls:=.type "list",data:=.seq its.toArray n }:=by
 obtain ⟨z,its,n,r,e⟩:=I.hok l _ hH;exact ⟨z,its,n,r,r.length,e⟩
theorem r_b {n:Nat} (h:n<=sizeLine):Builtin.List.listTooLong n=false:=by
 unfold Builtin.List.listTooLong;exact zX (by omega)
end
section
variable {X:Cx}
noncomputable def t_Q:V->List V->Hp->VK->Prop:=λ x vs H Q=>∃ l xs y,x=.ref l/\vs=[y]/\H l=some (.lst xs)/\xs.length < sizeLine/\Q .non (upd H l (.lst (xs++[y])))
theorem f_L:MtM X "list.append" t_Q:=by
 intro pins s σ H x vs v us Q I rx rv h;obtain ⟨l,xs,y,rfl,rfl,hH,hz,q⟩:=h;cases rx;obtain ⟨u,rfl,ru⟩:=rv.one;obtain ⟨z,its,n,r,hl,e⟩:=I.lstM hH;refine call_meets F.slot_list_append ⟨_,e,rfl⟩ F.entry_list_append (F.args_list_append_2 _ _) (PySem.list_append l its.toArray n u (by rw [zJ]; omega)) ⟨e,?_⟩;refine ⟨.non,_,I.lset (its':=its++[u]) hH e (by simp) (r.append (.cons ru .nil)) ?_,rfl,q⟩;rw [List.length_append,List.length_singleton];omega
noncomputable def v_z:V->List V->Hp->VK->Prop:=λ x vs H Q=>∃ l xs,x=.ref l/\vs=[]/\H l=some (.lst xs)/\Q .non (upd H l (.lst []))
theorem r_c:MtM X "list.clear" v_z:=by
 intro pins s σ H x vs v us Q I rx rv h;obtain ⟨l,xs,rfl,rfl,hH,q⟩:=h;cases rx;have hus:=rv.zero;subst hus;obtain ⟨z,its,n,r,hl,e⟩:=I.lstM hH;refine call_meets F.slot_list_clear ⟨_,e,rfl⟩ F.entry_list_clear (F.args_list_clear_1 _) (AutoSeq1.list_clear_list_0 l its.toArray n (by rw [zJ]; omega)) ⟨e,?_⟩;exact ⟨.non,_,I.lset (its':=[]) (ys:=[]) hH e rfl .nil (Nat.zero_le _),rfl,q⟩
noncomputable def rCat:R2:=λ x y H Q=>∃ l b xs zs,x=.ref l/\y=.ref b/\H l=some (.lst xs)/\H b=some (.lst zs)/\xs.length+zs.length<=sizeLine/\∀ p,H p=none->Q (.ref p) (upd H p (.lst (xs++zs)))
theorem j_M:OpR X (binaryOp .Add) rCat:=by
 intro pins s σ H x y v u Q I rx ry h;obtain ⟨l,b,xs,zs,rfl,rfl,hH,hB,hz,q⟩:=h;cases rx;cases ry;obtain ⟨z,its,n,r,hl,e⟩:=I.lstM hH;obtain ⟨z2,its2,n2,r2,hl2,e2⟩:=I.lstM hB;refine PySem.P.add_list e e2 ?_ (by rw [zJ,zJ]; omega);have ea:its.toArray++its2.toArray=(its++its2).toArray:=by simp
 rw [ea];exact ⟨.ref _,_,I.lnew (t':=s.toks) (r.append r2) (by rw [List.length_append]; omega),rfl,q _ I.fresh⟩
noncomputable def rRep:R2:=λ x y H Q=>∃ l k xs,x=.ref l/\y=.int k/\H l=some (.lst xs)/\-(2 ^ 63)<=k/\k < 2 ^ 63/\xs.length*k.toNat<=sizeLine /\
 ∀ p,H p=none->Q (.ref p) (upd H p (.lst (List.replicate k.toNat xs).flatten))
theorem t_R {α:Type} (xs:List α) (k:Nat):(List.replicate k xs).flatten.length=k*xs.length:=by
 induction k with
 | zero=>simp
 | succ k ih=>rw [List.replicate_succ,List.flatten_cons,List.length_append,ih,Nat.succ_mul,Nat.add_comm]
theorem r_d:OpR X (binaryOp .Mult) rRep:=by
 intro pins s σ H x y v u Q I rx ry h;obtain ⟨l,k,xs,rfl,rfl,hH,h1,h2,hz,q⟩:=h;cases rx;obtain ⟨t,rfl⟩:=ry;obtain ⟨z,its,n,r,hl,e⟩:=I.lstM hH;have hlen:its.toArray.size*k.toNat<=sizeLine:=by rw [zJ,← hl]; exact hz
 have hcap:¬ its.toArray.size*k.toNat > (2 ^ 63 - 1) / 8:=by
  have:(sizeLine:Nat)<=(2 ^ 63 - 1) / 8:=by decide
  omega
 have hfit:¬ (!Builtin.List.listFitsIndex k)=true:=by
  rw [fitsIndex_both h1 h2];exact zV
 have hlong:¬ Builtin.List.listTooLong (its.toArray.size*k.toNat)=true:=by
  rw [r_b hlen];exact zV
 have hnew:List.foldl (λ x1 x2=>x1++x2) #[] (List.replicate (if its.toArray.isEmpty=true then 0 else k.toNat) its.toArray)=(List.replicate k.toNat its).flatten.toArray:=by
  have f0:∀ m:Nat,List.foldl (λ x1 x2=>x1++x2) #[] (List.replicate m its.toArray)=(List.replicate m its).flatten.toArray:=λ m=>by
   have:=j_d its m [];rw [List.nil_append] at this;exact this
  rw [f0];cases its with
  | nil=>simp
  | cons a r'=>rw [if_neg (by simp)]
 refine wpAny_binaryOp_repeat_ref (T := "list") (U := "int") (by decide) ⟨_,e,rfl⟩ (λ s'=>typeIs_int s' k t) noFill_list_mul F.fills_int_mul F.slot_int_rmul repeat_list F.slot_int_index.lookup
  (call_meets F.slot_int_rmul (typeIs_int s k t) F.entry_int_rmul (F.args_int_rmul_2 _ _) (int___rmul___int_list k t l its.toArray n)
   ⟨e,rfl,⟨_,e,rfl⟩,call_meets F.slot_list_mul ⟨_,e,rfl⟩ F.entry_list_mul (F.args_list_mul_2 _ _) (AutoListH.list___mul___list_int_3 l its.toArray n k t hfit hcap hlong) ⟨e,?_⟩⟩)
 rw [hnew];exact ⟨.ref _,_,I.lnew (t':=s.toks) (r.rep k.toNat) (by rw [t_R,Nat.mul_comm]; exact hz),rfl,q _ I.fresh⟩
end
section
variable {prog:Program} {w:World} {A:Around} {E:Value->Shared->Prop} {s:Shared}
set_option maxRecDepth 100000 in
end
end L2
namespace Att
open PySem PySem.W PySem.Calls PyProof.Rows
theorem h_E {P:Params} {h:Heap}:∀ (ns:List Int) (vs:List Value),WellAll P h vs (ns.map WData.int)->IntsAre vs ns:=by
 intro ns
 induction ns with
 | nil =>
  intro vs w;rw [List.map_nil] at w;cases w;exact .nil
 | cons n ns ih =>
  intro vs w;rw [List.map_cons] at w;cases w with
  | cons a b =>
   cases a;exact .cons _ _ (ih _ b)
theorem j_e {l:OpenLaw} {n:Nat} (hn:l.most=some n) {P:Params} {h:Heap} {args:List WData} {vals:List Value}
  (hpre:l.row.toRowW.claim.pre args=true) (hwl:WellAll P h vals args) :
  ∃ a vs ns,vals=[Value.ref a]/\args=[WData.list (ns.map WData.int)]/\h.get? a=some { cls:=.type "list",data:=.seq vs.toArray }/\IntsAre vs ns/\ns.length<=n:=by
 have hsh:WShape.hasAll [] args [.list .int]=true:=(pre_splitW hpre).1;have hc:l.pre.holds [] { args:=args }=true:=(pre_splitW hpre).2;obtain ⟨d,r,rfl,h1,h2⟩:=hasAllW_cons hsh;obtain rfl:=hasAllW_nil h2;obtain ⟨xs,rfl,h3⟩:=hasW_list h1;obtain ⟨ns,rfl⟩:=items_int h3;have hlen:ns.length<=n:=by
  unfold OpenLaw.pre at hc;have h4:(WTm.not (.lt (.lit (.int (n:Int))) (.len (.arg 0)))).holds [] { args:=[.list (ns.map .int)] }=true:=by
   have h4:=(holds_andW hc).1;rw [hn] at h4;exact h4
  have h5:=condW_of h4 (w_not (w_lt w_lit (w_len_list (w_arg rfl))));rw [yI] at h5;refine Nat.le_of_not_lt λ q=>?_;have q':(n:Int) < ((ns.length:Nat):Int):=by omega
  first
   | (rw [zW q'] at h5; exact yJ h5 (by decide))
   | (simp at h5; omega)
 cases hwl with
 | cons w1 w2 =>
  cases w2;cases w1 with
  | list ho hall=>exact ⟨_,_,ns,rfl,rfl,ho,h_E ns _ hall,hlen⟩
theorem j_f (l:OpenLaw) (args:List WData):l.row.toRowW.claim.post args (.bool true) args=true :=
 postW_of (r:=l.row.toRowW) (X:=(true == true))
  (show WShape.has [] (.bool true) .bool=true by first | rfl | decide | simp [WShape.has,WShape.arms,WShape.armsAll])
  (show (WTm.eq .res (.lit (.bool true))).value [] { args:=args,res:=some (.bool true),after:=args }=some (.bool (true == true)) from w_eq_bool (w_res rfl) w_lit) rfl
theorem attach_call {l:OpenLaw} {n:Nat} {q:Program} {loose:List Str} {XP:(Str->Option Value)->Heap->Prop} {YP:World->Heap->Prop} {d:DefRec}
  (hn:l.most=some n) (hdf:d.params.defaults=[])
  (call:∀ (w:World) (s₀ s₁:Shared) (mg mb:Str->Option Value) (fa:Addr) (o:Obj) (pm cd doc:Value) (a:Addr) (vs:List Value) (ns:List Int),
   Ground q loose [] XP w s₀ mg mb s₁.heap->YP w s₁.heap ->
   s₁.heap.get? fa=some o->o.data=.func (docDef d.name d.params d.body d.scope pm cd doc)->s₁.heap.CodeRec cd d.name->mg d.name=some (.ref fa) ->
   s₁.heap.get? a=some { cls:=.type "list",data:=.seq vs.toArray }->IntsAre vs ns->ns.length<=n->s₁.gens=#[] ->
   codeAny (model l.prog w) callerA (.call (.ref fa) ⟨[.ref a],[]⟩) (λ r s'=>r=.ok (.ret (.bool true))/\OldK s₁.heap s'.heap/\s'.os=s₁.os/\AllBare s'.gens) s₁) :
  WalkO q loose XP YP l.row.toRowW d [] (λ f vs=>PySem.call f vs):=by
 intro w s₀ s₁ mg mb G Y fa o pm cd doc dV kV ho hd hcd hD hmg hg args vals as hpre hlay hrd hwl hlo;obtain rfl:dV=.none:=Dflts.none hD hdf;obtain rfl:kV=.none:=Dflts.noKw hD;obtain ⟨a,vs,ns,rfl,rfl,hobj,hints,hlen⟩:=j_e hn hpre hwl;refine enter_call (codeAny_mono (call w s₀ s₁ mg mb fa o pm cd doc a vs ns G Y ho (fd_plain hd) hcd hmg hobj hints hlen hg) λ r s' hq=>?_);obtain ⟨rfl,h2,h3,h4⟩:=hq;exact ⟨.inl ⟨.bool true,.bool true,[],rfl,λ _=>rfl,.bool true,j_f l _,λ _=>⟨List.Pairwise.nil,λ _ hm=>(nomatch hm)⟩⟩,h2,h3,h4⟩
section
variable {prog:Program} {w:World} {A:Around} {E:Value->Shared->Prop} {s:Shared} {K:Frag}
noncomputable def x_b (h:Heap) (L d:Addr):List (Addr × Obj):=(List.range h.objs.size).filterMap λ a=>if a=L\/a=d then none else (h.get? a).map λ o=>(a,o)
end
end Att
namespace L2
open PySem PySem.Spec PyProof.Rows
open PySem.W (Frag)
theorem j_g:∀ {vs:List Value} {ns:List Int},IntsAre vs ns->Vals (ns.map V.int) vs
 | _,_,.nil=>.nil
 | _,_,.cons n t h=>.cons ⟨t,rfl⟩ (j_g h)
noncomputable def Only (H:Hp):Prop:=∀ b,H b=none\/∃ o xs,H b=some (.frz o (.lst xs))
theorem k_S {P:Program} {w:World} {K:Frag} {mg mb:Str->Option Value} {CX:CXT} {k:Nat} {fa a:Addr} {fd:FuncData} {x:Str} {sp:Sp} {s₁:Shared} {vs:List Value} {ns:List Int}
  (KX:K.In s₁.heap) (hns:s₁.heap.Ns mainGlobals mg) (hb:s₁.heap.Ns builtinsNs mb) (hbb:∀ x:Str,x ≠ "__name__" -> mb x=bootBuiltins x) (hlim:s₁.heap.NoLimit) (hg:s₁.gens=#[])
  (ha:s₁.heap.get? a=some { cls:=.type "list",data:=.seq vs.toArray }) (hi:IntsAre vs ns) (hl:ns.length<=sizeLine) (hr:Room k callerA)
  (F:∀ base:Heap,K.In base->base.Ns mainGlobals mg->FnOk P w K mg base CX k fa fd [x] sp) (hbind:∀ (s:Shared) (u:Value),BindsTo s fd ⟨[u],[]⟩ [(x,u)])
  (hsp:∀ H:Hp,Only H->SqL K H a (ns.map V.int)->sp [.ref a] H (λ v _=>v=.bl true) λ _ _ _=>False)
  (hCX:∀ H e s',CX [] H s₁ (λ _ _ _=>False) e s'->False) :
  codeAny (model P w) callerA (.call (.ref fa) ⟨[.ref a],[]⟩) (λ r s'=>r=.ok (.ret (.bool true))/\OldK s₁.heap s'.heap/\s'.os=s₁.os/\AllBare s'.gens) s₁:=by
 have rv:=j_g hi;have lenV:=hi.length
 -- from an abstract heap in which nothing but the script may be tracked
 have core:∀ H:Hp,Only H->SqL K H a (ns.map V.int)->HOk P w H s₁.heap->(∀ b,H b≠none->b=a)->(H a≠none->K.lookup a=none) ->
   codeAny (model P w) callerA (.call (.ref fa) ⟨[.ref a],[]⟩) (λ r s'=>r=.ok (.ret (.bool true))/\OldK s₁.heap s'.heap/\s'.os=s₁.os/\AllBare s'.gens) s₁:=by
  intro H hO hS hok hA hK;have base_of:∀ {b:Addr} {o:Obj},s₁.heap.get? b=some o->H b=none->(hidT s₁.heap H).get? b=some o:=λ e n=>q_I e n;have noA:∀ {b:Addr} {o:Obj} {es:Array DictEntry} {ep:Nat},s₁.heap.get? b=some o->o.data=.dict es ep->H b=none:=λ {b o es ep} e d=>by
   cases q:H b with
   | none=>rfl
   | some u =>
    have e':b=a:=hA b (by rw [q]; simp);subst e';rw [ha] at e; cases e;have d':Data.seq vs.toArray _=Data.dict es ep:=d;cases d'
  have nsK:∀ {b:Addr} {m:Str->Option Value},s₁.heap.Ns b m->(hidT s₁.heap H).Ns b m:=λ {b m} ⟨o,es,ep,e,d,r⟩=>⟨o,es,ep,base_of e (noA e d),d,r⟩;have hKb:K.In (hidT s₁.heap H):=λ b o e=>base_of (KX b o e) (by
   cases q:H b with
   | none=>rfl
   | some u =>
    have e':b=a:=hA b (by rw [q]; simp);subst e';rw [hK (by rw [q]; simp)] at e; cases e)
  have hM:Mod K mg (hidT s₁.heap H):=⟨hKb,nsK hns,⟨mb,nsK hb,hbb⟩,let ⟨mc,h1,h2⟩:=hlim; ⟨mc,nsK h1,h2⟩⟩;have e0:Env0 P w K mg (hidT s₁.heap H) callerA [] s₁ H:=⟨rfl,hM,λ b o e=>t_F e,Nat.le_of_eq (p_m _ _),trivial,λ b hb=>yJ (show b∈([]:List Addr) from hb) (by simp),hok,.of_eq hg⟩;refine codeAny_mono ((F _ hKb (nsK hns)).run callerA [] s₁ H ⟨[.ref a],[]⟩ [.ref a] [.ref a] _ _ hr e0 (hbind s₁ (.ref a)) (.cons rfl .nil) (hsp H hO hS)) λ r s' h=>?_;cases r with
  | error e=>exact (hCX H e s' h).elim
  | ok fl =>
   cases fl with
   | next=>exact False.elim h
   | brk=>exact False.elim h
   | cont=>exact False.elim h
   | ret u =>
    obtain ⟨v,H',os,bare,un,hok',r',q⟩:=h;have q':v=.bl true:=q;subst q';obtain rfl:u=Value.bool true:=r';refine ⟨rfl,OldK.of_keep λ b o e=>?_,os,bare⟩;cases q:H b with
    | none=>exact un.keep b o e q (by intro z; exact yJ (show b∈([]:List Addr) from z) (by simp)) (by simp)
    | some u =>
     rcases hO b with z | ⟨ob,xs,z⟩
     ·rw [q] at z; cases z
     ·have z2:=un.frzs b ob _ z;obtain ⟨e1,_⟩:=hok b _ z;obtain ⟨e2,_⟩:=hok' b _ z2;rw [e] at e1; cases e1;exact e2
 cases hk:K.lookup a with
 | some o =>
  -- the script is one of the module's own objects
  have e:=KX a o hk;rw [ha] at e;cases e;refine core (λ _=>none) (λ _=>.inl rfl) (.inr ⟨_,vs.toArray,_,hk,rfl,rfl,rfl,by rw [zJ,lenV]; exact hl,by simpa using rv⟩) (λ b u z=>by have z':(none:Option HO)=some u:=z; cases z') (λ b z=>yJ rfl z) λ z=>yJ rfl z
 | none =>
  refine core (λ b=>if b=a then some (.frz { cls:=.type "list",data:=.seq vs.toArray } (.lst (ns.map V.int))) else none) (λ b=>?_) (.inl (.inr ⟨{ cls:=.type "list",data:=.seq vs.toArray },if_pos rfl⟩)) (λ b u z=>?_) (λ b z=>?_) λ _=>hk
  ·by_cases hb:b=a
   ·exact .inr ⟨_,_,if_pos hb⟩
   ·exact .inl (if_neg hb)
  ·by_cases hb:b=a
   ·have z':=(if_pos hb).symm.trans z;cases z';subst hb;exact ⟨ha,by rw [yI]; exact hl,vs,_,rv,ha⟩
   ·have z':=(if_neg hb).symm.trans z;cases z'
  ·by_cases hb:b=a
   ·exact hb
   ·exact yJ (if_neg hb) z
noncomputable abbrev KOf {K:Frag} {h:Heap} (_:K.In h):Frag:=K
theorem x_a {l:PySem.W.OpenLaw} {n k:Nat} {q:Program} {loose:List Str} {XP:(Str->Option Value)->Heap->Prop} {YP:World->Heap->Prop} {d:DefRec} {K:Params->Frag} {CX:World->CXT} {sp:World->Sp} {x:Str}
  (hn:l.most=some n) (hn2:n<=sizeLine) (hdf:d.params.defaults=[]) (hr:Room k callerA)
  (hY:∀ (w:World) (h:Heap),YP w h->(K w.params).In h)
  (F:∀ (w:World) (mg:Str->Option Value) (fa:Addr) (h:Heap),(K w.params).In h->h.Ns mainGlobals mg->mg d.name=some (.ref fa) ->
   ∃ fd:FuncData,(∀ (s:Shared) (u:Value),BindsTo s fd ⟨[u],[]⟩ [(x,u)]) /\
    ∀ base:Heap,(K w.params).In base->base.Ns mainGlobals mg->FnOk l.prog w (K w.params) mg base (CX w) k fa fd [x] (sp w))
  (hsp:∀ (w:World) (H:Hp) (a:Addr) (ns:List Int),ns.length<=n->Only H->SqL (K w.params) H a (ns.map V.int)->sp w [.ref a] H (λ v _=>v=.bl true) λ _ _ _=>False)
  (hCX:∀ (w:World) (H:Hp) (s:Shared) (e:Value) (s':Shared),CX w [] H s (λ _ _ _=>False) e s'->False) :
  PySem.W.WalkO q loose XP YP l.row.toRowW d [] (λ f vs=>PySem.call f vs):=by
 refine Att.attach_call hn hdf λ w s₀ s₁ mg mb fa o pm cd doc a vs ns G Y ho hd hcd hmg hobj hints hlen hg=>?_;have KX:=hY w _ Y;obtain ⟨fd,hb,hF⟩:=F w mg fa _ KX G.T.g hmg;exact k_S KX G.T.g G.T.b G.T.builtins G.T.nolimit hg hobj hints (zS hlen hn2) hr hF hb (λ H hO hS=>hsp w H a ns hlen hO hS) λ H e s'=>hCX w H s₁ e s'
noncomputable def f_M (s:Stmt) (j:Nat):Stmt:=match s with
 | .ClassDef _ _ _ body _ _ _ _ _ _ _=>body.getD j (.Pass ⟨0,0,0,0⟩)
 | _=>.Pass ⟨0,0,0,0⟩
noncomputable def a_L (s:Stmt):Arguments:=match s with
 | .FunctionDef _ a _ _ _ _ _ _ _ _=>a
 | _=>{ posonlyargs:=[],args:=[],vararg:=none,kwonlyargs:=[],kw_defaults:=[],kwarg:=none,defaults:=[] }
noncomputable def a_H (s:Stmt):List Stmt:=match s with
 | .FunctionDef _ _ b _ _ _ _ _ _ _=>b
 | _=>[]
noncomputable def a_B (s:Stmt):Scope:=match s with
 | .FunctionDef _ _ _ _ _ _ sc _ _ _=>sc
 | _=>{ kind:=.function,names:=[],isGenerator:=false,isCoroutine:=false }
noncomputable abbrev CX0:CXT:=λ _ _ _ _ _ _=>False
noncomputable abbrev E0:XK:=λ _ _ _=>False
theorem b_B {X:Cx}:f_A CX0 X E0:=λ _ _ _ _ _ _ _ h=>h.elim
structure Fun (K:Frag) (x qual:Str) (st:Stmt) (f:Addr) (fd:FuncData):Prop where
 ex:∃ (oc:Value) (od:Option Addr) (kV doc pm:Value) (an:Option Addr) (cdv ct:Value) (osl:Array (Option Value)),
  fd=PySem.W.fnOf x qual (a_L st) (a_H st) (a_B st) .none kV doc pm an cdv ct/\K.lookup f=some ⟨oc,od,.func fd,osl⟩/\PySem.W.codeIn K cdv qual=true
 kp:PySem.W.keepIn K (.ref f)=true
section
variable {P:Program} {w:World} {K:Frag} {mg:Str->Option Value} {base:Heap}
theorem Fun.ok {x qual:Str} {st:Stmt} {f:Addr} {fd:FuncData} {N ps:List Str} {k:Nat} {sp:Sp} (F:Fun K x qual st f fd) (S:a_M N ps (a_B st)) (len:∀ vs H Q E,sp vs H Q E->vs.length=ps.length)
  (hbody:∀ (cdv:Value) (A:Around) (outer:List Env) (s:Shared) (H:Hp) (vs:List V) (Q:VK) (E:XK),Room k (A.deeper (envOfC qual (a_B st) s.heap.objs.size f cdv))->sp vs H Q E ->
   ∃ t,PSs (cxOf CX0 P w K mg base N qual (a_B st) f cdv A outer s H E).nox (a_H st) t/\t { nx:=λ _ H'=>Q .non H',rt:=Q } (e_k N vs) H):FnOk P w K mg base CX0 (k+1) f fd ps sp:=by
 obtain ⟨oc,od,kV,doc,pm,an,cdv,ct,osl,rfl,lk,hcd⟩:=F.ex;refine q_W lk hcd S len λ A outer s H vs Q E hr hsp=>?_;obtain ⟨t,h,q⟩:=hbody cdv A outer s H vs Q E hr hsp;exact ⟨t,h.nox,q⟩
theorem Fun.binds {x qual:Str} {st:Stmt} {f:Addr} {fd:FuncData} {ps:List Str} (F:Fun K x qual st f fd)
  (h:∀ (kV doc pm:Value) (an:Option Addr) (cdv ct:Value) (us:List Value),us.length=ps.length->bindArgs (PySem.W.fnOf x qual (a_L st) (a_H st) (a_B st) .none kV doc pm an cdv ct) ⟨us,[]⟩=pure (ps.zip us)):a_X K fd ps []:=by
 obtain ⟨oc,od,kV,doc,pm,an,cdv,ct,osl,rfl,lk,hcd⟩:=F.ex;exact .all (h kV doc pm an cdv ct)
theorem a_Y {x qual:Str} {st:Stmt} {f:Addr} {oc:Value} {od an:Option Addr} {osl:Array (Option Value)} {kV doc pm cdv ct:Value} (l:K.lookup f=some ⟨oc,od,.func (PySem.W.fnOf x qual (a_L st) (a_H st) (a_B st) .none kV doc pm an cdv ct),osl⟩)
  (c:PySem.W.codeIn K cdv qual=true) (k:PySem.W.keepIn K (.ref f)=true):Fun K x qual st f (PySem.W.fnOf x qual (a_L st) (a_H st) (a_B st) .none kV doc pm an cdv ct):=⟨⟨oc,od,kV,doc,pm,an,cdv,ct,osl,rfl,l,c⟩,k⟩
end
theorem f_N {n:Nat} (h:n<=1000):n < sizeLine:=Nat.lt_of_le_of_lt h (by decide)
section
variable {X:Cx}
theorem pv (i:Nat) {x:Str} {pos:Pos} (hN:X.N[i]?=some x:=by rfl) (hv:Vis X.env.scope x:=by first | exact Or.inl rfl | exact Or.inr (Or.inl rfl) | exact Or.inr (Or.inr rfl)) (hd:(x == ("__debug__" : Str))=false:=by decide)
  (hcd:(x == ("__classdict__" : Str))=false:=by decide):PE X (.Name x pos) (tVar i):=v_p hN hv hd hcd
end
theorem iteF {A B:Prop} (h:B):if false=true then A else B:=by
 rw [if_neg zV];exact h
theorem iteT {A B:Prop} (h:A):if true=true then A else B:=by
 rw [if_pos rfl];exact h
theorem ite2 {c A B:Prop} [Decidable c] (h1:c->A) (h2:¬ c->B):if c then A else B:=by
 by_cases h:c
 ·rw [if_pos h];exact h1 h
 ·rw [if_neg h];exact h2 h
noncomputable def Same (H H':Hp):Prop:=∀ b o,H b=some o->H' b=some o
theorem Same.refl (H:Hp):Same H H:=λ _ _ h=>h
theorem Same.trans {H H1 H2:Hp} (a:Same H H1) (b:Same H1 H2):Same H H2:=λ c o h=>b c o (a c o h)
theorem Same.free {H H':Hp} (e:Same H H') {l:Addr} (h:H' l=Option.none):H l=Option.none:=by
 cases q:H l with
 | none=>rfl
 | some o =>
  rw [e l o q] at h;cases h
theorem Same.seq {K:Frag} {H H':Hp} {a:Addr} {xs:List V} (e:Same H H') (h:SqL K H a xs):SqL K H' a xs:=by
 rcases h with (h | ⟨o,h⟩) | h
 ·exact .inl (.inl (e _ _ h))
 ·exact .inl (.inr ⟨o,e _ _ h⟩)
 ·exact .inr h
end L2
set_option maxHeartbeats 4000000
namespace L2
open PySem PySem.Spec PyProof.Rows
open PySem.W (Frag)
noncomputable def clOf (env:Env):List (Str × NameKind)->List (Str × Addr)->List (Str × Addr)
 | [],cs=>cs
 | (n,k) :: r,cs=>clOf env r (if k == .free then (n,(env.cells.lookup n).getD 0) :: cs else cs)
theorem f_C {env:Env} {n:Str} {c:Addr}:∀ {l:List (Str × NameKind)} {cs:List (Str × Addr)},(∀ y∈l,y.2=.free->∃ c,env.cells.lookup y.1=some c) ->
  (clOf env l cs).lookup n=some c->cs.lookup n=some c\/env.cells.lookup n=some c
 | [],_,_,h=>.inl h
 | (m,k) :: r,cs,hl,h=>by
  have hr:∀ y∈r,y.2=.free->∃ c,env.cells.lookup y.1=some c:=λ y hy=>hl y (zN _ hy);rcases f_C hr h with q | q
  ·by_cases hk:(k == NameKind.free)=true
   ·rw [if_pos hk] at q;obtain ⟨c',e⟩:=hl (m,k) zU (by simpa using hk);rw [List.lookup_cons] at q;cases hm:n == m with
    | true =>
     rw [hm] at q;have q':(env.cells.lookup m).getD 0=c:=zT q;have em:n=m:=by simpa using hm
     rw [e] at q';have q2:c'=c:=q';rw [em,e,q2];exact .inr rfl
    | false =>
     rw [hm] at q;exact .inl q
   ·rw [if_neg hk] at q;exact .inl q
  ·exact .inr q
theorem i_e {env:Env} {n:Str}:∀ {l:List (Str × NameKind)} {cs:List (Str × Addr)},((n,NameKind.free)∈l\/∃ c,cs.lookup n=some c)->∃ c,(clOf env l cs).lookup n=some c
 | [],_,h=>by
  rcases h with h | h
  ·simp at h
  ·exact h
 | (m,k) :: r,cs,h=>by
  refine i_e (l:=r) ?_
  by_cases hn:(n,NameKind.free)∈r
  ·exact .inl hn
  ·refine .inr ?_;rcases h with h | ⟨c,h⟩
   ·rcases List.mem_cons.mp h with e | e
    ·cases e;rw [if_pos (by decide)];exact ⟨(env.cells.lookup n).getD 0,by rw [List.lookup_cons]; simp⟩
    ·exact yJ e hn
   ·by_cases hk:(k == NameKind.free)=true
    ·rw [if_pos hk,List.lookup_cons];cases hm:n == m with
     | true=>exact ⟨_,rfl⟩
     | false=>exact ⟨c,h⟩
    ·rw [if_neg hk];exact ⟨c,h⟩
theorem i_f {scope:Scope} {env:Env} (h:∀ y∈scope.names,y.2=.free->∃ c,env.cells.lookup y.1=some c):closureFor scope env=pure (clOf env scope.names []):=by
 have go:∀ (l:List (Str × NameKind)) (cs:List (Str × Addr)),(∀ y∈l,y.2=.free->∃ c,env.cells.lookup y.1=some c) ->
   (forIn l cs (λ (x:Str × NameKind) (r:List (Str × Addr))=>if x.2 == NameKind.free then (do let a ← cellOf env x.1; pure (ForInStep.yield ((x.1,a) :: r))) else (pure (ForInStep.yield r):Sem _)):Sem _)=pure (clOf env l cs):=by
  intro l
  induction l with
  | nil=>intro cs _; rfl
  | cons y r ih =>
   intro cs hl;obtain ⟨n,k⟩:=y;have hr:∀ y∈r,y.2=.free->∃ c,env.cells.lookup y.1=some c:=λ y hy=>hl y (zN _ hy);rw [List.forIn_cons]
   by_cases hk:(k == NameKind.free)=true
   ·obtain ⟨c,e⟩:=hl (n,k) zU (by simpa using hk);have e1:cellOf env n=pure c:=by unfold cellOf; rw [show env.cells.lookup n=some c from e]
    dsimp only;rw [if_pos hk,e1];simp only [pure_bind];rw [ih _ hr];show _=pure (clOf env r _);rw [if_pos hk,show env.cells.lookup n=some c from e]
    all_goals rfl
   ·dsimp only;rw [if_neg hk];simp only [pure_bind];rw [ih _ hr];show _=pure (clOf env r _);rw [if_neg hk]
 have e:closureFor scope env=(forIn scope.names ([]:List (Str × Addr)) (λ (x:Str × NameKind) (r:List (Str × Addr))=>if x.2 == NameKind.free then (do let a ← cellOf env x.1; pure (ForInStep.yield ((x.1,a) :: r))) else (pure (ForInStep.yield r):Sem _)):Sem _):=by
  unfold closureFor
  first
   | rfl
   | (simp only [bind_pure]; rfl)
   | (simp; done)
 rw [e];exact go _ _ h
theorem g_o {env:Env}:∀ {names:List (Str × NameKind)} {x:Str},names.lookup x=some .free ->
  (names.map λ (n,k)=>if (k == NameKind.free && env.scope.kind == .function && env.kindOf n == some .cell) then (n,NameKind.cell) else (n,k)).lookup x=some .cell \/
  (names.map λ (n,k)=>if (k == NameKind.free && env.scope.kind == .function && env.kindOf n == some .cell) then (n,NameKind.cell) else (n,k)).lookup x=some .free
 | [],_,h=>by simp at h
 | (n,k) :: r,x,h=>by
  have ih:=@g_o env r x;cases hx:x == n with
  | true =>
   simp only [List.lookup_cons,hx] at h;cases h
   by_cases hc:(NameKind.free == NameKind.free && env.scope.kind == .function && env.kindOf n == some .cell)=true
   ·refine .inl ?_;rw [List.map_cons];dsimp only;rw [if_pos hc,List.lookup_cons,hx]
   ·refine .inr ?_;rw [List.map_cons];dsimp only;rw [if_neg hc,List.lookup_cons,hx]
  | false =>
   simp only [List.lookup_cons,hx] at h;rw [List.map_cons];dsimp only
   by_cases hc:(k == NameKind.free && env.scope.kind == .function && env.kindOf n == some .cell)=true
   ·rw [if_pos hc,List.lookup_cons,hx]; exact ih h
   ·rw [if_neg hc,List.lookup_cons,hx]; exact ih h
structure j_N (X:Cx) (scope:Scope) (x:Str) (fr:List (Str × Nat)):Prop where
 kind:scope.kind=.function
 cell:∀ y∈scope.names,y.2≠.cell
 free:∀ y∈scope.names,y.2=.free->X.env.kindOf y.1=some .cell\/X.env.kindOf y.1=some .free
 loc:∀ y∈scope.names,y.2=.local->scope.names.lookup y.1=some .local
 name:scope.names.lookup x=some .local
 nd:(x :: fr.map (·.1)).Nodup
 fr:∀ p∈fr,X.N[p.2]?=some p.1/\scope.names.lookup p.1=some .free
noncomputable def d_F (fr:List (Str × Nat)) (σ:St):St:=fr.map λ p=>σ.getD p.2 none
section
variable {X:Cx} {scope:Scope} {x:Str} {fr:List (Str × Nat)}
theorem j_N.cells {pins:List (Addr × Obj)} {σ:St} {H:Hp} {s:Shared} (c:j_N X scope x fr) (I:Inv X pins σ H s):∀ y∈scope.names,y.2=.free->∃ c,X.env.cells.lookup y.1=some c :=
 λ y hy hf=>I.ok.has y.1 (c.free y hy hf)
theorem j_N.was {pins:List (Addr × Obj)} {σ:St} {H:Hp} {s:Shared} (c:j_N X scope x fr) (I:Inv X pins σ H s) {y:Str} {b:Addr} (h:(clOf X.env scope.names []).lookup y=some b):X.env.cells.lookup y=some b:=by
 rcases f_C (c.cells I) h with q | q
 ·simp at q
 ·exact q
noncomputable def u_S (i:Nat) (te:TE):TS:=λ D σ H=>te σ H λ v H1=>D.nx (σ.set i (some v)) H1
end
theorem c_A.there {P:Program} {w:World} {H:Hp} {h:Heap} {a:Addr} {o:HO} (x:c_A P w H h a o):∃ ob,h.get? a=some ob:=by
 cases o with
 | lst xs=>obtain ⟨_,_,_,_,e⟩:=x; exact ⟨_,e⟩
 | tup xs=>obtain ⟨_,_,_,ob,e,_⟩:=x; exact ⟨ob,e⟩
 | dK kvs=>obtain ⟨_,_,_,_,o,_,_,e,_⟩:=x; exact ⟨_,e⟩
 | dT kvs=>obtain ⟨_,_,_,_,o,_,_,e,_⟩:=x; exact ⟨_,e⟩
 | set S n=>obtain ⟨o,_,_,_,e,_⟩:=x; exact ⟨_,e⟩
 | ins C dx fs=>obtain ⟨_,_,_,e,_⟩:=x; exact ⟨_,e⟩
 | own y=>exact x
 | xd fs=>obtain ⟨_,⟨_,_,_,e,_⟩,_⟩:=x; exact ⟨_,e⟩
 | rng lo hi=>obtain ⟨_,_,_,e⟩:=x; exact ⟨_,e⟩
 | frz ob u=>exact ⟨_,x.1⟩
 | tbl ps=>exact ⟨_,x⟩
 | met f y=>exact ⟨_,x⟩
 | ext φ=>exact x.2.1
noncomputable abbrev Cov (fs:List Addr) (h₀:Heap) (H:Hp) (h B:Heap):Prop:=∀ b o,h.get? b=some o->b ∉ fs->((∃ o',h₀.get? b=some o')\/∃ u,H b=some u)->B.get? b=some o
noncomputable def FlyX (X:Cx) (pins:List (Addr × Obj)) (H:Hp) (e:Addr) (C:Value) (h:Heap):Prop:=∃ B a0,Heap.FlyingW B X.stack e C a0 h/\Cov (frs X.stack) X.s₀.heap H h B/\∀ p∈X.pn++pins,B.get? p.1=some p.2
noncomputable def CX1 (P:Program) (w:World):CXT:=λ outer H s E ev s'=>∃ e C H' B a0,ev=.ref e/\s'.os=s.os/\AllBare s'.gens/\Un (frs outer) [] H H' s.heap s'.heap/\HOk P w H' s'.heap /\
 Heap.FlyingW B outer e C a0 s'.heap/\Cov (frs outer) s.heap H' s'.heap B/\E C none H'
noncomputable abbrev XE:=St->Value->Hp->Prop
noncomputable def k_T (X:Cx) (EX:XE):Prop:=∀ (pins:List (Addr × Obj)) (σ:St) (H:Hp) (s:Shared) (e:Addr) (C:Value),Inv X pins σ H s->FlyX X pins H e C s.heap->EX σ C H->X.xe (.ref e) s
noncomputable def r_e (X:Cx) (EX:XE):Prop:=∀ (pins:List (Addr × Obj)) (σ:St) (H:Hp) (s:Shared) (h':Heap) (e:Addr) (C:Value) (vs:List Value),Inv X pins σ H s->Heap.MadeExcOf s.heap h' e C vs->EX σ C H->X.xe (.ref e) { s with heap:=h' }
theorem j_O {X:Cx} {pins:List (Addr × Obj)} {σ:St} {H:Hp} {s:Shared} {h'' B:Heap} (I:Inv X pins σ H s) (hst:X.stack=X.env :: X.outer) (hfr:X.env.frame=some X.env.locals) (hex:X.ex=[])
  (stay:B.StaysIn h'') (sm:s.heap.UpToSlots h'') (cov:Cov (frs X.stack) X.s₀.heap H s.heap B) :
  Un X.fs [] X.H₀ H X.s₀.heap h''/\HOk X.prog X.w H h''/\Cov X.fs X.s₀.heap H h'' B:=by
 have u:=I.base;rw [hex] at u;have hfs:frs X.stack=X.env.locals :: X.fs:=by
  rw [hst];unfold frs;rw [List.filterMap_cons,hfr];rfl
 have old:∀ b o,X.s₀.heap.get? b=some o->b ∉ X.fs->b ∉ frs X.stack:=λ b o e hb hm=>by
  rw [hfs] at hm;rcases List.mem_cons.mp hm with z | z
  ·exact yJ (zI (zE e) I.ok.above) (by rw [z]; exact Nat.lt_irrefl _)
  ·exact hb z
 have trk:∀ b v,H b=some v->b ∉ frs X.stack:=λ b v e hm=>by
  have:=I.stkFree b hm;rw [e] at this;cases this
 have keepO:∀ b o,s.heap.get? b=some o->b ∉ frs X.stack->((∃ o',X.s₀.heap.get? b=some o')\/∃ v,H b=some v)->h''.get? b=some o:=λ b o e hb hc=>stay b o (cov b o e hb hc);have frm:∀ b,b∈X.fs->∀ o,s.heap.get? b=some o->∃ sl,h''.get? b=some { o with slots:=sl }:=λ b hb o e=>by
  obtain ⟨_,o',e',nf⟩:=I.funs.mem hb;rw [e] at e';cases e';exact sm b o e nf
 refine ⟨⟨λ b o e n hb hx=>?_,λ b o e n hb hx=>?_,u.free,λ b o e hx=>?_,u.tups,u.frzs,u.tbls⟩,λ a o ha=>?_,λ b o e hb hc=>?_⟩
 ·exact keepO b o (u.keep b o e n hb hx) (old b o e hb) (.inl ⟨o,e⟩)
 ·obtain ⟨sl,e1⟩:=u.slot b o e n hb hx;obtain ⟨sl',e2⟩:=frm b hb _ e1;exact ⟨sl',e2⟩
 ·obtain ⟨o1,e1⟩:=u.there b o e hx
  by_cases hb:b∈X.fs
  ·obtain ⟨sl,e2⟩:=frm b hb _ e1;exact ⟨_,e2⟩
  ·exact ⟨o1,keepO b o1 e1 (old b o e hb) (.inl ⟨o,e⟩)⟩
 ·refine (I.hok a o ha).stay (λ b v hb q=>?_) (λ _ q=>q) λ _ _ q=>q;rcases hb with hb | hb
  ·subst hb;exact keepO b v q (trk b o ha) (.inr ⟨o,ha⟩)
  ·exact keepO b v q (trk b _ hb) (.inr ⟨_,hb⟩)
 ·rcases hc with ⟨o',e'⟩ | ⟨v,e'⟩
  ·obtain ⟨o1,e1⟩:=u.there b o' e' (by simp);have q:=keepO b o1 e1 (old b o' e' hb) (.inl ⟨o',e'⟩);rw [e] at q;cases q;exact cov b o e1 (old b o' e' hb) (.inl ⟨o',e'⟩)
  ·obtain ⟨o1,e1⟩:=(I.hok b v e').there;have q:=keepO b o1 e1 (trk b v e') (.inr ⟨v,e'⟩);rw [e] at q;cases q;exact cov b o e1 (trk b v e') (.inr ⟨v,e'⟩)
section
variable {P:Program} {w:World} {K:Frag} {mg:Str->Option Value} {base:Heap} {N:List Str} {qual:Str} {scope:Scope} {f:Addr} {cd:Value} {A:Around} {outer:List Env} {s₀:Shared} {H₀:Hp} {E:XK}
theorem c_L:k_T (cxOf (CX1 P w) P w K mg base N qual scope f cd A outer s₀ H₀ E) (λ _ C H=>E C none H):=by
 intro pins σ H s e C I F hE;obtain ⟨B,a0,fl,cov,_⟩:=F;refine wpAny_leaves_onW I.ok.frames rfl fl λ h'' fl'' sm=>?_;obtain ⟨un,ok,cv⟩:=j_O I rfl rfl rfl fl''.1 sm cov;exact ⟨e,C,H,B,a0,rfl,I.os,I.bare,un,ok,fl'',cv,hE⟩
theorem b_F:r_e (cxOf (CX1 P w) P w K mg base N qual scope f cd A outer s₀ H₀ E) (λ _ C H=>E C none H):=by
 intro pins σ H s h' e C vs I M hE;have hfu:=I.stack;have hid:=PySem.W.funFrames_hide (as:=frs (cxOf (CX1 P w) P w K mg base N qual scope f cd A outer s₀ H₀ E).stack) hfu (λ env he a ha=>List.mem_filterMap.mpr ⟨env,he,ha⟩);refine wpAny_leaves_madeW (s:={ s with heap:=h' }) (h:=s.heap) I.ok.frames rfl (λ b o q=>PySem.W.of_hideAll _ q) hid M λ h'' t fl'' _ _ sm=>?_;obtain ⟨un,ok,cv⟩:=j_O I rfl rfl rfl fl''.1 ((Heap.UpToSlots.of_keeps M.keeps).trans sm) λ b o q hb _=>PySem.W.hideAll_get _ q hb;exact ⟨e,C,H,_,_,rfl,I.os,I.bare,un,ok,fl'',cv,hE⟩
end
section
variable {X:Cx} {EX:XE} {k:Nat} {f:Addr} {fd:FuncData} {ps:List Str} {sp:Sp} {dvs:List V} {ds:List Value} {x:Str} {p pos:Pos} {e:Expr} {es:List Expr} {t:TA}
noncomputable def r_f (sp:Sp) (dvs:List V) (EX:XE) (t:TA):TE:=λ σ H Q=>t σ H λ vs H1=>sp (vs++dvs) H1 Q λ C _ H'=>EX σ C H'
theorem t_S {pins:List (Addr × Obj)} {σ:St} {H:Hp} {s:Shared} {Q:VK} {us:List Value} {vs:List V} (F:FnOk X.prog X.w X.K X.mg X.base (CX1 X.prog X.w) k f fd ps sp) (hr:Room k X.A) (hb:a_X X.K fd ps ds) (hd:Vals dvs ds) (hx:k_T X EX)
  (hex:X.ex=[]) (I:Inv X pins σ H s) (r:Vals vs us) (h:sp (vs++dvs) H Q λ C _ H'=>EX σ C H'):wpAny (model X.prog X.w) X.A (call (.ref f) us) (EP X pins σ Q) X.xe s:=by
 have r2:Vals (vs++dvs) (us++ds):=r.append hd;have hl:(us++ds).length=ps.length:=by rw [← r2.length]; exact F.len _ _ _ _ h
 refine wpAny_call (codeAny_mono (F.run X.A X.stack s H ⟨us,[]⟩ (us++ds) (vs++dvs) Q _ hr I.env0 (hb s us I.kIn hl) r2 h) λ r s' hq=>?_);cases r with
 | error ev =>
  obtain ⟨e,C,H',B,a0,rfl,os,bare,un,ok,fl,cov,q⟩:=hq;have J:Inv X pins σ H' s':=I.call' os un ok bare λ b z=>yJ z (by simp);refine hx pins σ H' s' e C J ⟨B,a0,fl,λ b o e1 hb hc=>cov b o e1 hb ?_,λ p hp=>?_⟩ q
  ·rcases hc with ⟨o',e'⟩ | hc
   ·obtain ⟨o2,e2⟩:=I.base.there b o' e' (by rw [hex]; simp);exact .inl ⟨o2,e2⟩
   ·exact .inr hc
  ·obtain ⟨e1,n1,ne,nf,_⟩:=J.pin p hp;refine cov p.1 p.2 e1 (λ hm=>?_) (.inl ⟨_,(I.pin p hp).1⟩);rcases List.mem_cons.mp (I.stkSub p.1 hm) with z | z
   ·exact ne z
   ·exact nf z
 | ok fl =>
  cases fl with
  | ret u=>exact I.after hq
  | next=>exact False.elim hq
  | brk=>exact False.elim hq
  | cont=>exact False.elim hq
theorem c_K (F:FnOk X.prog X.w X.K X.mg X.base (CX1 X.prog X.w) k f fd ps sp) (hr:Room k X.A) (hg:Gl X x) (hm:X.mg x=some (.ref f)) (hk:PySem.W.keepIn X.K (.ref f)=true) (hb:a_X X.K fd ps ds) (hd:Vals dvs ds) (hx:k_T X EX)
  (ha:PA X (e :: es) t) (hex:X.ex=[]:=by rfl) (hdb:(x == ("__debug__" : Str))=false:=by decide) (he:starEach (e :: es) X.env=(false,eval e X.env) :: starEach es X.env:=by rfl) (hpl:(backTo pos (starEach es X.env)).any (·.1)=false:=by rfl) :
  PE X (.Call (.Name x p) (e :: es) [] pos) (r_f sp dvs EX t):=by
 intro pins s σ H Q I h;refine wpAny_Call_Name_kw (e_j I hg hm ?_ hdb);refine PySem.W.callWith_K (h₀:=X.base) I.ok.mod.kin hk (thn (ha pos pins s σ H _ I h) λ us s1 ⟨vs,H1,I1,r,q⟩=>⟨I1.kIn,?_⟩) he hpl;exact t_S F hr hb hd hx hex I1 r q
theorem f_O {P:Program} {w:World} {Y:Cx}:f_A (CX1 P w) Y E0:=λ _ _ _ _ _ _ _ h=>by
 obtain ⟨_,_,_,_,_,_,_,_,_,_,_,_,q⟩:=h;exact q.elim
end
theorem v_A {K:Frag} {h:Heap} {C:Addr} {bmB:List Value} {newId:String} (KX:K.In h) (hq:PySem.W.excIn K C bmB newId=true) :
  ∃ bm N nm qn bs hd sn sub ab col dd k0 k1 k2 k3 k5 mN,h.get? C=some (excClassObj nm qn C N bs bm hd sn sub ab col dd k0 k1 k2 k3 k5 newId)/\h.Ns N mN/\mN "__init__" = none/\OwnTail h bmB bm:=by
 revert hq
 unfold PySem.W.excIn;split
 ·next dd cd sl lk =>
  split
  ·next C1 bm k0 k1 k2 k3 nw k5 em es =>
   intro hq;simp only [Bool.and_eq_true,beq_iff_eq,Bool.not_eq_true'] at hq;obtain ⟨⟨⟨⟨⟨e1,e2⟩,e3⟩,e4⟩,e5⟩,e6⟩:=hq;subst e1 e2;cases cd with
   | mk nm bs mro ns qn hd sn sub ab col del =>
    have em':mro=Value.ref C1 :: bm:=em;have e3':del=false:=e3;subst em' e3';have esl:sl=#[k0,k1,k2,k3,some (Value.builtin nw),k5]:=by
     cases sl with
     | mk l=>exact congrArg Array.mk es
    subst esl;exact ⟨bm,ns,nm,qn,bs,hd,sn,sub,ab,col,dd,k0,k1,k2,k3,k5,_,KX _ _ lk,Heap.Ns.of_isNs (PySem.W.isNs_of_in KX e5),PySem.W.nsMap_none_of_in KX e5 e6,PySem.W.tail_of_in KX e4⟩
  ·intro z; cases z
 ·intro z; cases z
theorem OwnTail.up {h h':Heap} {bmB bm:List Value} (T:OwnTail h bmB bm) (k:∀ b o,h.get? b=some o->h'.get? b=some o):OwnTail h' bmB bm:=T.keeps k
section
variable {X:Cx} {EX:XE} {C:Addr} {x:Str} {np cpos pos:Pos} {e₀:Expr} {rest:List Expr} {t:TA} {bmB:List Value} {B newId initId:String}
noncomputable def b_Y (C:Addr) (EX:XE) (t:TA):TS:=λ _ σ H=>t σ H λ vs H1=>vs.length<=sizeLine/\EX σ (.ref C) H1
theorem b_V (hc:X.calm=true) (hx:r_e X EX) (hg:Gl X x) (hm:X.mg x=some (.ref C)) (hC:PySem.W.excIn X.K C bmB newId=true) (FB:ExcBaseFacts B newId initId bmB) (ha:PA X (e₀ :: rest) t)
  (hdb:(x == ("__debug__" : Str))=false:=by decide) (he:starEach (e₀ :: rest) X.env=(false,eval e₀ X.env) :: starEach rest X.env:=by rfl) (hpl:(backTo cpos (starEach rest X.env)).any (·.1)=false:=by rfl) :
  PS X (.Raise (some (.Call (.Name x np) (e₀ :: rest) [] cpos)) none pos) (b_Y C EX t):=by
 intro pins s σ H D I h;obtain ⟨bm,N,nm,q,bs,hd,sn,sub,ab,col,dd,k0,k1,k2,k3,k5,mN,hcls,hns,hni,T⟩:=v_A I.mod.kin hC;have hpl':(backTo cpos (starEach (e₀ :: rest) X.env)).any (·.1)=false:=by
  rw [he];show (false || (backTo cpos (starEach rest X.env)).any (·.1))=false;rw [hpl];rfl
 refine wpAny_Raise_call_subT (C:=C) (nm:=nm) (q:=q) (N:=N) (bs:=bs) (bm:=bm) (hdct:=hd) (sn:=sn) (sub:=sub) (ab:=ab) (col:=col) (dd:=dd) (k0:=k0) (k1:=k1) (k2:=k2) (k3:=k3) (k5:=k5) FB (mN:=mN) (T.hasType FB.hasBase) (I.ok.hd hc) hpl' hni
  (e_j I hg hm ⟨rfl,?_⟩ hdb)
 have hw:=ha cpos pins s σ H _ I h;rw [he] at hw ⊢;refine Calls.evalArgs_plain (thn hw λ us s2 ⟨vs,H2,I2,r,z,q2⟩=>⟨rfl,?_,I2.bk _ _ hcls,hns.keeps I2.bk,T.keeps I2.bk,λ h' e M=>hx pins σ H2 s2 h' e _ us I2 M q2⟩);show us.length<=sizeLine;rw [← r.length];exact z
end
section
variable {X:Cx} {pins:List (Addr × Obj)} {σ:St} {H:Hp} {s:Shared}
theorem Inv.flown {h' B:Heap} (I:Inv X pins σ H s) (hst:X.stack=X.env :: X.outer) (hfr:X.env.frame=some X.env.locals) (hex:X.ex=[]) (stay:B.StaysIn h') (sm:s.heap.UpToSlots h') (cov:Cov (frs X.stack) X.s₀.heap H s.heap B)
  (hp:∀ p∈X.pn++pins,B.get? p.1=some p.2):Inv X pins σ H { s with heap:=h' }:=by
 obtain ⟨un,ok,_⟩:=j_O I hst hfr hex stay sm cov;have cl:∀ c v,s.heap.IsCell c v->h'.IsCell c v:=λ c v ⟨o,e,d⟩=>by
  obtain ⟨sl,e'⟩:=sm c o e λ vs z=>by rw [d] at z; cases z
  exact ⟨_,e',d⟩
 refine ⟨I.ok,I.os,I.bare,by rw [hex]; exact un,?_,λ x c e=>?_,I.free,I.freeC,λ p hm=>?_,ok,I.len⟩
 ·obtain ⟨m,hn,hl⟩:=I.loc;refine ⟨m,sm.ns hn,λ i x v e1 e2 e3=>?_⟩;obtain ⟨u,r,l⟩:=hl i x v e1 e2 e3;refine ⟨u,r,?_⟩;rcases l with l | ⟨k,c,e,z⟩
  ·exact .inl l
  ·exact .inr ⟨k,c,e,cl c _ z⟩
 ·obtain ⟨v,z⟩:=I.cell x c e;exact ⟨v,cl c v z⟩
 ·obtain ⟨_,r⟩:=I.pin p hm;exact ⟨stay _ _ (hp p hm),r⟩
noncomputable def k_U (e:Addr) (C:Value):HO:=.ext λ h=>∃ o,h.get? e=some o/\o.cls=C
theorem Inv.trackE {e:Addr} {C:Value} {oe:Obj} {vs:Array Value} (I:Inv X pins σ H s) (he:s.heap.get? e=some oe) (hc:oe.cls=C) (hd:oe.data=.fields vs) (hn:H e=none) (hnew:X.s₀.heap.get? e=none) (hpn:∀ p∈X.pn++pins,p.1≠e) :
  Inv X pins σ (upd H e (k_U e C)) s:=by
 have ne:∀ b u,H b=some u->b≠e:=λ b u q z=>by rw [z,hn] at q; cases q
 have nL:X.env.locals≠e:=λ z=>by
  obtain ⟨m,⟨o,es,ep,ho,hdd,_⟩,_⟩:=I.loc;rw [z,he] at ho;cases ho;rw [hd] at hdd;cases hdd
 have nC:∀ x c,X.env.cells.lookup x=some c->c≠e:=λ x c q z=>by
  obtain ⟨v,o,ho,hdd⟩:=I.cell x c q;rw [z,he] at ho;cases ho;rw [hd] at hdd;cases hdd
 have u:=I.base;refine ⟨I.ok,I.os,I.bare,⟨u.keep,u.slot,λ b o q n hx=>?_,u.there,λ b xs q=>?_,λ b o v q=>?_,λ b ps q=>?_⟩,I.loc,I.cell,?_,λ x c q=>?_,λ p hp=>?_,λ a o q=>?_,I.len⟩
 ·rw [a_I (λ z=>by rw [z,hnew] at q; cases q)];exact u.free b o q n hx
 ·have:=u.tups b xs q;rw [a_I (ne _ _ this)];exact this
 ·have:=u.frzs b o v q;rw [a_I (ne _ _ this)];exact this
 ·obtain ⟨m,e1⟩:=u.tbls b ps q;exact ⟨m,by rw [a_I (ne _ _ e1)]; exact e1⟩
 ·rw [a_I nL]; exact I.free
 ·rw [a_I (nC x c q)]; exact I.freeC x c q
 ·obtain ⟨e1,n1,r⟩:=I.pin p hp;exact ⟨e1,by rw [a_I (hpn p hp)]; exact n1,r⟩
 ·by_cases ha:a=e
  ·subst ha;rw [a_F] at q;cases q;exact ⟨⟨oe,he,hc⟩,⟨oe,he⟩,λ h1 h2 ⟨o,e1,r⟩ k=>⟨o,k o e1,r⟩⟩
  ·rw [a_I ha] at q;exact (I.hok a o q).stay (λ _ _ _ z=>z) (λ b z=>by rw [a_I (ne _ _ z)]; exact z) λ b xs z=>by rw [a_I (ne _ _ z)]; exact z
theorem Inv.unbind {h':Heap} {m:Str->Option Value} {u:Option Value} {i:Nat} {n:Str} (I:Inv X pins σ H s) (hN:X.N.Nodup) (hi:X.N[i]?=some n) (hl:X.env.scope.names.lookup n=some .local)
  (hn:s.heap.Ns X.env.locals m) (hn':h'.Ns X.env.locals (λ x=>if x=n then u else m x)) (hs:Heap.SameBut X.env.locals s.heap h') (hm:∀ (j:Nat) x v,X.N[j]?=some x->σ[j]?=some (some v)->Vis X.env.scope x->∃ u,RelV v u/\Look X.env s.heap m x u) :
  Inv X pins (σ.set i none) H { s with heap:=h' }:=by
 obtain ⟨oL,esL,epL,hoL,_⟩:=id hn;have nL:∀ b o,X.s₀.heap.get? b=some o->b≠X.env.locals:=λ b o e=>Nat.ne_of_lt (zI (zE e) I.ok.above);have kp:∀ b o,b≠X.env.locals->s.heap.get? b=some o->h'.get? b=some o:=λ b o hb e=>(hs.2 b hb).trans e;have nT:∀ b v,H b=some v->b≠X.env.locals:=λ b v e z=>by rw [z,I.free] at e; cases e
 have u0:=I.base;refine ⟨I.ok,I.os,I.bare,⟨λ b o e n hb hx=>kp b o (nL b o e) (u0.keep b o e n hb hx),λ b o e n hb hx=>?_,u0.free,λ b o e hx=>?_,u0.tups,u0.frzs,u0.tbls⟩,⟨_,hn',λ j x v e1 e2 e3=>?_⟩,λ x c e=>?_,I.free,I.freeC,λ p hp=>?_,λ a o e=>?_,by simpa using I.len⟩
 ·obtain ⟨sl,e1⟩:=u0.slot b o e n hb hx;exact ⟨sl,kp b _ (nL b o e) e1⟩
 ·obtain ⟨o1,e1⟩:=u0.there b o e hx;exact ⟨o1,kp b o1 (nL b o e) e1⟩
 ·have hj:j≠i:=λ z=>by
   subst z;have hlt:j < σ.length:=by rw [I.len]; exact (List.getElem?_eq_some_iff.mp hi).1
   rw [zP hlt] at e2;cases e2
  rw [zQ (Ne.symm hj)] at e2;have hx:x≠n:=λ z=>hj (h_T hN e1 (z ▸ hi));obtain ⟨w,r,l⟩:=hm j x v e1 e2 e3;refine ⟨w,r,?_⟩;rcases l with ⟨k,e⟩ | ⟨k,c,e,z⟩
  ·exact .inl ⟨k,by simp [hx,e]⟩
  ·exact .inr ⟨k,c,e,z.sameBut hs (I.cne x c e)⟩
 ·obtain ⟨v,z⟩:=I.cell x c e;exact ⟨v,z.sameBut hs (I.cne x c e)⟩
 ·obtain ⟨e1,n1,ne,r⟩:=I.pin p hp;exact ⟨kp _ _ ne e1,n1,ne,r⟩
 ·refine (I.hok a o e).stay (λ b v hb q=>kp b v ?_ q) (λ _ q=>q) λ _ _ q=>q;rcases hb with hb | hb
  ·rw [hb]; exact nT a o e
  ·exact nT b _ hb
end
noncomputable abbrev Cx.body (X:Cx) (pn:List (Addr × Obj)) (E:Value->Shared->Prop):Cx:={ X with pn:=pn,xe:=E }
noncomputable abbrev Cx.suite (X:Cx) (e:Addr):Cx:={ X with A:=X.A.mark (some (.ref e)),calm:=false,xe:=λ _ _=>False }
section
variable {X:Cx} {pins pins':List (Addr × Obj)} {σ:St} {H:Hp} {s:Shared} {E:Value->Shared->Prop} {e:Addr}
theorem Inv.intry (I:Inv X pins σ H s):Inv (X.body (X.pn++pins) E) [] σ H s :=
 ⟨⟨I.ok.mod,I.ok.kind,I.ok.glob,I.ok.blt,I.ok.above,I.ok.inj,I.ok.has,I.ok.cab,I.ok.hd,I.ok.frames,I.ok.stk,I.ok.exf,I.ok.bs,I.ok.bsz,I.ok.noex,I.ok.exfs,I.ok.funs,I.ok.frf⟩,
  I.os,I.bare,I.base,I.loc,I.cell,I.free,I.freeC,λ p hp=>I.pin p (by simpa using hp),I.hok,I.len⟩
theorem Inv.offtry (I:Inv (X.body (X.pn++pins) E) pins' σ H s):Inv X pins σ H s :=
 ⟨⟨I.ok.mod,I.ok.kind,I.ok.glob,I.ok.blt,I.ok.above,I.ok.inj,I.ok.has,I.ok.cab,I.ok.hd,I.ok.frames,I.ok.stk,I.ok.exf,I.ok.bs,I.ok.bsz,I.ok.noex,I.ok.exfs,I.ok.funs,I.ok.frf⟩,
  I.os,I.bare,I.base,I.loc,I.cell,I.free,I.freeC,λ p hp=>I.pin p (List.mem_append_left _ hp),I.hok,I.len⟩
theorem Inv.insuite (I:Inv X pins σ H s):Inv (X.suite e) pins σ H s :=
 ⟨⟨I.ok.mod,I.ok.kind,I.ok.glob,I.ok.blt,I.ok.above,I.ok.inj,I.ok.has,I.ok.cab,(λ z=>by cases z),I.ok.frames,I.ok.stk,I.ok.exf,I.ok.bs,I.ok.bsz,I.ok.noex,I.ok.exfs,I.ok.funs,I.ok.frf⟩,
  I.os,I.bare,I.base,I.loc,I.cell,I.free,I.freeC,I.pin,I.hok,I.len⟩
theorem Inv.offsuite (I:Inv (X.suite e) pins σ H s) (ok:X.Ok):Inv X pins σ H s :=
 ⟨ok,I.os,I.bare,I.base,I.loc,I.cell,I.free,I.freeC,I.pin,I.hok,I.len⟩
theorem SP.offtry {D:Ends} {f:Flow} (h:SP (X.body (X.pn++pins) E) [] D f s):SP X pins D f s:=by
 cases f with
 | next=>obtain ⟨σ',H',J,q⟩:=h; exact ⟨σ',H',J.offtry,q⟩
 | brk=>obtain ⟨σ',H',J,q⟩:=h; exact ⟨σ',H',J.offtry,q⟩
 | cont=>obtain ⟨σ',H',J,q⟩:=h; exact ⟨σ',H',J.offtry,q⟩
 | ret u=>obtain ⟨v,σ',H',J,r,q⟩:=h; exact ⟨v,σ',H',J.offtry,r,q⟩
end
noncomputable def Ends.gone (D:Ends) (i:Nat):Ends:={ nx:=λ σ H=>D.nx (σ.set i none) H,rt:=D.rt,bk:=λ σ H=>D.bk (σ.set i none) H,ct:=λ σ H=>D.ct (σ.set i none) H }
noncomputable def tTry (K:Frag) (C0:Addr) (i:Nat) (tb:XE->TS) (ts:TS):TS:=λ D σ H =>
 tb (λ σ' C H'=>PySem.W.exmOne K C (.ref C0)=some true/\∀ e,H' e=none->ts (D.gone i) (σ'.set i (some (.ref e))) (upd H' e (k_U e C))) D σ H
section
variable {X:Cx} {C0:Addr} {x n:Str} {np hpos pos:Pos} {i:Nat} {body suite:List Stmt} {b₀:Stmt} {tb:XE->TS} {ts:TS}
theorem t_T {pins:List (Addr × Obj)} {D:Ends} {f:Flow} {s:Shared} {e:Addr} (ok:X.Ok) (hN:X.N.Nodup) (hi:X.N[i]?=some n) (hl:X.env.scope.names.lookup n=some .local) (h:SP (X.suite e) pins (D.gone i) f s) :
  wpAny (model X.prog X.w) X.A (do bindName X.env n .none; unbindBehindTheSuite X.env n hpos) (λ _ s'=>SP X pins D f s') X.xe s:=by
 have hcls:(X.env.scope.kind == .class || (X.env.scope.kind == .module && X.env.locals != X.env.globals))=false:=by rw [ok.kind]; rfl
 have main:∀ (σ':St) (H':Hp),Inv (X.suite e) pins σ' H' s->∀ (R:Shared->Prop),(∀ s',Inv X pins (σ'.set i none) H' s'->R s') ->
   wpAny (model X.prog X.w) X.A (do bindName X.env n .none; unbindBehindTheSuite X.env n hpos) (λ _ s'=>R s') X.xe s:=by
  intro σ' H' J R hR;have J1:=J.offsuite ok;refine zA (wpAny_bindName (d_M (v:=.non) J1 hN hi (.inl hl) rfl (λ s1 J2=>?_) (.inr hl)));obtain ⟨m,hn,hm⟩:=J2.loc;have hlt:i < σ'.length:=by rw [J1.len]; exact (List.getElem?_eq_some_iff.mp hi).1
  obtain ⟨u,ru,lk⟩:=hm i n .non hi (zP hlt) (.inl hl);have hmn:m n=some u:=by
   rcases lk with ⟨_,z⟩ | ⟨z,_⟩
   ·exact z
   ·rcases z with z | z <;> (have z':X.env.scope.names.lookup n=_:=z; rw [hl] at z'; cases z')
  unfold unbindBehindTheSuite;refine wpAny_onRaise (zC (wpAny_unbindName_local hl hn hmn hcls λ h' v hn' hs=>?_) (λ _ _ q=>q) λ _ _ q=>wpAny_standAt q);refine hR _ ?_;have J3:=J2.unbind hN hi hl hn hn' hs hm;rw [List.set_set] at J3;exact J3
 cases f with
 | next=>obtain ⟨σ',H',J,q⟩:=h; exact main σ' H' J _ λ s' J'=>⟨_,H',J',q⟩
 | brk=>obtain ⟨σ',H',J,q⟩:=h; exact main σ' H' J _ λ s' J'=>⟨_,H',J',q⟩
 | cont=>obtain ⟨σ',H',J,q⟩:=h; exact main σ' H' J _ λ s' J'=>⟨_,H',J',q⟩
 | ret u=>obtain ⟨v,σ',H',J,r,q⟩:=h; exact main σ' H' J _ λ s' J'=>⟨v,_,H',J',r,q⟩
theorem v_B (hst:X.stack=X.env :: X.outer) (hfr:X.env.frame=some X.env.locals) (hex:X.ex=[]) (hN:X.N.Nodup) (hi:X.N[i]?=some n) (hl:X.env.scope.names.lookup n=some .local)
  (hg:Gl X x) (hm:X.mg x=some (.ref C0)) (hb:∀ pn E EX,k_T (X.body pn E) EX->PSs (X.body pn E) body (tb EX)) (hs:∀ e,PSs (X.suite e) (b₀ :: suite) ts)
  (hdb:(x == ("__debug__" : Str))=false:=by decide):PS X (.Try body [.ExceptHandler (some (.Name x np)) (some n) (b₀ :: suite) hpos] [] [] pos) (tTry X.K C0 i tb ts):=by
 intro pins s σ H D I h;refine wpAny_Try_except (zC (hb (X.pn++pins) (λ ev s₁=>wpAny (model X.prog X.w) X.A (noteFrame ev X.env) (λ _ s₂=>wpAny (model X.prog X.w) X.A (setFlight ev none) (λ _ s₃ =>
  wpAny (model X.prog X.w) X.A (handleBy ev X.env [.ExceptHandler (some (.Name x np)) (some n) (b₀ :: suite) hpos]) (SP X pins D) X.xe s₃) X.xe s₂) X.xe s₁) _ ?_ [] s σ H D I.intry h) (λ f s1 q=>?_) λ _ _ q=>q)
 ·-- an exception arrives
  intro pins' σ' H' s1 e C J F hE;obtain ⟨hmt,hsuite⟩:=hE;have J1:Inv X pins σ' H' s1:=J.offtry;obtain ⟨B,a0,fl,cov,cvp⟩:=F;have fl':Heap.FlyingW B (X.env :: X.outer) e C a0 s1.heap:=hst ▸ fl;have hfrm:X.A.frames=some (X.env :: X.outer):=I.ok.frames.trans (by rw [hst]);have pn1:∀ p∈X.pn++pins,B.get? p.1=some p.2:=λ p hp=>cvp p (List.mem_append_left _ hp)
  -- where e lies
  have notB:∀ b o,B.get? b=some o->b≠e:=λ b o q z=>by have:=fl'.2.1; rw [← z,q] at this; cases this
  obtain ⟨oe1,vs1,he1,hc1,hd1,_⟩:=fl'.first;have nfr:e ∉ frs X.stack:=λ hm=>by
   obtain ⟨_,o,ho,nf⟩:=J1.stack.mem hm;rw [he1] at ho;cases ho;exact nf vs1 hd1
  have hEn:H' e=none:=by
   cases q:H' e with
   | none=>rfl
   | some v=>exact yJ rfl (notB e _ (cov e _ he1 nfr (.inr ⟨v,q⟩)))
  have hE0:X.s₀.heap.get? e=none:=by
   cases q:X.s₀.heap.get? e with
   | none=>rfl
   | some o=>exact yJ rfl (notB e _ (cov e _ he1 nfr (.inl ⟨o,q⟩)))
  refine wpAny_looks_onW hfrm hfr fl' λ h4 held4 sm4=>?_;refine wpAny_landsW held4 λ h5 fl5 sm5=>?_;have J5:Inv X pins σ' H' { s1 with heap:=h5 }:=J1.flown hst hfr hex fl5.1 (sm4.trans sm5) cov pn1;have J5':Inv (X.suite e) pins σ' H' { s1 with heap:=h5 }:=J5.insuite;obtain ⟨ob,hob,hobc⟩:=fl5.there;refine wpAny_handleBy_cons (codeAny_handlers_test (e_j (X:=X.suite e) J5' hg hm ?_ hdb)) (by intro q; cases q);have LT:PySem.W.Looks (model X.prog X.w) h5 (typeOf (.ref e)) C:=by
   rw [← hobc];exact (PySem.W.Looks.ld hob).andThen .now
  refine (PySem.W.exm_one J5.kIn LT hmt).here ?_;show codeAny _ _ _ _ _;refine codeAny_handlers_suite_as ?_;refine lands_againW fl5 λ h6 fl6 sm6=>?_;have J6:Inv X pins σ' H' { s1 with heap:=h6 }:=J1.flown hst hfr hex fl6.1 ((sm4.trans sm5).trans sm6) cov pn1;obtain ⟨oe,vs,he,hc,hd,_⟩:=fl6.first;have J7:=J6.trackE he hc hd hEn hE0 λ p hp=>notB _ _ (pn1 p hp);refine d_M (X:=X.suite e) J7.insuite hN hi (.inl hl) (show RelV (.ref e) (.ref e) from rfl) (λ s8 J8=>?_) (.inr hl);refine zC (hs e pins s8 _ _ _ J8 (hsuite e hEn)) (λ f s9 q=>?_) λ _ _ q=>q.elim;exact t_T I.ok hN hi hl q
 ·cases f with
  | next=>exact wpAny_execs_nil (SP.offtry q)
  | brk=>exact SP.offtry q
  | cont=>exact SP.offtry q
  | ret u=>exact SP.offtry q
end
section
variable {X:Cx}
theorem c_G:OpR X (binaryOp .Mult) (rI (λ i j=>IntMulOk i j) λ i j=>.int (i*j)):=opI λ _ _ _ _ _ _ _ hc q=>mul_int q hc
noncomputable def h_z (_ j:Int):Prop:=j≠0/\j.natAbs.log2 < 9000
theorem d_P:OpR X (binaryOp .FloorDiv) (rI h_z λ i j=>.int (i.fdiv j)):=opI λ _ _ _ _ _ _ _ hc q=>floordiv_int hc.1 q (.inl (PyProof.noPylong_of_log2 hc.2))
end
mutual
inductive Dt (K:Frag) (H:Hp):V->PyData->Prop
 | non:Dt K H .non .none
 | bl (b):Dt K H (.bl b) (.bool b)
 | int (i):Dt K H (.int i) (.int i)
 | str (x):Dt K H (.str x) (.str x)
 | lst {a xs ds}:SqL K H a xs->Dts K H xs ds->Dt K H (.ref a) (.list ds)
 | tup {a xs ds}:SqT K H a xs->Dts K H xs ds->Dt K H (.ref a) (.tuple ds)
inductive Dts (K:Frag) (H:Hp):List V->List PyData->Prop
 | nil:Dts K H [] []
 | cons {x xs d ds}:Dt K H x d->Dts K H xs ds->Dts K H (x :: xs) (d :: ds)
end
theorem Dts.ints {K:Frag} {H:Hp}:∀ (ns:List Int),Dts K H (ns.map V.int) (ns.map PyData.int)
 | []=>.nil
 | n :: r=>.cons (.int n) (Dts.ints r)
section
variable {X:Cx} {pins:List (Addr × Obj)} {σ:St} {H:Hp} {s:Shared}
mutual
theorem Dt.reads (I:Inv X pins σ H s):∀ {x:V} {d:PyData} {u:Value},Dt X.K H x d->RelV x u->∃ as,Reads s.heap u d as
 | _,_,_,.non,r=>by cases (show _=Value.none from r); exact ⟨_,.none⟩
 | _,_,_,.bl b,r=>by cases (show _=Value.bool b from r); exact ⟨_,.bool b⟩
 | _,_,_,.int i,r=>by obtain ⟨t,e⟩:=(show ∃ t,_=Value.int i t from r); cases e; exact ⟨_,.int i t⟩
 | _,_,_,.str x,r=>by obtain ⟨t,e⟩:=(show ∃ t,_=Value.str x t from r); cases e; exact ⟨_,.str x t⟩
 | _,_,_,.lst (a:=a) h hd,r=>by
  cases (show _=Value.ref a from r);obtain ⟨its,rv,⟨o,n,e,c,_,dd⟩,_⟩:=I.list h;obtain ⟨as,q⟩:=Dts.reads I hd rv;exact ⟨_,.list e c dd (by simpa using q)⟩
 | _,_,_,.tup (a:=a) h hd,r=>by
  cases (show _=Value.ref a from r);obtain ⟨its,rv,⟨o,e,c,n,dd⟩,_⟩:=I.tuple h;obtain ⟨as,q⟩:=Dts.reads I hd rv;exact ⟨_,.tuple e c dd (by simpa using q)⟩
theorem Dts.reads (I:Inv X pins σ H s):∀ {xs:List V} {ds:List PyData} {us:List Value},Dts X.K H xs ds->Vals xs us->∃ as,ReadsAll s.heap us ds as
 | _,_,_,.nil,r=>by cases r; exact ⟨_,.nil⟩
 | _,_,_,.cons h t,r=>by
  cases r with
  | cons r1 r2 =>
   obtain ⟨as,q1⟩:=Dt.reads I h r1;obtain ⟨bs,q2⟩:=Dts.reads I t r2;exact ⟨_,.cons q1 q2⟩
end
end
section
variable {X:Cx}
noncomputable def rEqD (K:Frag):R2:=λ x y H Q=>∃ d d',Dt K H x d/\Dt K H y d'/\SeqAt.shaped d=true/\SeqAt.shaped d'=true/\SeqAt.noMix d d'=true/\Q (.bl (same d d')) H
noncomputable def rNeD (K:Frag):R2:=λ x y H Q=>∃ d d',Dt K H x d/\Dt K H y d'/\SeqAt.shaped d=true/\SeqAt.shaped d'=true/\SeqAt.noMix d d'=true/\Q (.bl (!same d d')) H
theorem g_O (hu:X.A.units+64 < cLine):OpR X (compareOp .NotEq) (rNeD X.K):=by
 intro pins s σ H x y v u Q I rx ry h;obtain ⟨d,d',h1,h2,s1,s2,mx,q⟩:=h;obtain ⟨as,r1⟩:=h1.reads I rx;obtain ⟨bs,r2⟩:=h2.reads I ry;exact ne_dataH_same r1 r2 s1 s2 hu mx ⟨.bl (!same d d'),H,I,rfl,q⟩
end
theorem PI.or {X:Cx} {tg l:Expr} {wi wi':TI} (h:PI X tg l wi) (h':PI X tg l wi'):PI X tg l (λ σ H R=>wi σ H R\/wi' σ H R):=by
 intro pins s σ H R I q;rcases q with q | q
 ·exact h pins s σ H R I q
 ·exact h' pins s σ H R I q
structure j_P (K:Frag) (C:Addr):Prop where
 ga:PySem.W.findIn K (.ref C) "__getattribute__" = some (some (.builtin "BaseException.__getattribute__"))
 gt:PySem.W.findIn K (.ref C) "__getattr__" = some none
 ca:PySem.W.findIn K (.ref C) "__class__" = some (some (.builtin "object.__class__"))
 cg:PySem.W.specialIn K (.builtin "object.__class__") "__get__" = some (some (.builtin "getset_descriptor.__get__"))
 tk:PySem.W.takesIn K (.builtin "object.__class__")=some true
 ob:PySem.W.mroIn K C (.type "object")=some true
 bx:PySem.W.mroIn K C (.type "BaseException")=some true
 cl:(PySem.W.clsIn K C).isSome=true
theorem p_s {prog:Program} {w:World} {A:Around} {E:Value->Shared->Prop} {s:Shared} {K:Frag} {x C:Addr} {Q:Option Value->Shared->Prop} (F:j_P K C) (KX:K.In s.heap) (ho:∃ o,s.heap.get? x=some o/\o.cls=.ref C)
  (h:Q (some (.ref C)) { s with toks:=s.toks+1 }):wpAny (model prog w) A (getAttr? (.ref x) "__class__") Q E s:=by
 obtain ⟨hh,g,d,t,os⟩:=s;obtain ⟨o,ho,hc⟩:=ho;have L0:PySem.W.Looks (model prog w) hh (typeOf (.ref x)) (.ref C):=hc ▸ (PySem.W.Looks.ld ho).andThen .now;have L1:=PySem.W.looks_findIn (M:=model prog w) KX F.ga;have L2:=PySem.W.looks_findIn (M:=model prog w) KX F.gt;have L3:=PySem.W.looks_findIn (M:=model prog w) KX F.ca;have L4:=PySem.W.looks_specialIn (M:=model prog w) KX F.cg;have L5:=PySem.W.looks_takesIn (M:=model prog w) KX F.tk;have L6:=PySem.W.looks_mroIn (M:=model prog w) KX F.ob;have L7:=PySem.W.looks_mroIn (M:=model prog w) KX F.bx;unfold getAttr? getAttrBy? getAttrBy;refine zA (wpAny_mkText (zA (wpAny_attempt (wpAny_holding (zA (L0.at (zA (L1.at ?_))))))));show wpAny _ _ (getAttrByItsOwn _ _ _ _ _ _) _ _ _;unfold getAttrByItsOwn;refine zA (show wpAny _ _ (hookBefore (.ref C)) _ _ _ from L2.at ?_);refine zA (wpAny_attempt (wpAny_holding ?_));show wpAny _ _ (boundAndCalled _ _ _) _ _ _;unfold boundAndCalled;rw [PySem.F.attr_ValueError.ga.bind (.ref x)];refine zA (zB (wpAny_call ?_));refine codeAny_call_builtin PySem.F.attr_ValueError.ga.plain PySem.F.entry_bexc_ga ?_;have hk:builtinKind "BaseException.__getattribute__" = some .slot:=by decide +kernel
 have hsplit:splitId "BaseException.__getattribute__" = some ("BaseException","__getattribute__"):=by decide +kernel
 have hargs:=PySem.F.args_bexc_ga (.ref x) (.str "__class__" t);have LI:PySem.W.Looks (model prog w) hh (isInstance (.ref x) (.type "BaseException")) true:=L0.andThen L7;show wpAny _ _ (checkBuiltinCall "BaseException.__getattribute__" ⟨[.ref x,.str "__class__" t],[]⟩) _ _ _;simp only [checkBuiltinCall,hk,hsplit];refine zA (LI.at ?_)
 repeat wp_step
 rw [hc];refine L3.at ?_;refine zA (show wpAny _ _ (Builtin.ObjectAttr.getOf (some (.builtin "object.__class__"))) _ _ _ from L4.at ?_);have LD:PySem.W.Looks (model prog w) hh (Builtin.ObjectAttr.dataDescriptor? (some (.builtin "object.__class__")) (some (.builtin "getset_descriptor.__get__"))) (some (.builtin "getset_descriptor.__get__",.builtin "object.__class__")):=L5.andThen .now;refine zA (LD.at ?_)
 repeat wp_step
 have LO:PySem.W.Looks (model prog w) hh (isInstance (.ref x) (.type "object")) true:=L0.andThen L6;refine codeAny_call_builtin PySem.W.KF.slot_gs.plain PySem.W.KF.entry_gs (PySem.W.KF.slot_gs.check _ _ _ _ _ _ _ _ PySem.W.KF.type_class (PySem.W.KF.args_gs _ _ _) ?_)
 (unfold Builtin.«getset_descriptor.__get__» Builtin.Getset_descriptor.descrGet; rw [PySem.W.dga_obj]; refine zA (zB ?_))
 (unfold Builtin.Getset_descriptor.descrGetter Builtin.Getset_descriptor.descrCheckInstance Builtin.Getset_descriptor.descrNameAndClass; simp only [PySem.W.KF.owner_class])
 refine zA (zA (zB (zA (LO.at (zB ?_)))))
 repeat wp_step
 refine ⟨Code.quiet_builtin _ (by decide +kernel),codeAny_builtin PySem.W.KF.entry_class ?_⟩
 (unfold Builtin.«object.__class__» shownTypeOf; repeat wp_step)
 rw [hc];exact zB (zB h)
theorem r_g {K:Frag} {x C:Addr} (F:j_P K C):PySem.W.KitX K (.ref x) (.ref C) (λ h=>∃ o,h.get? x=some o/\o.cls=.ref C) where
 ty:=λ M h _ ⟨o,ho,hc⟩=>hc ▸ (PySem.W.Looks.ld ho).andThen .now
 it:=λ M h KX _=>by
  have q:=F.cl;unfold PySem.W.clsIn at q;split at q
  ·next lk =>
   intro A' Q' E' s' k z
   (unfold isType loadHead; exact zA (wpAny_loadPart (k _ _ (KX _ _ lk)) (zB z)))
  ·cases q
 ne:=λ h tp dd its n sl KX htp=>by
  have q:=F.cl;refine Bool.eq_false_iff.mpr λ z=>?_;have e:C=tp:=Value.ref.inj (beq_iff_eq.mp z);subst e;unfold PySem.W.clsIn at q;split at q
  ·next lk=>exact yJ ((KX _ _ lk).symm.trans htp) (by intro z2; cases z2)
  ·cases q
 ca:=λ KX p k=>p_s F KX p k
inductive TyX (K:Frag) (H:Hp):V->Value->Prop where
 | ty {x:V} {t:Value} (h:TyOf K H x t):TyX K H x t
 | exc {e C:Addr} (h:H e=some (k_U e (.ref C))) (F:j_P K C):TyX K H (.ref e) (.ref C)
 | tupS {a:Addr} {xs:List V} (h:SqT K H a xs):TyX K H (.ref a) (.type "tuple")
noncomputable def clsV:V->Value
 | .ty n=>.type n
 | .ref a=>.ref a
 | _=>.none
noncomputable def u_T:V->Bool
 | .ty _=>true
 | .ref _=>true
 | _=>false
noncomputable def rIsi (K:Frag):List V->Hp->VK->Prop:=λ vs H Q=>∃ x c t b,vs=[x,c]/\TyX K H x t/\u_T c=true/\PySem.W.kitOne K t (clsV c)=some b/\Q (.bl b) H
theorem e_d {X:Cx}:c_O X (.builtin "isinstance") (rIsi X.K):=by
 intro pins s σ H xs us Q I rv h;obtain ⟨x,c,t,b,rfl,ty,ic,e,q⟩:=h;obtain ⟨u,w,rfl,r1,r2⟩:=rv.two;have ew:w=clsV c:=by
  cases c <;> first | exact r2 | cases ic
 subst ew;have fin:∀ tk,EP X pins σ Q (.bool b) { s with toks:=tk }:=λ tk=>⟨.bl b,H,I.tok tk,rfl,q⟩;cases ty with
 | ty h=>exact p_r I r1 h e fin
 | exc h F =>
  obtain rfl:u=_:=r1;obtain ⟨φ,_,_⟩:=(show c_A X.prog X.w H s.heap _ (k_U _ _) from I.hok _ _ h);exact PySem.W.kia_one (r_g F) I.kIn φ e (λ z=>nomatch z) fin
 | tupS h =>
  obtain rfl:u=_:=r1;obtain ⟨its,_,⟨o,h1,h2,_⟩,_⟩:=I.tuple h;exact PySem.W.kia_one PySem.W.kitx_tuple I.kIn ⟨o,h1,h2⟩ e (λ z=>nomatch z) fin
structure e_e (k:Nat) (A:Around):Prop where
 dp:A.depth+3*k+5 < recursionLimit
 un:A.units+16*k+200 < cLine
theorem Room.a {k:Nat} {A:Around} (r:Room k A):e_e k A:=⟨r.dp,r.un⟩
theorem e_e.mono {j k:Nat} {A:Around} (r:e_e k A) (h:j<=k):e_e j A:=⟨by have:=r.dp; omega,by have:=r.un; omega⟩
theorem e_e.deeper {k:Nat} {A:Around} (r:e_e (k+1) A) (env:Env):e_e k (A.deeper env) :=
 ⟨by have:=r.dp; show A.depth+1+3*k+5 < _; omega,by have:=r.un; show A.units+3+16*k+200 < _; omega⟩
theorem e_e.mark {k:Nat} {A:Around} (r:e_e k A) (v:Option Value):e_e k (A.mark v):=⟨r.dp,r.un⟩
theorem e_e.calm {k:Nat} {A:Around} (r:e_e k A):Room k { A with handled:=none }:=⟨rfl,r.dp,r.un⟩
structure j_h (P:Program) (w:World) (K:Frag) (mg:Str->Option Value) (base:Heap) (k:Nat) (f:Addr) (fd:FuncData) (ps:List Str) (sp:Sp):Prop where
 len:∀ vs H Q E,sp vs H Q E->vs.length=ps.length
 run:∀ (A:Around) (outer:List Env) (s:Shared) (H:Hp) (args:Args) (us:List Value) (vs:List V) (Q:VK) (E:XK),e_e k A->Env0 P w K mg base A outer s H->BindsTo s fd args (ps.zip us)->Vals vs us->sp vs H Q E ->
  codeAny (model P w) A (.call (.ref f) args) (CR CX0 outer P w H s Q E) s
theorem j_h.ok {P:Program} {w:World} {K:Frag} {mg:Str->Option Value} {base:Heap} {k:Nat} {f:Addr} {fd:FuncData} {ps:List Str} {sp:Sp} (F:j_h P w K mg base k f fd ps sp):FnOk P w K mg base CX0 k f fd ps sp :=
 ⟨F.len,λ A outer s H args us vs Q E hr=>F.run A outer s H args us vs Q E hr.a⟩
noncomputable abbrev cxA (P:Program) (w:World) (K:Frag) (mg:Str->Option Value) (base:Heap) (N:List Str) (qual:Str) (scope:Scope) (f:Addr) (cd:Value) (A:Around) (outer:List Env) (s:Shared) (H:Hp) (E:XK):Cx :=
 { cxOf CX0 P w K mg base N qual scope f cd A outer s H E with calm:=false,xe:=λ _ _=>False }
section
variable {P:Program} {w:World} {K:Frag} {mg:Str->Option Value} {base:Heap}
theorem Fun.okA {x qual:Str} {st:Stmt} {f:Addr} {fd:FuncData} {N ps:List Str} {k:Nat} {sp:Sp} (F:Fun K x qual st f fd) (S:a_M N ps (a_B st)) (len:∀ vs H Q E,sp vs H Q E->vs.length=ps.length)
  (hbody:∀ (cdv:Value) (A:Around) (outer:List Env) (s:Shared) (H:Hp) (vs:List V) (Q:VK) (E:XK),e_e k (A.deeper (envOfC qual (a_B st) s.heap.objs.size f cdv))->sp vs H Q E ->
   ∃ t,PSs (cxA P w K mg base N qual (a_B st) f cdv A outer s H E) (a_H st) t/\t { nx:=λ _ H'=>Q .non H',rt:=Q } (e_k N vs) H):j_h P w K mg base (k+1) f fd ps sp:=by
 obtain ⟨oc,od,kV,doc,pm,an,cdv,ct,osl,rfl,lk,hcd⟩:=F.ex;refine ⟨len,λ A outer s H args us vs Q E hr e0 hb r hsp=>?_⟩;have hl:=len _ _ _ _ hsp;have kp:∀ b o,base.get? b=some o->s.heap.get? b=some o:=λ b o e=>(e0.bs b o e).1;have hkind:∀ y∈ps.zip us,(a_B st).names.lookup y.1=some .local\/((a_B st).names.lookup y.1=some .cell/\((cellsFrom (s.heap.objs.size+1) (a_B st).names []).lookup y.1).isSome=true):=λ ⟨n,v⟩ hy=>by
  rcases S.par n (List.of_mem_zip hy).1 with q | q
  ·exact .inl q
  ·exact .inr ⟨q,PySem.W.cellsFrom_some _ _ _ (.inl q)⟩
 refine codeAny_call_function (by have:=hr.dp; omega) (e0.mod.kin.keeps kp _ _ lk) rfl S.co S.gen rfl (PySem.W.codeRec_of (e0.mod.kin.keeps kp) hcd) (hb _ _ _ _ ?_);refine wpAny_newFunctionEnv_cells S.kind hkind λ env he s1 x=>?_;subst he;refine ⟨(e0.mod.nolimit.keeps kp).keeps x.toInCall.keep,codeAny_func ?_⟩;obtain ⟨t,ht,hq⟩:=hbody cdv A outer s H vs Q E (hr.deeper _) hsp;have I0:Inv (cxOf CX0 P w K mg base N qual (a_B st) f cdv { A with handled:=none } outer s H E) [] (e_k N vs) H s1 :=
  j_c S rfl (⟨e0.frames,e0.mod,e0.bs,e0.bsz,e0.funs,e0.frf,e0.hok,e0.bare⟩:Env0 P w K mg base { A with handled:=none } outer s H) hl r x
 have I:Inv (cxA P w K mg base N qual (a_B st) f cdv A outer s H E) [] (e_k N vs) H s1 :=
  ⟨⟨I0.ok.mod,I0.ok.kind,I0.ok.glob,I0.ok.blt,I0.ok.above,I0.ok.inj,I0.ok.has,I0.ok.cab,(λ z=>by cases z),Around.frames_deeper e0.frames,I0.ok.stk,I0.ok.exf,I0.ok.bs,I0.ok.bsz,I0.ok.noex,I0.ok.exfs,I0.ok.funs,I0.ok.frf⟩,
   I0.os,I0.bare,I0.base,I0.loc,I0.cell,I0.free,I0.freeC,I0.pin,I0.hok,I0.len⟩
 refine zC (ht [] s1 (e_k N vs) H _ I hq) (λ fl s' hs=>?_) λ _ _ z=>z.elim;cases fl with
 | ret u=>obtain ⟨v,σ',H',J,rv,q⟩:=hs; exact ⟨v,H',J.os,J.bare,J.base,J.hok,rv,q⟩
 | next=>obtain ⟨σ',H',J,q⟩:=hs; exact ⟨.non,H',J.os,J.bare,J.base,J.hok,rfl,q⟩
 | brk=>obtain ⟨_,_,_,q⟩:=hs; exact q.elim
 | cont=>obtain ⟨_,_,_,q⟩:=hs; exact q.elim
end
section
variable {X:Cx} {k:Nat} {f:Addr} {fd:FuncData} {ps:List Str} {sp:Sp} {dvs:List V} {ds:List Value} {x:Str} {p pos:Pos} {e:Expr} {es:List Expr} {t:TA}
theorem r_h (F:j_h X.prog X.w X.K X.mg X.base k f fd ps sp) (hr:e_e k X.A) (hg:Gl X x) (hm:X.mg x=some (.ref f)) (hk:PySem.W.keepIn X.K (.ref f)=true) (hb:a_X X.K fd ps ds) (hd:Vals dvs ds)
  (ha:PA X (e :: es) t) (hdb:(x == ("__debug__" : Str))=false:=by decide) (he:starEach (e :: es) X.env=(false,eval e X.env) :: starEach es X.env:=by rfl) (hpl:(backTo pos (starEach es X.env)).any (·.1)=false:=by rfl) :
  PE X (.Call (.Name x p) (e :: es) [] pos) (e_u sp dvs E0 t):=by
 intro pins s σ H Q I h;refine wpAny_Call_Name_kw (e_j I hg hm ?_ hdb);refine PySem.W.callWith_K (h₀:=X.base) I.ok.mod.kin hk (thn (ha pos pins s σ H _ I h) λ us s1 ⟨vs,H1,I1,r,q⟩=>⟨I1.kIn,?_⟩) he hpl;have r2:Vals (vs++dvs) (us++ds):=r.append hd;have hl:(us++ds).length=ps.length:=by rw [← r2.length]; exact F.len _ _ _ _ q
 refine wpAny_call (codeAny_mono (F.run X.A X.stack s1 H1 ⟨us,[]⟩ (us++ds) (vs++dvs) Q E0 hr I1.env0 (hb s1 us I1.kIn hl) r2 q) λ r s' hq=>?_);cases r with
 | error e=>exact False.elim hq
 | ok fl =>
  cases fl with
  | ret u=>exact I1.after hq
  | next=>exact False.elim hq
  | brk=>exact False.elim hq
  | cont=>exact False.elim hq
end
section
variable {X:Cx}
theorem f_D:OpR X (compareOp .Eq) (rI0 λ i j=>.bl (decide (i=j))):=opB0 λ i j _ _ _ _ _ q=>eq_int (by rw [Bool.beq_eq_decide_eq]; exact q)
theorem d_I:OpR X (compareOp .NotEq) (rI0 λ i j=>.bl (!decide (i=j))):=opB0 λ i j _ _ _ _ _ q=>ne_int (by rw [bne,Bool.beq_eq_decide_eq]; exact q)
theorem PS.nox {st:Stmt} {t:TS} (h:PS X.nox st t):PS X st t:=λ pins s σ H D I hw =>
 zC (h pins s σ H D (I.wish _) hw) (λ _ _ q=>q.unwish) λ _ _ z=>z.elim
end
section
variable {P:Program} {w:World} {K:Frag} {mg:Str->Option Value} {base:Heap}
theorem Fun.okX {x qual:Str} {st:Stmt} {f:Addr} {fd:FuncData} {N ps:List Str} {k:Nat} {sp:Sp} (F:Fun K x qual st f fd) (S:a_M N ps (a_B st)) (len:∀ vs H Q E,sp vs H Q E->vs.length=ps.length)
  (hbody:∀ (cdv:Value) (A:Around) (outer:List Env) (s:Shared) (H:Hp) (vs:List V) (Q:VK) (E:XK),Room k (A.deeper (envOfC qual (a_B st) s.heap.objs.size f cdv))->sp vs H Q E ->
   ∃ t,PSs (cxOf (CX1 P w) P w K mg base N qual (a_B st) f cdv A outer s H E) (a_H st) t/\t { nx:=λ _ H'=>Q .non H',rt:=Q } (e_k N vs) H):FnOk P w K mg base (CX1 P w) (k+1) f fd ps sp:=by
 obtain ⟨oc,od,kV,doc,pm,an,cdv,ct,osl,rfl,lk,hcd⟩:=F.ex;exact q_W lk hcd S len λ A outer s H vs Q E hr hsp=>hbody cdv A outer s H vs Q E hr hsp
end
end L2
namespace Att
open PySem PySem.W PySem.Calls PyProof.Rows
theorem j_i:∀ ns:List Int,ofPys (ns.map PyData.int)=ns.map WData.int
 | []=>rfl
 | n :: r=>by
  show ofPy (.int n) :: ofPys (r.map PyData.int)=_;rw [j_i r];rfl
theorem r_i {ns:List Int} (h:(WData.list (ns.map WData.int)).layable=true):∀ n∈ns,Builtin.Int.intBits n<=1048576:=λ n hn=>by
 have e:ofPy (.list (ns.map PyData.int))=WData.list (ns.map WData.int):=by
  show WData.list (ofPys (ns.map PyData.int))=_;rw [j_i]
 have sh:PySem.Spec.Shape.has (.list .int) (.list (ns.map PyData.int))=true:=by
  simp [PySem.Spec.Shape.has]
 exact intBits_le_of_item hn (layable0_of_all (lay0_ofPy (s:=.list .int) rfl sh (by rw [e]; exact h)))
theorem attach_callB {l:OpenLaw} {n:Nat} {q:Program} {loose:List Str} {XP:(Str->Option Value)->Heap->Prop} {YP:World->Heap->Prop} {d:DefRec} (hn:l.most=some n) (hdf:d.params.defaults=[])
  (call:∀ (w:World) (s₀ s₁:Shared) (mg mb:Str->Option Value) (fa:Addr) (a:Addr) (vs:List Value) (ns:List Int),Ground q loose [] XP w s₀ mg mb s₁.heap->YP w s₁.heap->mg d.name=some (.ref fa) ->
   s₁.heap.get? a=some { cls:=.type "list",data:=.seq vs.toArray }->IntsAre vs ns->ns.length<=n->(∀ m∈ns,Builtin.Int.intBits m<=1048576)->s₁.gens=#[] ->
   codeAny (model l.prog w) callerA (.call (.ref fa) ⟨[.ref a],[]⟩) (λ r s'=>r=.ok (.ret (.bool true))/\OldK s₁.heap s'.heap/\s'.os=s₁.os/\AllBare s'.gens) s₁) :
  WalkO q loose XP YP l.row.toRowW d [] (λ f vs=>PySem.call f vs):=by
 intro w s₀ s₁ mg mb G Y fa o pm cd doc dV kV ho hd hcd hD hmg hg args vals as hpre hlay hrd hwl hlo;obtain rfl:dV=.none:=Dflts.none hD hdf;obtain rfl:kV=.none:=Dflts.noKw hD;obtain ⟨a,vs,ns,rfl,rfl,hobj,hints,hlen⟩:=j_e hn hpre hwl;have hb:=r_i (layableW_arg hlay _ zU);refine enter_call (codeAny_mono (call w s₀ s₁ mg mb fa a vs ns G Y hmg hobj hints hlen hb hg) λ r s' hq=>?_);obtain ⟨rfl,h2,h3,h4⟩:=hq;exact ⟨.inl ⟨.bool true,.bool true,[],rfl,λ _=>rfl,.bool true,j_f l _,λ _=>⟨List.Pairwise.nil,λ _ hm=>(nomatch hm)⟩⟩,h2,h3,h4⟩
end Att
namespace L2
open PySem PySem.Spec PyProof.Rows
open PySem.W (Frag)
noncomputable def u_U (K:Frag):Sp:=λ vs H Q _=>∃ (a:Addr) (ns:List Int),vs=[.ref a]/\SqL K H a (ns.map V.int)/\ns.length<=63/\(∀ m∈ns,Builtin.Int.intBits m<=1048576)/\∀ H',Q (.bl true) H'
theorem walkB {l:PySem.W.OpenLaw} {k:Nat} {q:Program} {loose:List Str} {XP:(Str->Option Value)->Heap->Prop} {YP:World->Heap->Prop} {d:DefRec} {K:Params->Frag} {x:Str}
  (hn:l.most=some 63) (hdf:d.params.defaults=[]) (hr:Room k callerA) (hY:∀ (w:World) (h:Heap),YP w h->(K w.params).In h)
  (F:∀ (w:World) (mg:Str->Option Value) (fa:Addr) (h:Heap),(K w.params).In h->h.Ns mainGlobals mg->mg d.name=some (.ref fa) ->
   ∃ fd:FuncData,(∀ (s:Shared) (u:Value),BindsTo s fd ⟨[u],[]⟩ [(x,u)])/\∀ base:Heap,(K w.params).In base->base.Ns mainGlobals mg->FnOk l.prog w (K w.params) mg base CX0 k fa fd [x] (u_U (K w.params))) :
  PySem.W.WalkO q loose XP YP l.row.toRowW d [] (λ f vs=>PySem.call f vs):=by
 refine Att.attach_callB hn hdf λ w s₀ s₁ mg mb fa a vs ns G Y hmg hobj hints hlen hb hg=>?_;have KX:=hY w _ Y;obtain ⟨fd,hbn,hF⟩:=F w mg fa _ KX G.T.g hmg;exact k_S KX G.T.g G.T.b G.T.builtins G.T.nolimit hg hobj hints (zS hlen (by decide)) hr hF hbn (λ H _ hS=>⟨a,ns,rfl,hS,hlen,hb,λ _=>rfl⟩) λ H e s' z=>z
theorem d_B {wi:TI} {g:TG} {tb:TS} {D:Ends} {σ:St} {H:Hp} (h:∀ B:TS,B=tb->wi σ H λ J H1=>∃ W:Nat->Nat->St->Hp->Prop,(∃ m,W 0 m σ H1)/\∀ i m σ H,W i m σ H ->
  (J.stop i H/\D.nx σ H)\/(J.go i H/\∃ N:St->Hp->Prop,(∀ σ' H',N σ' H'->∃ m',m' < m/\W (i+1) m' σ' H')/\∀ x H',J.yld i H x H'->g x σ H' λ σ2 H2=>B { D with nx:=N,ct:=N,bk:=D.nx } σ2 H2)):tFor wi g tb D σ H:=h _ rfl
theorem r_j {c:TT} {tb:TS} {D:Ends} {σ:St} {H:Hp} (h:∀ B:TS,B=tb->∃ W:Nat->St->Hp->Prop,(∃ m,W m σ H)/\∀ m σ H,W m σ H ->
  c σ H λ b H1=>if b=true then ∃ N:St->Hp->Prop,(∀ σ' H',N σ' H'->∃ m',m' < m/\W m' σ' H')/\B { D with nx:=N,ct:=N,bk:=D.nx } σ H1 else D.nx σ H1):q_N c tb D σ H:=h _ rfl
theorem st {t u:TS} {D:Ends} {σ:St} {H:Hp} (h:∀ NX:St->Hp->Prop,NX=u D->t { D with nx:=NX } σ H):tSeq t u D σ H:=h _ rfl
section
variable {g:Int->Int->V} {C:Int->Int->Prop} {f:Int->V} {i j:Int} {H:Hp} {Q:VK}
theorem v_C:rI0 g (.int i) (.int j) H Q=Q (g i j) H:=propext ⟨λ ⟨_,_,e1,e2,q⟩=>by cases e1; cases e2; exact q,λ q=>⟨_,_,rfl,rfl,q⟩⟩
theorem w_y:rI C g (.int i) (.int j) H Q=(C i j/\Q (g i j) H):=propext ⟨λ ⟨_,_,e1,e2,q⟩=>by cases e1; cases e2; exact q,λ q=>⟨_,_,rfl,rfl,q⟩⟩
theorem w_z:rU f (.int i) H Q=Q (f i) H:=propext ⟨λ ⟨_,e1,q⟩=>by cases e1; exact q,λ q=>⟨_,rfl,q⟩⟩
end
theorem Same.new {H:Hp} {a:Addr} {o:HO} (h:H a=none):Same H (upd H a o):=λ b u e=>by rw [a_I (b_z e h)]; exact e
theorem Same.over {H H1:Hp} {a:Addr} {o:HO} (h:H a=none) (s:Same H H1):Same H (upd H1 a o):=λ b u e=>by rw [a_I (b_z e h)]; exact s b u e
theorem Same.tup {K:Frag} {H H':Hp} {a:Addr} {xs:List V} (e:Same H H') (h:SqT K H a xs):SqT K H' a xs:=by
 rcases h with (h | ⟨o,h⟩) | h
 ·exact .inl (.inl (e _ _ h))
 ·exact .inl (.inr ⟨o,e _ _ h⟩)
 ·exact .inr h
section
variable {K:Frag} {a b:Addr} {xs:List V} {te:TE} {fr:List (Str × Nat)} {σ:St} {H:Hp} {Q:VK}
noncomputable def r_k (H:Hp) (a:Addr) (R:Nat->V->Prop) (i:Nat) (H1:Hp):Prop:=Same H H1/\∃ ys:List V,H1 a=some (.lst ys)/\ys.length=i/\∀ j y,ys[j]?=some y->R j y
theorem r_k.next {R:Nat->V->Prop} {i:Nat} {H1 H2:Hp} {y:V} (ha:H a=none) (h:r_k H a R i H1) (s:Same H1 H2) (r:R i y) (hz:i < sizeLine) :
  ∃ zs,H2 a=some (.lst zs)/\zs.length < sizeLine/\r_k H a R (i+1) (upd H2 a (.lst (zs++[y]))):=by
 obtain ⟨s1,ys,e,hl,hr⟩:=h;refine ⟨ys,s _ _ e,by omega,Same.over ha (s1.trans s),_,a_F,by simp [hl],λ j z q=>?_⟩
 by_cases hj:j < ys.length
 ·rw [yC hj] at q;exact hr j z q
 ·rw [yD (by omega)] at q;have:j=i:=by
   by_cases h0:j - ys.length=0
   ·omega
   ·rw [List.getElem?_eq_none (by simp; omega)] at q;cases q
  subst this;rw [show j - ys.length=0 by omega] at q;cases zT q;exact r
end
theorem d_L {α β:Type} {ys:List β} {xs:List α} {f:α->β} (hl:ys.length=xs.length) (h:∀ (j:Nat) (y:β),ys[j]?=some y->∃ x,xs[j]?=some x/\y=f x):ys=xs.map f:=by
 refine yG (by simpa using hl) λ i h1 h2=>?_;obtain ⟨x,e1,e2⟩:=h i ys[i] (by simp [h1]);obtain ⟨hx,e3⟩:=List.getElem?_eq_some_iff.mp e1;rw [List.getElem_map,e2,e3]
noncomputable def h_A (sc scope:Scope):Scope:={ scope with names:=scope.names.map λ (n,k)=>if (k == .free && sc.kind == .function && sc.names.lookup n == some .cell) then (n,.cell) else (n,k) }
theorem r_l {scope sc:Scope} {env:Env} (h:env.scope=sc):relabel scope env=h_A sc scope:=by subst h; rfl
theorem g_p:∀ (names:List (Str × NameKind)) (n:Nat) (acc:List (Str × Addr)),cellsFrom n names acc=cellsFrom n names []++acc
 | [],_,_=>rfl
 | (x,k) :: r,n,acc=>by
  unfold cellsFrom;split
  ·rw [g_p r (n+1) ((x,n) :: acc),g_p r (n+1) [(x,n)],List.append_assoc];rfl
  ·exact g_p r n acc
theorem j_Q {y:Str} {b:Addr}:∀ {names:List (Str × NameKind)} {n:Nat} {acc:List (Str × Addr)},(y,b)∈cellsFrom n names acc->(y,b)∈acc\/(y,NameKind.cell)∈names
 | [],_,_,h=>.inl h
 | (x,k) :: r,n,acc,h=>by
  unfold cellsFrom at h;split at h
  ·rename_i hk;rcases j_Q h with q | q
   ·rcases List.mem_cons.mp q with e | e
    ·have ek:k=.cell:=by simpa using hk
     cases e;exact .inr (by rw [ek]; exact zU)
    ·exact .inl e
   ·exact .inr (zN _ q)
  ·rcases j_Q h with q | q
   ·exact .inl q
   ·exact .inr (zN _ q)
theorem g_q {y:Str}:∀ {names:List (Str × NameKind)} {n:Nat} {acc:List (Str × Addr)},((y,NameKind.cell)∈names\/∃ b,acc.lookup y=some b)->∃ b,(cellsFrom n names acc).lookup y=some b
 | [],_,_,h=>by
  rcases h with h | h
  ·simp at h
  ·exact h
 | (x,k) :: r,n,acc,h=>by
  unfold cellsFrom;split
  ·rename_i hk;refine g_q ?_;rcases h with h | ⟨b,h⟩
   ·rcases List.mem_cons.mp h with e | e
    ·cases e;exact .inr ⟨n,by rw [List.lookup_cons]; simp⟩
    ·exact .inl e
   ·rw [List.lookup_cons];cases hx:y == x with
    | true=>exact .inr ⟨n,rfl⟩
    | false=>exact .inr ⟨b,h⟩
  ·rename_i hk;refine g_q ?_;rcases h with h | h
   ·rcases List.mem_cons.mp h with e | e
    ·cases e;simp at hk
    ·exact .inl e
   ·exact .inr h
theorem g_P {env:Env} {q:NameKind}:∀ {names:List (Str × NameKind)} {x:Str},
  (names.map λ (n,k)=>if (k == NameKind.free && env.scope.kind == .function && env.kindOf n == some .cell) then (n,NameKind.cell) else (n,k)).lookup x=some q ->
  (q=.cell\/q=.free)->(x,NameKind.free)∈names\/(x,NameKind.cell)∈names
 | [],_,h,_=>by simp at h
 | (n,k) :: r,x,h,hq=>by
  have ih:=@g_P env q r x;rw [List.map_cons] at h;dsimp only at h
  by_cases hc:(k == NameKind.free && env.scope.kind == .function && env.kindOf n == some .cell)=true
  ·rw [if_pos hc,List.lookup_cons] at h;cases hx:x == n with
   | true =>
    have ex:x=n:=by simpa using hx
    have ek:k=.free:=by
     have:=(Bool.and_eq_true _ _ ▸ ((Bool.and_eq_true _ _ ▸ hc).1)).1;simpa using this
    rw [ex,ek];exact .inl zU
   | false =>
    rw [hx] at h;exact (ih h hq).imp (zN _) (zN _)
  ·rw [if_neg hc,List.lookup_cons] at h;cases hx:x == n with
   | true =>
    rw [hx] at h;have ex:x=n:=by simpa using hx
    have ek:k=q:=zT h;rcases hq with e | e
    ·rw [ex,ek,e]; exact .inr zU
    ·rw [ex,ek,e]; exact .inl zU
   | false =>
    rw [hx] at h;exact (ih h hq).imp (zN _) (zN _)
theorem o_n {α:Type} {x:Str} {k k':α}:∀ {l:List (Str × α)},(l.map (·.1)).Nodup->(x,k)∈l->(x,k')∈l->k=k'
 | (n,q) :: r,nd,h,h'=>by
  obtain ⟨n1,n2⟩:=List.nodup_cons.mp nd;rcases List.mem_cons.mp h with e | e <;> rcases List.mem_cons.mp h' with e' | e'
  ·cases e; cases e'; rfl
  ·cases e; exact yJ (List.mem_map.mpr ⟨_,e',rfl⟩) n1
  ·cases e'; exact yJ (List.mem_map.mpr ⟨_,e,rfl⟩) n1
  ·exact o_n n2 e e'
theorem m_T {M:Model} {A:Around} {E:Value->Shared->Prop} {s:Shared} {scope:Scope} {globals:Addr} {cl:List (Str × Addr)} {qual:Str} {func:Option Addr} {code:Value} {env:Env} {bl:Addr} {Q:Env->Shared->Prop}
  (h:Q (newEnv scope s.heap.objs.size globals (cellsFrom (s.heap.objs.size+1) scope.names cl) qual func code (some env) bl) { s with heap:=pushCells (s.heap.push { cls:=.type "dict",data:=.dict #[] }) scope.names }) :
  wpAny M A (newFunctionEnv scope globals cl [] qual func code (some env) bl) Q E s:=by
 simp only [newFunctionEnv,Option.isSome_some,if_true];refine zA (wpAny_alloc ?_);refine zA (wpAny_layCells _ (λ name kind cells=>by cases hkc:kind == NameKind.cell <;> simp [hkc]) _ _ _ _ ?_);rw [show ({ s with heap:=s.heap.push { cls:=.type "dict",data:=.dict #[] } }:Shared).heap.objs.size=s.heap.objs.size+1 from Heap.size_push ..];exact zB h
noncomputable def b_M (X:Cx) (scope:Scope) (N:List Str) (s:Shared) (H:Hp) (fp:List Addr):Cx :=
 { X with N:=N,s₀:=s,H₀:=H,env:=compEnvC scope (cellsFrom (s.heap.objs.size+1) scope.names (clOf X.env scope.names [])) s.heap.objs.size X.env,outer:=X.stack,ex:=fp,fn:=λ y=>scope.names.lookup y == some .cell,pn:=[],xe:=λ _ _=>False }
structure d_C (X:Cx) (sc scope:Scope) (xs:List Str) (fr:List (Str × Nat)):Prop where
 hsc:X.env.scope=sc
 kind:scope.kind=.function
 nn:(scope.names.map (·.1)).Nodup
 free:∀ y∈scope.names,y.2=.free->sc.names.lookup y.1=some .cell\/sc.names.lookup y.1=some .free
 loc:∀ y∈scope.names,y.2=.local->scope.names.lookup y.1=some .local
 fr:∀ p∈fr,X.N[p.2]?=some p.1/\scope.names.lookup p.1=some .free
section
variable {X:Cx} {sc scope:Scope} {xs:List Str} {fr:List (Str × Nat)}
theorem d_C.free' (c:d_C X sc scope xs fr):∀ y∈scope.names,y.2=.free->X.env.kindOf y.1=some .cell\/X.env.kindOf y.1=some .free:=λ y hy hf=>by
 unfold Env.kindOf;rw [c.hsc];exact c.free y hy hf
theorem d_C.cells {pins:List (Addr × Obj)} {σ:St} {H:Hp} {s:Shared} (c:d_C X sc scope xs fr) (I:Inv X pins σ H s):∀ y∈scope.names,y.2=.free->∃ c,X.env.cells.lookup y.1=some c :=
 λ y hy hf=>I.ok.has y.1 (c.free' y hy hf)
theorem d_C.was {pins:List (Addr × Obj)} {σ:St} {H:Hp} {s:Shared} (c:d_C X sc scope xs fr) (I:Inv X pins σ H s) {y:Str} {b:Addr} (h:(clOf X.env scope.names []).lookup y=some b):X.env.cells.lookup y=some b:=by
 rcases f_C (c.cells I) h with q | q
 ·simp at q
 ·exact q
theorem c_Z {names:List (Str × NameKind)} {n:Nat} {cl:List (Str × Addr)} {y:Str} {b:Addr} (h:(cellsFrom n names cl).lookup y=some b):(cellsFrom n names []).lookup y=some b\/((cellsFrom n names []).lookup y=none/\cl.lookup y=some b):=by
 rw [g_p,List.lookup_append] at h;cases q:(cellsFrom n names []).lookup y with
 | none=>rw [q] at h; exact .inr ⟨rfl,h⟩
 | some c=>rw [q] at h; exact .inl h
theorem k_V {pins:List (Addr × Obj)} {σ:St} {H:Hp} {s:Shared} {fp:List Addr} (c:d_C X sc scope xs fr) (I:Inv X pins σ H s)
  (hf:∀ b∈fp,FpOk X pins H b/\∃ o,s.heap.get? b=some o) :
  Inv (b_M X scope (xs++fr.map (·.1)) s H fp) [] (xs.map (λ _=>none)++d_F fr σ) H { s with heap:=pushCells (s.heap.push { cls:=.type "dict",data:=.dict #[] }) scope.names }:=by
 have k:∀ b o,s.heap.get? b=some o->(pushCells (s.heap.push { cls:=.type "dict",data:=.dict #[] }) scope.names).get? b=some o:=λ b o e=>pushCells_keeps _ _ b o (zD _ e);have hn:(pushCells (s.heap.push { cls:=.type "dict",data:=.dict #[] }) scope.names).Ns s.heap.objs.size (λ _=>none):=(Heap.Ns.new s.heap (.type "dict")).keeps (pushCells_keeps _ _);have ok:=cellsFrom_ok scope.names (s.heap.push { cls:=.type "dict",data:=.dict #[] }) (s.heap.objs.size+1) [] ⟨λ _ _ hm=>(nomatch hm),List.Pairwise.nil⟩ (by rw [Heap.size_push]; exact zL _);rw [Heap.size_push] at ok;have I4:Inv X pins σ H { s with heap:=pushCells (s.heap.push { cls:=.type "dict",data:=.dict #[] }) scope.names }:=I.kept (t':=s.toks) k;generalize hh:pushCells (s.heap.push { cls:=.type "dict",data:=.dict #[] }) scope.names=h₁ at k hn ok I4;have old:∀ {y:Str} {b:Nat},(clOf X.env scope.names []).lookup y=some b->b < s.heap.objs.size:=λ {y b} e=>by
  obtain ⟨v,z⟩:=I.cell y b (c.was I e);exact z.lt
 have own:∀ {y:Str} {b:Nat},(cellsFrom (s.heap.objs.size+1) scope.names []).lookup y=some b->h₁.IsCell b none/\s.heap.objs.size+1<=b:=λ {y b} e=>ok.empty y b (mem_of_lookup e);refine ⟨⟨I.ok.mod,c.kind,I.ok.glob,I.ok.blt,zL _,λ y z b h1 h2=>?_,λ y hy=>?_,λ y b h0 h1=>?_,I.ok.hd,I.ok.frames,.inl rfl,λ b hb=>?_,λ b o e=>?_,?_,λ b o e hb=>?_,λ b hb hs=>?_,?_,λ b hb=>?_⟩,
  rfl,I.bare,Un.kept k,⟨_,hn,λ i y v h1 h2 h3=>?_⟩,λ y b h=>?_,?_,λ y b h=>?_,λ p hp=>yJ (show p∈([]:List (Addr × Obj)) from hp) (by simp),I4.hok,?_⟩
 ·rcases c_Z h1 with e1 | ⟨_,e1⟩ <;> rcases c_Z h2 with e2 | ⟨_,e2⟩
  ·exact name_of_addr ok.apart (mem_of_lookup e1) (mem_of_lookup e2)
  ·exact yJ (zI (old e2) (Nat.le_of_succ_le (own e1).2)) (Nat.lt_irrefl _)
  ·exact yJ (zI (old e1) (Nat.le_of_succ_le (own e2).2)) (Nat.lt_irrefl _)
  ·exact I.ok.inj y z b (c.was I e1) (c.was I e2)
 ·show ∃ b,(cellsFrom (s.heap.objs.size+1) scope.names (clOf X.env scope.names [])).lookup y=some b;have hm:(y,NameKind.free)∈scope.names\/(y,NameKind.cell)∈scope.names:=by
   rcases hy with hy | hy
   ·exact g_P hy (.inl rfl)
   ·exact g_P hy (.inr rfl)
  rcases hm with hm | hm
  ·exact g_q (.inr (i_e (.inl hm)))
  ·exact g_q (.inl hm)
 ·have hy:scope.names.lookup y=some .cell:=by
   have h0':(scope.names.lookup y == some NameKind.cell)=true:=h0;simpa using h0'
  rcases c_Z h1 with e1 | ⟨e1,_⟩
  ·have:=(own e1).2;show s.heap.objs.size<=b;omega
  ·obtain ⟨b',e⟩:=g_q (n:=s.heap.objs.size+1) (acc:=[]) (.inl (mem_of_lookup hy));rw [e1] at e;cases e
 ·obtain ⟨⟨_,_,_,_,f5,_⟩,o,e⟩:=hf b hb;refine ⟨Nat.ne_of_lt (zE e),λ y b' h=>?_⟩;rcases c_Z h with e1 | ⟨_,e1⟩
  ·exact λ z=>yJ (zI (zE e) (Nat.le_of_succ_le (z ▸ (own e1).2))) (Nat.lt_irrefl _)
  ·exact f5 y b' (c.was I e1)
 ·exact I.bs b o e
 ·exact zS I.ok.bsz I.sz
 ·obtain ⟨⟨_,_,_,f4,_,_⟩,_⟩:=hf b hb;rcases f4 with z | z
  ·exact I.ok.noex b o e z
  ·exact yJ (zI (zE e) (zS I.ok.bsz z)) (Nat.lt_irrefl _)
 ·obtain ⟨⟨_,f2,f3,_,_,_⟩,_⟩:=hf b hb;rcases List.mem_cons.mp (I.stkSub b hs) with z | z
  ·exact f2 z
  ·exact f3 z
 ·exact I.stack
 ·exact I.stkFree b hb
 ·have h1':(xs++fr.map (·.1))[i]?=some y:=h1
  by_cases hi:i < xs.length
  ·rw [yC (by simpa using hi),zH] at h2;cases q:xs[i]? with
   | none=>rw [q] at h2; cases h2
   | some z=>rw [q] at h2; cases zT h2
  ·rw [yD (by omega)] at h1';rw [yD (by simpa using hi),yI] at h2;generalize i - xs.length=j at h1' h2;rw [zH] at h1';unfold d_F at h2;rw [zH] at h2;cases e:fr[j]? with
   | none=>rw [e] at h1'; cases h1'
   | some p =>
    rw [e] at h1' h2;have e1:p.1=y:=zT h1';have e2:σ.getD p.2 none=some v:=zT h2;obtain ⟨n1,n2⟩:=c.fr p (List.mem_of_getElem? e);have e3:σ[p.2]?=some (some v):=by
     rw [List.getD_eq_getElem?_getD] at e2;cases q:σ[p.2]? with
     | none=>rw [q] at e2; cases e2
     | some o=>rw [q] at e2; have e2':o=some v:=e2; rw [e2']
    subst e1;have hm:(p.1,NameKind.free)∈scope.names:=PySem.mem_of_lookup n2;have kd:=c.free' _ hm rfl;obtain ⟨m',_,hl⟩:=I4.loc;obtain ⟨u,ru,lk⟩:=hl p.2 p.1 v n1 e3 (.inr kd);refine ⟨u,ru,.inr ⟨g_o n2,?_⟩⟩;rcases lk with ⟨k1,_⟩ | ⟨_,b,q,z⟩
    ·rcases kd with kd | kd <;> (rw [kd] at k1; cases k1)
    ·obtain ⟨b',q'⟩:=i_e (env:=X.env) (l:=scope.names) (cs:=[]) (.inl hm);have e4:=c.was I q';rw [q] at e4;cases e4;refine ⟨b,?_,z⟩;show (cellsFrom (s.heap.objs.size+1) scope.names (clOf X.env scope.names [])).lookup p.1=some b;rw [g_p,List.lookup_append];cases w:(cellsFrom (s.heap.objs.size+1) scope.names []).lookup p.1 with
     | none=>exact q'
     | some b2 =>
      rcases j_Q (mem_of_lookup w) with w | w
      ·simp at w
      ·cases o_n c.nn hm w
 ·rcases c_Z h with e1 | ⟨_,e1⟩
  ·exact ⟨none,(own e1).1⟩
  ·exact I4.cell y b (c.was I e1)
 ·exact I.hok.fresh (zL _)
 ·rcases c_Z h with e1 | ⟨_,e1⟩
  ·exact I.hok.fresh (by have:=(own e1).2; omega)
  ·exact I4.freeC y b (c.was I e1)
 ·show (xs.map (λ _=>none)++d_F fr σ).length=(xs++fr.map (·.1)).length;simp [d_F]
end
noncomputable abbrev TOx:=St->Hp->(Option V->Hp->Prop)->Prop
noncomputable def tEl (te:TE)  : TOx:=λ σ H Q=>te σ H λ y H'=>Q (some y) H'
noncomputable def j_j (tc:TT) (te:TE)  : TOx:=λ σ H Q=>tc σ H λ b H1=>if b=true then te σ H1 (λ y H'=>Q (some y) H') else Q none H1
noncomputable def i_g (elt:Expr) (ifs:List Expr) (env:Env) (M:Model) (A:Around) (Q:Option Value->Shared->Prop) (E:Value->Shared->Prop) (s:Shared):Prop :=
 match ifs with
 | []=>wpAny M A (eval elt env) (λ x s1=>Q (some x) s1) E s
 | [c]=>wpAny M A (isTrue c env (eval c env)) (λ b s1=>if b=true then wpAny M A (eval elt env) (λ x s2=>Q (some x) s2) E s1 else Q none s1) E s
 | _=>False
noncomputable def POx (X:Cx) (elt:Expr) (ifs:List Expr) (t:TOx):Prop:=∀ (pins:List (Addr × Obj)) (s:Shared) (σ:St) (H:Hp) (Q:Option V->Hp->Prop),Inv X pins σ H s->t σ H Q ->
 i_g elt ifs X.env (model X.prog X.w) X.A (λ o s'=>∃ v H',Inv X pins σ H' s'/\(match o,v with | some u,some y=>RelV y u | none,none=>True | _,_=>False)/\Q v H') X.xe s
theorem c_R {X:Cx} {elt:Expr} {te:TE} (h:PE X elt te):POx X elt [] (tEl te):=λ pins s σ H Q I hw =>
 thn (h pins s σ H _ I hw) λ u s1 ⟨y,H1,I1,r1,q1⟩=>⟨some y,H1,I1,r1,q1⟩
theorem w_A {X:Cx} {elt c:Expr} {tc:TT} {te:TE} (hc:PT X c tc) (h:PE X elt te):POx X elt [c] (j_j tc te):=λ pins s σ H Q I hw=>by
 refine thn (hc pins s σ H _ I hw) λ b s1 ⟨H1,I1,q1⟩=>?_;cases b with
 | true =>
  rw [if_pos rfl] at q1 ⊢;exact thn (h pins s1 σ H1 _ I1 q1) λ u s2 ⟨y,H2,I2,r2,q2⟩=>⟨some y,H2,I2,r2,q2⟩
 | false =>
  rw [if_neg zV] at q1 ⊢;exact ⟨none,H1,I1,trivial,q1⟩
theorem f_E {prog:Program} {w:World} {A:Around} {R:Result->Shared->Prop} {s:Shared} {elt target iter:Expr} {ifs:List Expr} {scope:Scope} {pos:Pos} {it acc:Value} {env:Env} (I:Nat->Shared->Prop)
  (turn:∀ n s,I n s->wpAny (model prog w) A (pyNext it) (λ r s₁=>match r with
   | none=>R (.ok .next) s₁
   | some v=>wpAny (model prog w) A (letOwnedTupleGo target it v) (λ _ s₁'=>wpAny (model prog w) A (assign target env v) (λ _ s₂=>i_g elt ifs env (model prog w) A (λ o s₃=>match o with
     | some x=>wpAny (model prog w) A (call (.builtin "list.append") [acc,x]) (λ _ s₄=>∃ m,m < n/\I m s₄) (λ _ _=>False) s₃
     | none=>∃ m,m < n/\I m s₃)
     (λ _ _=>False) s₂) (λ _ _=>False) s₁') (λ _ _=>False) s₁) (λ _ _=>False) s)
  (n:Nat) (h:I n s) (hifs:ifs.length<=1) :
  codeAny (model prog w) A (.compLoop (.ListComp elt [⟨target,iter,ifs,0⟩] scope pos) 0 it acc env) R s:=by
 refine codeAny_loop rfl I (λ n s hI=>?_) n h;show wpAny _ _ ((compTurn (.ListComp elt [⟨target,iter,ifs,0⟩] scope pos) 0 it acc env).onRaise (λ x=>do noteFrame x env; theTreesLotGoes x)) _ _ s;refine wpAny_noted ?_;have T:=turn n s hI
 match ifs,hifs,T with
 | [],_,T =>
  rw [compTurn_list1];refine zA (wpAny_standAt (zA (zC T (λ r s₁ h₁=>?_) λ _ _ h'=>h'.elim)));cases r with
  | none=>exact zB h₁
  | some v =>
   refine zA (zC h₁ (λ _ s₁' h₁'=>?_) λ _ _ h'=>h'.elim);exact zA (zC h₁' (λ _ s₂ h₂=>zA (zA (zC (show wpAny _ _ _ _ _ _ from h₂) (λ x s₃ h₃=>zA (zC h₃
    (λ _ s₄ h₄=>zB (zB ⟨rfl,h₄⟩)) λ _ _ h'=>h'.elim)) λ _ _ h'=>h'.elim))) λ _ _ h'=>h'.elim)
 | [c],_,T =>
  have e1:compTurn (.ListComp elt [⟨target,iter,[c],0⟩] scope pos) 0 it acc env=(standAt iter.pos >>= λ _=>pyNext it >>= λ r=>match r with
   | none=>pure (.done .next)
   | some v=>letOwnedTupleGo target it v >>= λ _=>assign target env v >>= λ _=>isTrue c env (eval c env) >>= λ ok =>
    (if ok=true then (eval elt env >>= λ x=>call (.builtin "list.append") [acc,x] >>= λ _=>pure ()) >>= λ _=>again (.compLoop (.ListComp elt [⟨target,iter,[c],0⟩] scope pos) 0 it acc env)
     else again (.compLoop (.ListComp elt [⟨target,iter,[c],0⟩] scope pos) 0 it acc env))):=by
   unfold compTurn;simp only [List.forIn_cons,List.forIn_nil,if_true,bind_assoc,pure_bind,List.getElem?_cons_zero];rfl
  rw [e1];refine zA (wpAny_standAt (zA (zC T (λ r s₁ h₁=>?_) λ _ _ h'=>h'.elim)));cases r with
  | none=>exact zB h₁
  | some v =>
   refine zA (zC h₁ (λ _ s₁' h₁'=>?_) λ _ _ h'=>h'.elim);refine zA (zC h₁' (λ _ s₂ h₂=>zA (zC (show wpAny _ _ _ _ _ _ from h₂) (λ b s₃ h₃=>?_) λ _ _ h'=>h'.elim)) λ _ _ h'=>h'.elim);cases b with
   | true =>
    rw [if_pos rfl] at h₃ ⊢;exact zA (zA (zC h₃ (λ x s₄ h₄=>zA (zC h₄ (λ _ s₅ h₅=>zB (zB ⟨rfl,h₅⟩)) λ _ _ h'=>h'.elim)) λ _ _ h'=>h'.elim))
   | false =>
    rw [if_neg zV] at h₃ ⊢;exact zB ⟨rfl,h₃⟩
 | _ :: _ :: _,hifs,T =>
  exact yJ hifs (by simp)
noncomputable def w_B (a:Addr) (N:Hp->Prop):Option V->Hp->Prop
 | some y,H=>∃ zs,H a=some (.lst zs)/\zs.length < sizeLine/\N (upd H a (.lst (zs++[y])))
 | none,H=>N H
noncomputable abbrev d_J (J:It) (g:TG) (tt:TOx) (n:Nat) (fr:List (Str × Nat)) (σ:St) (a:Addr) (H:Hp) (Q:VK):Prop :=
 ∃ W:Nat->Nat->Hp->Prop,(∃ m,W 0 m (upd H a (.lst [])))/\∀ i m H2,W i m H2->(J.stop i H2/\Q (.ref a) H2) \/
  (J.go i H2/\∃ N:Hp->Prop,(∀ H',N H'->∃ m',m' < m/\W (i+1) m' H')/\∀ (ys:St) x H3,ys.length=n->J.yld i H2 x H3 ->
   g x (ys++d_F fr σ) H3 λ σ4 H4=>(∃ ys':St,ys'.length=n/\σ4=ys'++d_F fr σ)/\tt σ4 H4 (w_B a N))
noncomputable def e_p (wi:TI) (g:TG) (tt:TOx) (n:Nat) (fr:List (Str × Nat)):TE:=λ σ H Q=>wi σ H λ J H1=>∀ a,H1 a=none->d_J J g tt n fr σ a H1 Q
section
variable {X:Cx} {sc scope:Scope} {xs:List Str} {fr:List (Str × Nat)} {elt tg iter:Expr} {ifs:List Expr} {g:TG} {tt:TOx}
theorem i_h {pins:List (Addr × Obj)} {σ:St} {H:Hp} {s:Shared} {pos:Pos} {J:It} {fp:List Addr} {it:Addr} {tn:Nat->Heap->Prop} {Q:VK} {RR:Value->Addr->Result->Shared->Prop} {E:Value->Shared->Prop}
  (c:d_C X sc scope xs fr) (hc:X.calm=true) (hifs:ifs.length<=1) (I:Inv X pins σ H s) (T:Turn X.prog X.w X.K tg J fp it tn) (t0:tn 0 s.heap) (hf:∀ b∈fp,FpOk X pins H b)
  (hg:∀ (s₃:Shared) (H₃:Hp) (fp:List Addr),(b_M X scope (xs++fr.map (·.1)) s₃ H₃ fp).env.scope=h_A sc scope->PG (b_M X scope (xs++fr.map (·.1)) s₃ H₃ fp) tg g)
  (he:∀ (s₃:Shared) (H₃:Hp) (fp:List Addr),(b_M X scope (xs++fr.map (·.1)) s₃ H₃ fp).env.scope=h_A sc scope->POx (b_M X scope (xs++fr.map (·.1)) s₃ H₃ fp) elt ifs tt)
  (hw:∀ a,H a=none->d_J J g tt xs.length fr σ a H Q)
  (hRR:∀ a C H' s' m,s'.heap.Ns C m->Inv X pins σ H' s'->FpOk X pins H' C->Q (.ref a) H'->RR (.ref a) C (.ok .next) s') :
  wpAny (model X.prog X.w) X.A (newList []) (λ acc s₃=>wpAny (model X.prog X.w) X.A (newFunctionEnv scope X.env.globals (clOf X.env scope.names []) [] X.env.qual none .none (some X.env)) (λ cenv s₄ =>
   codeAny (model X.prog X.w) X.A (.compStart (.ListComp elt [⟨tg,iter,ifs,0⟩] scope pos) 0 (.ref it) acc { cenv with scope:=relabel scope X.env }) (RR acc cenv.locals) s₄) E s₃) E s:=by
 obtain ⟨W,⟨m0,w0⟩,turn⟩:=hw s.heap.objs.size I.fresh;refine wpAny_newObj_type (m_T ?_);have I3:Inv X pins σ (upd H s.heap.objs.size (.lst [])) { s with heap:=s.heap.push { cls:=.type "list",dict:=none,data:=.seq ([]:List Value).toArray } }:=I.lnew (ys:=[]) (its:=[]) (t':=s.toks) .nil (Nat.zero_le _);have kp:∀ b o,s.heap.get? b=some o->(s.heap.push { cls:=.type "list",dict:=none,data:=.seq ([]:List Value).toArray }).get? b=some o:=λ b o e=>zD _ e;have un0:Un (frs X.stack) fp H (upd H s.heap.objs.size (.lst [])) s.heap (s.heap.push { cls:=.type "list",dict:=none,data:=.seq ([]:List Value).toArray }):=Un.laid kp (zL _) I.fresh;dsimp only;generalize hH2:s.heap.push { cls:=.type "list",dict:=none,data:=.seq ([]:List Value).toArray }=hp2 at I3 kp un0 ⊢;have hsz:s.heap.objs.size<=hp2.objs.size:=by rw [← hH2,Heap.size_push]; exact Nat.le_succ _
 have ft:∀ b∈fp,∃ o,s.heap.get? b=some o:=λ b hb=>let ⟨o,e,_⟩:=T.obj _ _ t0 b hb; ⟨o,e⟩
 have nea:∀ b∈fp,b≠s.heap.objs.size:=λ b hb=>let ⟨_,e⟩:=ft b hb; Nat.ne_of_lt (zE e)
 have f3:∀ b∈fp,FpOk X pins (upd H s.heap.objs.size (.lst [])) b/\∃ o,hp2.get? b=some o:=λ b hb=>by
  obtain ⟨o,e⟩:=ft b hb;exact ⟨⟨by rw [a_I (nea b hb)]; exact (hf b hb).1,(hf b hb).2⟩,o,kp b o e⟩
 have J0:=k_V c I3 f3;have k4:∀ b o,hp2.get? b=some o->(pushCells (hp2.push { cls:=.type "dict",data:=.dict #[] }) scope.names).get? b=some o:=λ b o e=>pushCells_keeps _ _ b o (zD _ e);have t4:tn 0 (pushCells (hp2.push { cls:=.type "dict",data:=.dict #[] }) scope.names):=T.keep 0 _ _ t0 λ b hb o e=>k4 b o (kp b o e);have esc:∀ (s₃:Shared) (H₃:Hp) (fp:List Addr),(b_M X scope (xs++fr.map (·.1)) s₃ H₃ fp).env.scope=h_A sc scope:=λ _ _ _=>r_l c.hsc;have stat:∀ {H':Hp},(∀ b∈fp,H' b=none)->∀ b∈fp,FpOk (b_M X scope (xs++fr.map (·.1)) { s with heap:=hp2 } (upd H s.heap.objs.size (.lst [])) fp) [] H' b:=λ hn b hb=>by
  obtain ⟨e1,e2⟩:=J0.ok.exf b hb;exact ⟨hn b hb,e1,J0.ok.exfs b hb,.inl hb,e2,λ p hp=>yJ (show p∈([]:List (Addr × Obj)) from hp) (by simp)⟩
 have loop:codeAny (model X.prog X.w) X.A (.compLoop (.ListComp elt [⟨tg,iter,ifs,0⟩] scope pos) 0 (.ref it) (.ref s.heap.objs.size) (compEnvC scope (cellsFrom (hp2.objs.size+1) scope.names (clOf X.env scope.names [])) hp2.objs.size X.env))
   (RR (.ref s.heap.objs.size) hp2.objs.size) { s with heap:=pushCells (hp2.push { cls:=.type "dict",data:=.dict #[] }) scope.names }:=by
  refine f_E (λ n s'=>∃ i,∃ ys:St,∃ H',ys.length=xs.length/\Inv (b_M X scope (xs++fr.map (·.1)) { s with heap:=hp2 } (upd H s.heap.objs.size (.lst [])) fp) [] (ys++d_F fr σ) H' s'/\tn i s'.heap/\(∀ b∈fp,H' b=none)/\W i n H')
   ?_ m0 ⟨0,xs.map λ _=>none,_,by simp,J0,t4,λ b hb=>(f3 b hb).1.1,w0⟩ hifs
  rintro n s3 ⟨i,ys,H3,hys,K3,st3,fr3,w3⟩;rcases turn i n H3 w3 with ⟨stop,qn⟩ | ⟨go,N,hN,step⟩
  ·refine thn (T.done (b_M X scope (xs++fr.map (·.1)) { s with heap:=hp2 } (upd H s.heap.objs.size (.lst [])) fp) rfl rfl rfl hc i [] s3 _ H3 (λ _ _=>False) K3 (stat fr3) st3 stop) λ r s4 ⟨hr,K4⟩=>?_;subst hr;obtain ⟨m4,hn4,_⟩:=K4.loc;have K5:Inv X pins σ H3 s4:=I.call' K4.os (un0.trans K4.base) K4.hok K4.bare λ b hb=>let f:=hf b hb; ⟨f.2.2.2.1,f.2.1,f.2.2.2.2.1,f.2.2.2.2.2⟩
   exact hRR _ _ H3 s4 m4 hn4 K5 (I.fpOk hsz K4.free) qn
  ·refine thn (T.item (b_M X scope (xs++fr.map (·.1)) { s with heap:=hp2 } (upd H s.heap.objs.size (.lst [])) fp) rfl rfl rfl hc i [] s3 _ H3 (λ _ _=>False) K3 (stat fr3) st3 go) λ r s4 ⟨u,hr,h4⟩=>?_;subst hr;refine thn h4 λ _ s5 ⟨y,H5,K5,r5,y5,st5,fr5⟩=>?_;have K5':=K5.pinned (stat fr5) (T.obj _ _ st5);refine thn (hg _ _ _ (esc _ _ _) _ s5 _ H5 y u _ K5' r5 (step ys y H5 hys y5)) λ _ s6 ⟨σ6,H6,K6,⟨ys6,hl6,e6⟩,q6⟩=>?_;subst e6;have fin:∀ (s8:Shared) (H8:Hp),Inv (b_M X scope (xs++fr.map (·.1)) { s with heap:=hp2 } (upd H s.heap.objs.size (.lst [])) fp) ([]++h_V fp s5.heap) (ys6++d_F fr σ) H8 s8->N H8 ->
     ∃ m,m < n/\∃ i,∃ ys:St,∃ H',ys.length=xs.length/\Inv (b_M X scope (xs++fr.map (·.1)) { s with heap:=hp2 } (upd H s.heap.objs.size (.lst [])) fp) [] (ys++d_F fr σ) H' s8/\tn i s8.heap/\(∀ b∈fp,H' b=none)/\W i m H':=by
    intro s8 H8 K8 n8;obtain ⟨m',hm,w8⟩:=hN H8 n8;refine ⟨m',hm,i+1,ys6,H8,hl6,K8.unpinned,T.keep _ _ _ st5 λ b hb o e=>(K8.pin (b,o) (zZ _ (zZ _ (e_H hb e)))).1,λ b hb=>?_,w8⟩;obtain ⟨o,e,d⟩:=T.obj _ _ st5 b hb;exact (K8.pin (b,o) (zZ _ (zZ _ (e_H hb e)))).2.1
   have h7:=he _ _ _ (esc _ _ _) _ s6 _ H6 _ K6 q6;have mono:∀ {Q Q':Option Value->Shared->Prop} {E:Value->Shared->Prop} {s':Shared} {env:Env},(∀ o s1,Q o s1->Q' o s1)->i_g elt ifs env (model X.prog X.w) X.A Q E s'->i_g elt ifs env (model X.prog X.w) X.A Q' E s':=by
    intro Q Q' E s' env hq ht;unfold i_g at ht ⊢
    match ifs,hifs,ht with
    | [],_,ht=>exact zC ht (λ x s1 q=>hq _ _ q) λ _ _ e=>e
    | [c],_,ht =>
     refine zC ht (λ b s1 q=>?_) λ _ _ e=>e;split at q
     ·rename_i hb; rw [if_pos hb]; exact zC q (λ x s2 q=>hq _ _ q) λ _ _ e=>e
     ·rename_i hb; rw [if_neg hb]; exact hq _ _ q
    | _ :: _ :: _,hifs,_=>exact yJ hifs (by simp)
   refine mono (λ o s7 ⟨z7,H7,K7,r7,q7⟩=>?_) h7;cases o with
   | none =>
    cases z7 with
    | none=>exact fin s7 H7 K7 q7
    | some z=>exact r7.elim
   | some v7 =>
    cases z7 with
    | none=>exact r7.elim
    | some z7 =>
     obtain ⟨zs,hz,hl,w7⟩:=q7;exact thn (f_L _ s7 _ H7 (.ref s.heap.objs.size) [z7] (.ref s.heap.objs.size) [v7] (λ _ H8=>N H8) K7 rfl (.cons r7 .nil) ⟨_,zs,z7,rfl,rfl,hz,hl,w7⟩) λ _ s8 ⟨_,H8,K8,_,n8⟩=>fin s8 H8 K8 n8
 exact codeAny_compStart_list loop (T.self _ 0 _ _ _ t4 loop)
variable {wi:TI}
theorem b_L {pos:Pos} (c:d_C X sc scope xs fr) (hc:X.calm=true) (hi:PI X tg iter wi)
  (hg:∀ (s₃:Shared) (H₃:Hp) (fp:List Addr),(b_M X scope (xs++fr.map (·.1)) s₃ H₃ fp).env.scope=h_A sc scope->PG (b_M X scope (xs++fr.map (·.1)) s₃ H₃ fp) tg g)
  (he:∀ (s₃:Shared) (H₃:Hp) (fp:List Addr),(b_M X scope (xs++fr.map (·.1)) s₃ H₃ fp).env.scope=h_A sc scope->POx (b_M X scope (xs++fr.map (·.1)) s₃ H₃ fp) elt ifs tt)
  (hifs:ifs.length<=1:=by exact Nat.le_of_ble_eq_true rfl) (hs:∀ x,foldedSetIterable iter X.env x=pure x:=by intro _; rfl):PE X (.ListComp elt [⟨tg,iter,ifs,0⟩] scope pos) (e_p wi g tt xs.length fr):=by
 intro pins s σ H Q I h;rw [eval_ListComp];refine wpAny_comprehension_free (use:=none) rfl hs (i_f (c.cells I)) c.kind c.loc (thn (hi pins s σ H _ I h) λ v s1 h1=>thn h1 λ itv s2 h2=>?_);obtain ⟨it,fp,tn,J,H2,e,I2,T,t2,f2,hw⟩:=h2;subst e;refine i_h (RR:=λ acc C=>compPost (model X.prog X.w) X.A X.xe none (EP X pins σ Q) acc C) c hc hifs I2 T t2 f2 hg he hw ?_;intro a C H' s' m hn K f q;exact ⟨m,hn,λ h' hs'=>⟨.ref a,H',K.turned (t':=s'.toks) (λ b o hb e=>(hs'.2 b hb).trans e) f.1 f.2.1 f.2.2.2.1 f.2.2.2.2.1 f.2.2.2.2.2,rfl,q⟩⟩
theorem g_r {pos spos py:Pos} {y:Str} {i:Nat} (c:d_C X sc scope xs fr) (hc:X.calm=true) (hN:X.N.Nodup) (hy:X.N[i]?=some y) (hl:X.env.scope.names.lookup y=some .local) (hi:PI X tg iter wi)
  (hg:∀ (s₃:Shared) (H₃:Hp) (fp:List Addr),(b_M X scope (xs++fr.map (·.1)) s₃ H₃ fp).env.scope=h_A sc scope->PG (b_M X scope (xs++fr.map (·.1)) s₃ H₃ fp) tg g)
  (he:∀ (s₃:Shared) (H₃:Hp) (fp:List Addr),(b_M X scope (xs++fr.map (·.1)) s₃ H₃ fp).env.scope=h_A sc scope->POx (b_M X scope (xs++fr.map (·.1)) s₃ H₃ fp) elt ifs tt)
  (hsw:swapsWith (.ListComp elt [⟨tg,iter,ifs,0⟩] scope pos) (some (.Name y py)) spos.line X.env=pure true:=by rfl)
  (hifs:ifs.length<=1:=by exact Nat.le_of_ble_eq_true rfl) (hs:∀ x,foldedSetIterable iter X.env x=pure x:=by intro _; rfl):PS X (.Assign [.Name y py] (.ListComp elt [⟨tg,iter,ifs,0⟩] scope pos) spos) (u_S i (e_p wi g tt xs.length fr)):=by
 intro pins s σ H D I h;rw [exec_Assign_Name_used _ _ _ _ hsw];refine zA (wpAny_standAt (zA ?_));show wpAny _ _ (do let _ ← comprehension (.ListComp elt [⟨tg,iter,ifs,0⟩] scope pos) scope X.env _ (newList []) false (eval iter X.env) (some (assign (.Name y py) X.env))) _ _ s;refine zA (zC (wpAny_comprehension_free (use:=some (assign (.Name y py) X.env)) (Q:=λ _ s'=>SP X pins D .next s') rfl hs (i_f (c.cells I)) c.kind c.loc
  (thn (hi pins s σ H _ I h) λ v s1 h1=>thn h1 λ itv s2 h2=>?_)) (λ _ s' hq=>zB (zB hq)) λ _ _ e=>e)
 obtain ⟨it,fp,tn,J,H2,e,I2,T,t2,f2,hw⟩:=h2;subst e;refine i_h (RR:=λ acc C=>compPost (model X.prog X.w) X.A X.xe (some (assign (.Name y py) X.env)) (λ _ s'=>SP X pins D .next s') acc C) (Q:=λ v H1=>D.nx (σ.set i (some v)) H1) c hc hifs I2 T t2 f2 hg he hw ?_;intro a C H' s' m hn K f q;show wpAny _ _ (assign (.Name y py) X.env (.ref a)) _ _ _;refine wpAny_assign_Name (i_X K hN hy (.inl hl) (show RelV (.ref a) (.ref a) from rfl) (λ s'' K2 ⟨b,sb,hb⟩=>?_) (.inr hl));have hCb:C≠b:=by
  rcases hb with e | e
  ·rw [e]; exact f.2.1
  ·exact Ne.symm (f.2.2.2.2.1 y b e)
 refine ⟨m,hn.sameBut sb hCb,λ h' hs'=>?_⟩;exact ⟨_,H',K2.turned (t':=s''.toks) (λ b o hb e=>(hs'.2 b hb).trans e) f.1 f.2.1 f.2.2.2.1 f.2.2.2.2.1 f.2.2.2.2.2,q⟩
end
noncomputable def r_m (sc:Scope) (N:List Str) (scope:Scope) (fr:List (Str × Nat)):Bool :=
 decide (scope.kind=.function) && decide ((scope.names.map (·.1)).Nodup) && decide (∀ y∈scope.names,y.2=.free->sc.names.lookup y.1=some .cell\/sc.names.lookup y.1=some .free) &&
 decide (∀ y∈scope.names,y.2=.local->scope.names.lookup y.1=some .local) && decide (∀ p∈fr,N[p.2]?=some p.1/\scope.names.lookup p.1=some .free)
theorem b_D {X:Cx} {sc scope:Scope} {N xs:List Str} {fr:List (Str × Nat)} (h1:X.env.scope=sc) (h2:X.N=N) (h:r_m sc N scope fr=true):d_C X sc scope xs fr:=by
 unfold r_m at h;simp only [Bool.and_eq_true,decide_eq_true_eq] at h;obtain ⟨⟨⟨⟨e1,e2⟩,e3⟩,e4⟩,e5⟩:=h;subst h2;exact ⟨h1,e1,e2,e3,e4,e5⟩
noncomputable def u_V (sc:Scope) (N:List Str) (i:Nat) (x:Str):Bool:=decide (N.Nodup) && decide (N[i]?=some x) && (decide (sc.names.lookup x=some .local))
theorem b_T {X:Cx} {sc:Scope} {N:List Str} {i:Nat} {x:Str} {pos:Pos} (h1:X.env.scope=sc) (h2:X.N=N) (h:u_V sc N i x=true):PG X (.Name x pos) (a_T i):=by
 unfold u_V at h;simp only [Bool.and_eq_true,decide_eq_true_eq] at h;subst h1 h2;exact b_R h.1.1 h.1.2 (.inl h.2) (.inr h.2)
theorem j_R {X:Cx} {sc:Scope} {N:List Str} {i:Nat} {x:Str} {pos:Pos} (h1:X.env.scope=sc) (h2:X.N=N) (h:(decide (N.Nodup) && decide (N[i]?=some x) && (decide (sc.names.lookup x=some .cell)))=true) (hf:X.fn x=true):PG X (.Name x pos) (a_T i):=by
 simp only [Bool.and_eq_true,decide_eq_true_eq] at h;subst h1 h2;exact b_R h.1.1 h.1.2 (.inr h.2) (.inl hf)
noncomputable def SqB (b:Bool) (K:Frag) (H:Hp) (a:Addr) (xs:List V):Prop:=match b with | false=>SqL K H a xs | true=>SqT K H a xs
noncomputable def ItB (b:Bool) (h:Heap) (it a:Addr) (i:Nat):Prop:=match b with | false=>h.IsListIter it a i | true=>h.IsTupleIter it a i
noncomputable def seqB (b:Bool) (h:Heap) (a:Addr) (its:Array Value):Prop:=match b with | false=>h.IsList a its | true=>h.IsTuple a its
noncomputable def nmB (b:Bool):String:=match b with | false => "list_iterator" | true => "tuple_iterator"
theorem ItB.at {b:Bool} {h h':Heap} {it a:Addr} {i:Nat} (x:ItB b h it a i) (e:∀ o,h.get? it=some o->h'.get? it=some o):ItB b h' it a i:=by
 cases b
 ·exact Heap.IsListIter.at x e
 ·exact Heap.IsTupleIter.at x e
theorem seqB.at {b:Bool} {h h':Heap} {a:Addr} {its:Array Value} (x:seqB b h a its) (e:∀ o,h.get? a=some o->h'.get? a=some o):seqB b h' a its:=by
 cases b
 ·exact Heap.IsList.at x e
 ·obtain ⟨o,ho,r⟩:=x;exact ⟨o,e o ho,r⟩
theorem ItB.lt {b:Bool} {h:Heap} {it a:Addr} {i:Nat} (x:ItB b h it a i):∃ o,h.get? it=some o/\∀ v,o.data≠.cell v:=by
 cases b
 ·obtain ⟨o,e,c,d⟩:=x;exact ⟨o,e,λ v z=>by rw [d] at z; cases z⟩
 ·obtain ⟨o,e,c,d⟩:=x;exact ⟨o,e,λ v z=>by rw [d] at z; cases z⟩
section
variable {prog:Program} {w:World} {A:Around} {E:Value->Shared->Prop} {s:Shared}
theorem m_U {it t:Addr} {i:Nat} {items} {x:Value} {Q:Value->Shared->Prop} (hit:s.heap.IsTupleIter it t i) (ht:s.heap.IsTuple t items) (hx:items[i]?=some x)
  (hQ:∀ h',h'.IsTupleIter it t (i+1)->Heap.SameBut it s.heap h'->Q x { s with heap:=h' }):wpAny (model prog w) A (Builtin.SmallTypes.nextOf (.ref it)) Q E s:=by
 obtain ⟨o,ho,hc,hd⟩:=id hit;obtain ⟨ol,hol,_,nl,hdl⟩:=ht;unfold Builtin.SmallTypes.nextOf;refine zA (wpAny_callSpecial?_slot (name:=Str.ofString "__next__") hit.typeIs F.slot_tuple_iterator_next
  (wpAny_call_entry F.slot_tuple_iterator_next hit.typeIs F.entry_tuple_iterator_next ?_ (F.args_tuple_iterator_next_1 _)))
 show wpAny _ _ (field (.ref it) 0 >>= _) _ _ s;refine zA (wpAny_field ho hd (x:=.ref t) rfl ?_);show wpAny _ _ (if (Value.ref t == Value.none)=true then _ else _) _ _ s;rw [if_neg (show ¬ ((Value.ref t == Value.none)=true) from zV)];show wpAny _ _ (field (.ref it) 1 >>= _) _ _ s;refine zA (wpAny_field ho hd (x:=.int i 0) rfl ?_);show wpAny _ _ (seqItems? (.ref t) >>= _) _ _ s;refine zA (wpAny_seqItems hol hdl ?_);simp only [zR,hx];refine zA (wpAny_setField ho hd (by simp) (zB ⟨x,rfl,zB (hQ _ ?_ (Heap.SameBut.update ..))⟩));exact ⟨_,Heap.get?_update_self _ ho (Obj.isFreed_of_fields (Obj.data_mapFields hd _)),(Obj.cls_mapFields ..).trans hc,by
  rw [Obj.data_mapFields hd]; simp [rawInt]⟩
theorem p_t {it t:Addr} {i:Nat} {items} {Q:Value->Shared->Prop} (hh:A.handled=none) (hit:s.heap.IsTupleIter it t i) (ht:s.heap.IsTuple t items) (hx:items[i]?=none)
  (hE:∀ h' e,Heap.ExtBut it s.heap h'->(∃ o,h'.get? e=some o/\o.cls=.type "StopIteration")->E (.ref e) { s with heap:=h' }):wpAny (model prog w) A (Builtin.SmallTypes.nextOf (.ref it)) Q E s:=by
 obtain ⟨o,ho,hc,hd⟩:=id hit;obtain ⟨ol,hol,_,nl,hdl⟩:=ht;unfold Builtin.SmallTypes.nextOf;refine zA (wpAny_callSpecial?_slot (name:=Str.ofString "__next__") hit.typeIs F.slot_tuple_iterator_next
  (wpAny_call_entry F.slot_tuple_iterator_next hit.typeIs F.entry_tuple_iterator_next ?_ (F.args_tuple_iterator_next_1 _)))
 show wpAny _ _ (field (.ref it) 0 >>= _) _ _ s;refine zA (wpAny_field ho hd (x:=.ref t) rfl ?_);show wpAny _ _ (if (Value.ref t == Value.none)=true then _ else _) _ _ s;rw [if_neg (show ¬ ((Value.ref t == Value.none)=true) from zV)];show wpAny _ _ (field (.ref it) 1 >>= _) _ _ s;refine zA (wpAny_field ho hd (x:=.int i 0) rfl ?_);show wpAny _ _ (seqItems? (.ref t) >>= _) _ _ s;refine zA (wpAny_seqItems hol hdl ?_);simp only [zR,hx];refine zA (wpAny_rule (zA (wpAny_setField ho hd (by simp) ?_)));show wpAny _ _ (newExc (.type "StopIteration") [] >>= _) _ _ _;refine zA ?_;simp only [newExc,newTuple];refine zA (wpAny_newObj_type ?_ (by size_fits));refine zA (m:=firstArgMember _ _) (wpAny_of_eq (a:=Value.none) (by first | rfl | (simp only [firstArgMember]; rfl)) ?_);refine wpAny_newObj_type ?_ (by size_fits);simp only [raiseNew];refine zA (wpAny_handled ?_)
 first | rw [show A.in1.handled=none from hh] | rw [hh]
 refine zA (zB (wpAny_throw ?_));exact hE _ _ (((Heap.SameBut.update ..).extBut.push _).push _) ⟨_,zF _ rfl,rfl⟩
theorem e_J {b:Bool} {it l:Addr} {i:Nat} {items:Array Value} {x:Value} {Q:Value->Shared->Prop} (hit:ItB b s.heap it l i) (hl:seqB b s.heap l items) (hx:items[i]?=some x)
  (hQ:∀ h',ItB b h' it l (i+1)->Heap.SameBut it s.heap h'->Q x { s with heap:=h' }):wpAny (model prog w) A (Builtin.SmallTypes.nextOf (.ref it)) Q E s:=by
 cases b
 ·exact wpAny_nextOf_list_item hit hl hx hQ
 ·exact m_U hit hl hx hQ
theorem g_Q {b:Bool} {it l:Addr} {i:Nat} {items:Array Value} {Q:Value->Shared->Prop} (hh:A.handled=none) (hit:ItB b s.heap it l i) (hl:seqB b s.heap l items) (hx:items[i]?=none)
  (hE:∀ h' e,Heap.ExtBut it s.heap h'->(∃ o,h'.get? e=some o/\o.cls=.type "StopIteration")->E (.ref e) { s with heap:=h' }):wpAny (model prog w) A (Builtin.SmallTypes.nextOf (.ref it)) Q E s:=by
 cases b
 ·exact wpAny_nextOf_list_end hh hit hl hx hE
 ·exact p_t hh hit hl hx hE
theorem u_W {b:Bool} {l:Addr} {items:Array Value} {Q:Value->Shared->Prop} (hl:seqB b s.heap l items)
  (hQ:Q (.ref s.heap.objs.size) { s with heap:=s.heap.push { cls:=.type (nmB b),data:=.fields #[.ref l,.int 0 0] } }):wpAny (model prog w) A (pyIter (.ref l)) Q E s:=by
 cases b
 ·exact wpAny_pyIter_list hl hQ
 ·exact wpAny_pyIter_tuple hl hQ
theorem j_k {b:Bool} {h:Heap} {l:Addr}:ItB b (h.push { cls:=.type (nmB b),data:=.fields #[.ref l,.int 0 0] }) h.objs.size l 0:=by
 cases b
 ·exact ⟨_,zF _ rfl,rfl,rfl⟩
 ·exact ⟨_,zF _ rfl,rfl,rfl⟩
theorem r_n (b:Bool) (hh:A.handled=none) (it l:Addr) (hne:l≠it) (items:Array Value) :
  Draws prog w A it [it,l] items.size (λ i v=>items[i]?=some v) (λ i h=>ItB b h it l i/\seqB b h l items) where
 live:=λ _ _ st=>let ⟨o,ho,_⟩:=st.1.lt; ⟨o,ho⟩
 frame:=λ _ _ _ st hk=>⟨st.1.at λ o e=>hk it (by simp) o e,st.2.at λ o e=>hk l (by simp) o e⟩
 item:=λ i s Q E hi st hQ=>by
  refine e_J st.1 st.2 (x:=items[i]) (by simp [hi]) λ h' hit' hs'=>?_;exact hQ _ h' s.toks (by simp [hi]) ⟨hit',st.2.at λ o e=>(hs'.2 l hne).trans e⟩ hs'
 done:=λ s Q E st hE=>g_Q hh st.1 st.2 (by simp) hE
theorem p_u {b1 b2:Bool} {z TI TO i1 i2 l1 l2:Addr} {k1 k2:Nat} {xs ys:Array Value} {x y a b:Value} {Q:Option Value->Shared->Prop} (D:ZipApart z TI TO i1 i2 l1 l2)
  (hz:IsZip s.heap z TI TO .none) (hTI:IsPair s.heap TI (.ref i1) (.ref i2)) (hTO:IsPair s.heap TO a b)
  (h1:ItB b1 s.heap i1 l1 k1) (h2:ItB b2 s.heap i2 l2 k2) (hl1:seqB b1 s.heap l1 xs) (hl2:seqB b2 s.heap l2 ys) (hx:xs[k1]?=some x) (hy:ys[k2]?=some y)
  (hQ:∀ h',IsZip h' z TI TO (rawInt s.heap.objs.size)->IsPair h' TO x y->ItB b1 h' i1 l1 (k1+1)->ItB b2 h' i2 l2 (k2+1)->IsPair h' s.heap.objs.size x y->h'.objs.size=s.heap.objs.size+1 ->
   (∀ c o,c≠z->c≠TO->c≠i1->c≠i2->s.heap.get? c=some o->h'.get? c=some o)->Q (some (.ref s.heap.objs.size)) { s with heap:=h' }) :
  wpAny (model prog w) A (pyNext (.ref z)) Q E s:=by
 have hT:s.TypeIs (.ref z) "zip" := ⟨_,hz,rfl⟩;unfold pyNext;refine zA (wpAny_attempt (wpAny_callSpecial?_slot (name:=Str.ofString "__next__") hT F.slot_zip_next (wpAny_call_entry F.slot_zip_next hT F.entry_zip_next ?_ (F.args_zip_next_1 _))));show wpAny _ _ (field (.ref z) 2 >>= _) _ _ _;refine zA (wpAny_field hz rfl (x:=.bool false) rfl ?_);show wpAny _ _ (field (.ref z) 3 >>= _) _ _ _;refine zA (wpAny_field hz rfl (x:=.ref TI) rfl ?_);refine zA (wpAny_seqItems hTI rfl ?_);show wpAny _ _ (Builtin.SmallTypes.ownedTupleIsFree (.ref z) >>= _) _ _ _;refine zA ?_;unfold Builtin.SmallTypes.ownedTupleIsFree;refine zA (wpAny_field hz rfl (x:=.none) rfl (zB ?_));simp only [if_true];refine zA (wpAny_rule ?_);refine zA (wpAny_field hz rfl (x:=.ref TO) rfl ?_);refine zA (wpAny_setField_rec hz (by simp) λ h₁ hz₁ hs₁=>?_);replace hz₁:IsZip h₁ z TI TO .ellipsis:=hz₁;refine zA ?_;simp only [List.zipIdx_cons,List.zipIdx_nil,List.forIn_cons,List.forIn_nil];refine zA (zA (wpAny_onRaise ?_));show wpAny _ _ (Builtin.SmallTypes.nextOf (.ref i1) >>= _) _ _ _;refine zA (e_J (h1.at λ o e=>hs₁.extBut _ _ D.i1z e) (hl1.at λ o e=>hs₁.extBut _ _ D.l1z e) hx λ h₂ h1₂ hs₂=>zB ?_);have hTO₂:IsPair h₂ TO a b:=hs₂.extBut _ _ D.TOi1 (hs₁.extBut _ _ D.TOz hTO);refine zA (wpAny_seqItems hTO₂ rfl ?_);refine zA (wpAny_updateSeq_pair hTO₂ λ h₃ hTO₃ hs₃=>?_);replace hTO₃:IsPair h₃ TO x b:=hTO₃;refine zA (wpAny_letGo (zB ?_));refine zA (zA (wpAny_onRaise ?_));show wpAny _ _ (Builtin.SmallTypes.nextOf (.ref i2) >>= _) _ _ _;refine zA (e_J (h2.at λ o e=>hs₃.extBut _ _ D.TOi2.symm (hs₂.extBut _ _ D.i12.symm (hs₁.extBut _ _ D.i2z e)))
  (hl2.at λ o e=>hs₃.extBut _ _ D.l2TO (hs₂.extBut _ _ D.l2i1 (hs₁.extBut _ _ D.l2z e))) hy λ h₄ h2₄ hs₄=>zB ?_)
 have hTO₄:IsPair h₄ TO x b:=hs₄.extBut _ _ D.TOi2 hTO₃;refine zA (wpAny_seqItems hTO₄ rfl ?_);refine zA (wpAny_updateSeq_pair hTO₄ λ h₅ hTO₅ hs₅=>?_);replace hTO₅:IsPair h₅ TO x y:=hTO₅;refine zA (wpAny_letGo (zB (zB ?_)));refine zA (wpAny_seqItems hTO₅ rfl ?_);refine zA (wpAny_newTuple ?_);have hsz:h₅.objs.size=s.heap.objs.size:=by rw [hs₅.1,hs₄.1,hs₃.1,hs₂.1,hs₁.1]
 have hz₅:IsZip h₅ z TI TO .ellipsis:=hs₅.extBut _ _ D.TOz.symm (hs₄.extBut _ _ D.i2z.symm (hs₃.extBut _ _ D.TOz.symm (hs₂.extBut _ _ D.i1z.symm hz₁)));have hk₅:∀ c o,c≠z->c≠TO->c≠i1->c≠i2->s.heap.get? c=some o->h₅.get? c=some o:=λ c o c1 c2 c3 c4 e =>
  hs₅.extBut _ _ c2 (hs₄.extBut _ _ c4 (hs₃.extBut _ _ c2 (hs₂.extBut _ _ c3 (hs₁.extBut _ _ c1 e))))
 have h1₅:ItB b1 h₅ i1 l1 (k1+1):=h1₂.at λ o e=>hs₅.extBut _ _ D.TOi1.symm (hs₄.extBut _ _ D.i12 (hs₃.extBut _ _ D.TOi1.symm e));have h2₅:ItB b2 h₅ i2 l2 (k2+1):=h2₄.at λ o e=>hs₅.extBut _ _ D.TOi2.symm e;have hzlt:z < h₅.objs.size:=zE hz₅;show wpAny _ _ (Builtin.SmallTypes.ownedTupleHandOut (.ref z) (.ref h₅.objs.size) >>= _) _ _ _;refine zA ?_;unfold Builtin.SmallTypes.ownedTupleHandOut;have hz₆:IsZip (h₅.push { cls:=.type "tuple",data:=.seq #[x,y] }) z TI TO .ellipsis:=zD _ hz₅;refine zA (wpAny_setField_rec hz₆ (by simp) λ h₇ hz₇ hs₇=>?_);replace hz₇:IsZip h₇ z TI TO (rawInt h₅.objs.size):=hz₇;refine wpAny_setField_rec hz₇ (by simp) λ h₈ hz₈ hs₈=>?_;replace hz₈:IsZip h₈ z TI TO (rawInt h₅.objs.size):=hz₈;have up:∀ c o,c≠z->h₅.get? c=some o->h₈.get? c=some o:=λ c o c1 e=>hs₈.extBut _ _ c1 (hs₇.extBut _ _ c1 (zD _ e));have hT₈:IsPair h₈ h₅.objs.size x y:=hs₈.extBut _ _ (Nat.ne_of_gt hzlt) (hs₇.extBut _ _ (Nat.ne_of_gt hzlt) (zF _ rfl));have hz8:h₈.objs.size=h₅.objs.size+1:=by rw [hs₈.1,hs₇.1,Heap.size_push]
 rw [hsz] at hz₈ hT₈ hz8;refine zB ⟨_,rfl,zB ?_⟩;show Q (some (.ref h₅.objs.size)) _;rw [hsz];exact hQ h₈ hz₈ (up _ _ D.TOz hTO₅) (h1₅.at λ o e=>up _ o D.i1z e) (h2₅.at λ o e=>up _ o D.i2z e) hT₈ hz8 λ c o c1 c2 c3 c4 e=>up c o c1 (hk₅ c o c1 c2 c3 c4 e)
theorem r_o {b1 b2:Bool} {z TI TO i1 i2 l1 l2:Addr} {k1 k2:Nat} {xs ys:Array Value} {a b:Value} {Q:Option Value->Shared->Prop} (hh:A.handled=none) (D:ZipApart z TI TO i1 i2 l1 l2)
  (hz:IsZip s.heap z TI TO .none) (hTI:IsPair s.heap TI (.ref i1) (.ref i2)) (hTO:IsPair s.heap TO a b)
  (h1:ItB b1 s.heap i1 l1 k1) (h2:ItB b2 s.heap i2 l2 k2) (hl1:seqB b1 s.heap l1 xs) (hl2:seqB b2 s.heap l2 ys) (hend:xs[k1]?=none\/ys[k2]?=none)
  (hQ:∀ h',(∀ c o,c≠z->c≠TO->c≠i1->c≠i2->s.heap.get? c=some o->h'.get? c=some o)->Q none { s with heap:=h' }):wpAny (model prog w) A (pyNext (.ref z)) Q E s:=by
 have hT:s.TypeIs (.ref z) "zip" := ⟨_,hz,rfl⟩;unfold pyNext;refine zA (wpAny_attempt (wpAny_callSpecial?_slot (name:=Str.ofString "__next__") hT F.slot_zip_next (wpAny_call_entry F.slot_zip_next hT F.entry_zip_next (Q:=_) ?_ (F.args_zip_next_1 _))));show wpAny _ _ (field (.ref z) 2 >>= _) _ _ _;refine zA (wpAny_field hz rfl (x:=.bool false) rfl ?_);show wpAny _ _ (field (.ref z) 3 >>= _) _ _ _;refine zA (wpAny_field hz rfl (x:=.ref TI) rfl ?_);refine zA (wpAny_seqItems hTI rfl ?_);show wpAny _ _ (Builtin.SmallTypes.ownedTupleIsFree (.ref z) >>= _) _ _ _;refine zA ?_;unfold Builtin.SmallTypes.ownedTupleIsFree;refine zA (wpAny_field hz rfl (x:=.none) rfl (zB ?_));simp only [if_true];refine zA (wpAny_rule ?_);refine zA (wpAny_field hz rfl (x:=.ref TO) rfl ?_);refine zA (wpAny_setField_rec hz (by simp) λ h₁ hz₁ hs₁=>?_);replace hz₁:IsZip h₁ z TI TO .ellipsis:=hz₁;refine zA ?_;simp only [List.zipIdx_cons,List.zipIdx_nil,List.forIn_cons,List.forIn_nil];refine zA (zA (wpAny_onRaise ?_));show wpAny _ _ (Builtin.SmallTypes.nextOf (.ref i1) >>= _) _ _ _;cases hx:xs[k1]? with
 | none =>
  refine zA (g_Q hh (h1.at λ o e=>hs₁.extBut _ _ D.i1z e) (hl1.at λ o e=>hs₁.extBut _ _ D.l1z e) hx λ h₂ e hs₂ he=>?_);obtain ⟨oe,hoe,hce⟩:=he;have hz₂:IsZip h₂ z TI TO .ellipsis:=hs₂ _ _ D.i1z.symm hz₁;have hez:e≠z:=λ x=>by subst x; rw [hz₂] at hoe; cases hoe; simp at hce
  refine wpAny_setField_rec hz₂ (by simp) λ h₃ _ hs₃=>?_;refine zA (wpAny_isInstance (T := "StopIteration") (b:=true) ⟨oe,hs₃.extBut _ _ hez hoe,hce⟩ isSubtype_stop ?_);exact zB (hQ h₃ λ c o c1 _ c3 _ x=>hs₃.extBut _ _ c1 (hs₂ _ _ c3 (hs₁.extBut _ _ c1 x)))
 | some x =>
  have hy:ys[k2]?=none:=by rcases hend with h | h; rw [hx] at h; cases h; exact h
  refine zA (e_J (h1.at λ o e=>hs₁.extBut _ _ D.i1z e) (hl1.at λ o e=>hs₁.extBut _ _ D.l1z e) hx λ h₂ h1₂ hs₂=>zB ?_);have hTO₂:IsPair h₂ TO a b:=hs₂.extBut _ _ D.TOi1 (hs₁.extBut _ _ D.TOz hTO);refine zA (wpAny_seqItems hTO₂ rfl ?_);refine zA (wpAny_updateSeq_pair hTO₂ λ h₃ hTO₃ hs₃=>?_);refine zA (wpAny_letGo (zB ?_));refine zA (zA (wpAny_onRaise ?_));show wpAny _ _ (Builtin.SmallTypes.nextOf (.ref i2) >>= _) _ _ _;refine zA (g_Q hh (h2.at λ o e=>hs₃.extBut _ _ D.TOi2.symm (hs₂.extBut _ _ D.i12.symm (hs₁.extBut _ _ D.i2z e)))
   (hl2.at λ o e=>hs₃.extBut _ _ D.l2TO (hs₂.extBut _ _ D.l2i1 (hs₁.extBut _ _ D.l2z e))) hy λ h₄ e hs₄ he=>?_)
  obtain ⟨oe,hoe,hce⟩:=he;have hz₄:IsZip h₄ z TI TO .ellipsis:=hs₄ _ _ D.i2z.symm (hs₃.extBut _ _ D.TOz.symm (hs₂.extBut _ _ D.i1z.symm hz₁));have hez:e≠z:=λ x=>by subst x; rw [hz₄] at hoe; cases hoe; simp at hce
  refine wpAny_setField_rec hz₄ (by simp) λ h₅ _ hs₅=>?_;refine zA (wpAny_isInstance (T := "StopIteration") (b:=true) ⟨oe,hs₅.extBut _ _ hez hoe,hce⟩ isSubtype_stop ?_);exact zB (hQ h₅ λ c o c1 c2 c3 c4 x=>hs₅.extBut _ _ c1 (hs₄ _ _ c4 (hs₃.extBut _ _ c2 (hs₂.extBut _ _ c3 (hs₁.extBut _ _ c1 x)))))
end
noncomputable abbrev zB1 (b1:Bool) (h:Heap) (l1:Addr):Heap:=h.push { cls:=.type (nmB b1),data:=.fields #[.ref l1,.int 0 0] }
noncomputable abbrev zB2 (b1 b2:Bool) (h:Heap) (l1 l2:Addr):Heap:=(zB1 b1 h l1).push { cls:=.type (nmB b2),data:=.fields #[.ref l2,.int 0 0] }
noncomputable abbrev zB3 (b1 b2:Bool) (h:Heap) (l1 l2:Addr):Heap:=(zB2 b1 b2 h l1 l2).push { cls:=.type "tuple",data:=.seq #[.ref h.objs.size,.ref (zB1 b1 h l1).objs.size] }
noncomputable abbrev zB4 (b1 b2:Bool) (h:Heap) (l1 l2:Addr):Heap:=(zB3 b1 b2 h l1 l2).push { cls:=.type "tuple",data:=.seq #[.none,.none] }
noncomputable abbrev zB5 (b1 b2:Bool) (h:Heap) (l1 l2:Addr):Heap:=(zB4 b1 b2 h l1 l2).push { cls:=.type "zip",data:=.fields #[.none,.bool false,.bool false,.ref (zB2 b1 b2 h l1 l2).objs.size,.ref (zB3 b1 b2 h l1 l2).objs.size] }
theorem m_V (b1 b2:Bool) (l1 l2:Addr) (xs ys:Array Value) :
  Meets (Builtin.«zip.__new__» ⟨[.type "zip",.ref l1,.ref l2],[]⟩) (λ _ R s=>seqB b1 s.heap l1 xs/\seqB b2 s.heap l2 ys /\
   R (.ok (.ret (.ref (zB4 b1 b2 s.heap l1 l2).objs.size))) { s with heap:=zB5 b1 b2 s.heap l1 l2 }) :=
 .of_wp λ prog w A R s h=>by
  obtain ⟨hp,g,d,tk,os⟩:=s; obtain ⟨hl1,hl2,h⟩:=h;have hsub:=sub_zip;have hL1:seqB b1 (Shared.heap ⟨hp,g,d,tk,os⟩) l1 xs:=hl1;have hL2:seqB b2 (Shared.heap ⟨hp.push { cls:=.type (nmB b1),data:=.fields #[.ref l1,.int 0 0] },g,d,tk,os⟩) l2 ys:=hl2.at λ o e=>zD _ e
  wp_walk using u_W hL1,u_W hL2
  exact ⟨_,rfl,h⟩
theorem p_v {prog:Program} {w:World} {A:Around} {E:Value->Shared->Prop} {s:Shared} {b1 b2:Bool} {l1 l2:Addr} {xs ys:Array Value} {Q:Value->Shared->Prop} (hl1:seqB b1 s.heap l1 xs) (hl2:seqB b2 s.heap l2 ys)
  (h:∀ h',IsZip h' (s.heap.objs.size+4) (s.heap.objs.size+2) (s.heap.objs.size+3) .none->IsPair h' (s.heap.objs.size+2) (.ref s.heap.objs.size) (.ref (s.heap.objs.size+1)) ->
   IsPair h' (s.heap.objs.size+3) .none .none->ItB b1 h' s.heap.objs.size l1 0->ItB b2 h' (s.heap.objs.size+1) l2 0 ->
   (∀ c o,s.heap.get? c=some o->h'.get? c=some o)->Q (.ref (s.heap.objs.size+4)) { s with heap:=h' }) :
  wpAny (model prog w) A (call (.type "zip") [.ref l1,.ref l2]) Q E s:=by
 refine callType_new F.called_zip (by decide) (F.typeCall_zip_2 _ _) (F.newCall_zip_2 _ _) (λ obj=>F.args_object_init_3 obj _ _) F.entry_zip_new
  (m_V b1 b2 l1 l2 xs ys) ⟨hl1,hl2,?_⟩
 have z1:(zB1 b1 s.heap l1).objs.size=s.heap.objs.size+1:=Heap.size_push ..;have z2:(zB2 b1 b2 s.heap l1 l2).objs.size=s.heap.objs.size+2:=by rw [Heap.size_push,z1]
 have z3:(zB3 b1 b2 s.heap l1 l2).objs.size=s.heap.objs.size+3:=by rw [Heap.size_push,z2]
 have z4:(zB4 b1 b2 s.heap l1 l2).objs.size=s.heap.objs.size+4:=by rw [Heap.size_push,z3]
 have g5:(zB5 b1 b2 s.heap l1 l2).get? (zB4 b1 b2 s.heap l1 l2).objs.size=some _:=zF _ rfl;have g4:(zB5 b1 b2 s.heap l1 l2).get? (zB3 b1 b2 s.heap l1 l2).objs.size=some _:=zD _ (zF _ rfl);have g3:(zB5 b1 b2 s.heap l1 l2).get? (zB2 b1 b2 s.heap l1 l2).objs.size=some _:=zD _ (zD _ (zF _ rfl));have u2:∀ c o,(zB2 b1 b2 s.heap l1 l2).get? c=some o->(zB5 b1 b2 s.heap l1 l2).get? c=some o:=λ c o e=>zD _ (zD _ (zD _ e));have g2:ItB b2 (zB5 b1 b2 s.heap l1 l2) (zB1 b1 s.heap l1).objs.size l2 0:=j_k.at λ o e=>u2 _ o e;have g1:ItB b1 (zB5 b1 b2 s.heap l1 l2) s.heap.objs.size l1 0:=j_k.at λ o e=>u2 _ o (zD _ e);show _/\_;rw [z2,z3,z4] at g5;rw [z1,z2] at g3;rw [z3] at g4;rw [z1] at g2;rw [z4];exact ⟨⟨_,g5,rfl⟩,h _ g5 g3 g4 g1 g2 λ c o x=>u2 c o (zD _ (zD _ x))⟩
section
variable {X:Cx} {pins:List (Addr × Obj)} {σ:St} {H:Hp} {s:Shared} {h':Heap}
theorem Inv.seqB {b:Bool} {a:Addr} {xs:List V} (I:Inv X pins σ H s) (h:SqB b X.K H a xs):∃ its:List Value,Vals xs its/\L2.seqB b s.heap a its.toArray:=by
 cases b
 ·obtain ⟨its,rv,p,_⟩:=I.list h;exact ⟨its,rv,p.isList⟩
 ·obtain ⟨its,rv,p,_⟩:=I.tuple h;exact ⟨its,rv,p⟩
theorem Inv.seqB_inj {b:Bool} {a:Addr} {xs ys:List V} (I:Inv X pins σ H s) (h:SqB b X.K H a xs) (h2:SqB b X.K H a ys):xs=ys:=by
 cases b
 ·exact I.list_inj h h2
 ·exact I.tuple_inj h h2
theorem Inv.seq_ne {b:Bool} {a f:Addr} {xs:List V} (I:Inv X pins σ H s) (h:SqB b X.K H a xs) (hf:FpOk X pins H f):a≠f:=by
 have rd:∀ u,Rd H a u->a≠f:=λ u r z=>by
  subst z;rcases r with r | ⟨o,r⟩ <;> (rw [hf.1] at r; cases r)
 have kk:∀ o,X.K.lookup a=some o->a≠f:=λ o e z=>by
  subst z;have q:=I.mod.kin a o e;rcases hf.2.2.2.1 with w | w
  ·exact I.ok.noex _ _ q w
  ·exact yJ (zI (zE q) (zS I.ok.bsz w)) (Nat.lt_irrefl _)
 cases b
 ·rcases h with h | ⟨o,its,n,hk,_⟩
  ·exact rd _ h
  ·exact kk _ hk
 ·rcases h with h | ⟨o,its,n,hk,_⟩
  ·exact rd _ h
  ·exact kk _ hk
theorem Inv.turnedNew {fp:List Addr} {n:Addr} {u:HO} {t':Nat} (I:Inv X pins σ H s) (hf:∀ b∈fp,FpOk X pins H b) (k:∀ b o,b ∉ fp->s.heap.get? b=some o->h'.get? b=some o) (hn:s.heap.objs.size<=n)
  (new:c_A X.prog X.w (upd H n u) h' n u):Inv X pins σ (upd H n u) { s with heap:=h',toks:=t' }:=by
 have fn:=I.hok.fresh hn;have nfp:∀ b v,H b=some v->b ∉ fp:=λ b v e z=>by rw [(hf b z).1] at e; cases e
 have nl:X.env.locals ∉ fp:=λ z=>(hf _ z).2.1 rfl;refine I.step (g':=s.gens) (d':=s.drawn) (ch:=fp) (λ b hb=>?_) (λ b o _ _ hc e _=>k b o hc e) (λ b o _ _ hc e _=>⟨o.slots,k b o hc e⟩) (λ b o _ e z=>?_)
  (λ b o hc e=>⟨o,k b o hc e⟩) (λ b xs e=>?_) (λ b o v e=>?_) (λ b ps e=>⟨#[],?_⟩) (λ m hm=>?_) (λ b v e=>?_) I.bare
 ·obtain ⟨f0,f1,f2,f3,f4,f5⟩:=hf b hb;exact ⟨f3,f1,f4,f5⟩
 ·rw [a_I (Nat.ne_of_lt (zI (zE e) hn))];exact z
 ·rw [a_I (b_z e fn)]; exact e
 ·rw [a_I (b_z e fn)]; exact e
 ·rw [a_I (b_z e fn),e]; simp
 ·obtain ⟨o,es,ep,ho,r⟩:=hm;exact ⟨o,es,ep,k _ o nl ho,r⟩
 ·by_cases hb:b=n
  ·subst hb;rw [a_F] at e;cases e;exact new
  ·rw [a_I hb] at e;refine (I.hok b v e).stay (λ c x hc q=>k c x ?_ q) (λ c q=>by rw [a_I (b_z q fn)]; exact q) λ c xs q=>by rw [a_I (b_z q fn)]; exact q
   rcases hc with z | z
   ·rw [z]; exact nfp b v e
   ·exact nfp c _ z
theorem Inv.turnedL {fp:List Addr} {t':Nat} (I:Inv X pins σ H s) (hf:∀ b∈fp,FpOk X pins H b) (k:∀ b o,b ∉ fp->s.heap.get? b=some o->h'.get? b=some o):Inv X pins σ H { s with heap:=h',toks:=t' }:=by
 have nfp:∀ b v,H b=some v->b ∉ fp:=λ b v e z=>by rw [(hf b z).1] at e; cases e
 have nl:X.env.locals ∉ fp:=λ z=>(hf _ z).2.1 rfl;refine I.step (g':=s.gens) (d':=s.drawn) (ch:=fp) (λ b hb=>?_) (λ b o _ _ hc e _=>k b o hc e) (λ b o _ _ hc e _=>⟨o.slots,k b o hc e⟩) (λ b o _ e z=>z)
  (λ b o hc e=>⟨o,k b o hc e⟩) (λ b xs e=>e) (λ b o v e=>e) (λ b ps e=>⟨#[],by rw [e]; simp⟩) (λ m hm=>?_) (λ b v e=>?_) I.bare
 ·obtain ⟨f0,f1,f2,f3,f4,f5⟩:=hf b hb;exact ⟨f3,f1,f4,f5⟩
 ·obtain ⟨o,es,ep,ho,r⟩:=hm;exact ⟨o,es,ep,k _ o nl ho,r⟩
 ·refine (I.hok b v e).stay (λ c x hc q=>k c x ?_ q) (λ c q=>q) λ c xs q=>q;rcases hc with z | z
  ·rw [z]; exact nfp b v e
  ·exact nfp c _ z
end
noncomputable def Itz (K:Frag) (b1:Bool) (l1:Addr) (b2:Bool) (l2:Addr):It :=
  ⟨λ i H=>∃ xs ys x y,SqB b1 K H l1 xs/\SqB b2 K H l2 ys/\xs[i]?=some x/\ys[i]?=some y,
   λ i H v H'=>∃ p x y,v=.ref p/\H p=none/\H'=upd H p (.tup [x,y])/\(∀ xs,SqB b1 K H l1 xs->xs[i]?=some x)/\∀ ys,SqB b2 K H l2 ys->ys[i]?=some y,
   λ i H=>∃ xs ys,SqB b1 K H l1 xs/\SqB b2 K H l2 ys/\(xs[i]?=none\/ys[i]?=none)⟩
theorem o_o {xs:List V} {its:List Value} {i:Nat} (r:Vals xs its):xs[i]?=none->its.toArray[i]?=none:=λ h=>by
 have:=r.none_of h;simpa using this
theorem r_p {P:Program} {w:World} {K:Frag} {es:List Expr} {k:Nat} {pos:Pos} {b1 b2:Bool} {z TI TO i1 i2 l1 l2:Addr} (hd:[z,TI,TO,i1,i2].Nodup) :
  Turn P w K (.Tuple es k pos) (Itz K b1 l1 b2 l2) [z,TI,TO,i1,i2] z (λ i h=>IsZip h z TI TO .none/\IsPair h TI (.ref i1) (.ref i2)/\(∃ a b,IsPair h TO a b)/\ItB b1 h i1 l1 i/\ItB b2 h i2 l2 i) where
 mem:=by simp
 obj:=λ i h ⟨hz,hTI,⟨a,b,hTO⟩,h1,h2⟩ c hc=>by
  simp only [List.mem_cons,List.not_mem_nil,or_false] at hc;rcases hc with e | e | e | e | e <;> subst e
  ·exact ⟨_,hz,λ v q=>by have q':Data.fields _=Data.cell v:=q; cases q'⟩
  ·exact ⟨_,hTI,λ v q=>by have q':Data.seq _ _=Data.cell v:=q; cases q'⟩
  ·exact ⟨_,hTO,λ v q=>by have q':Data.seq _ _=Data.cell v:=q; cases q'⟩
  ·exact h1.lt
  ·exact h2.lt
 keep:=λ i h h' ⟨hz,hTI,⟨a,b,hTO⟩,h1,h2⟩ kk=>⟨kk z (by simp) _ hz,kk TI (by simp) _ hTI,⟨a,b,kk TO (by simp) _ hTO⟩,h1.at λ o e=>kk i1 (by simp) o e,h2.at λ o e=>kk i2 (by simp) o e⟩
 item:=by
  intro X hP hw hK hc i pins s σ H E I hf st hg;subst hP hw hK;obtain ⟨hz,hTI,⟨a,b,hTO⟩,h1,h2⟩:=st;obtain ⟨xs,ys,x,y,q1,q2,e1,e2⟩:=hg;obtain ⟨its1,r1,p1⟩:=I.seqB q1;obtain ⟨its2,r2,p2⟩:=I.seqB q2;obtain ⟨u1,hu1,ru1⟩:=r1.get e1;obtain ⟨u2,hu2,ru2⟩:=r2.get e2;have ne1:∀ f∈[z,TI,TO,i1,i2],l1≠f:=λ f hff=>I.seq_ne q1 (hf f hff);have ne2:∀ f∈[z,TI,TO,i1,i2],l2≠f:=λ f hff=>I.seq_ne q2 (hf f hff);simp only [List.nodup_cons,List.mem_cons,List.not_mem_nil,or_false,not_or,List.nodup_nil,and_true,not_false_eq_true] at hd;obtain ⟨⟨d1,d2,d3,d4⟩,⟨d5,d6,d7⟩,⟨d8,d9⟩,d10⟩:=hd;have D:ZipApart z TI TO i1 i2 l1 l2:=⟨Ne.symm d1,Ne.symm d2,Ne.symm d3,Ne.symm d4,d5,d6,d7,d8,d9,d10,ne1 z (by simp),ne1 TO (by simp),ne1 i1 (by simp),ne1 i2 (by simp),ne2 z (by simp),ne2 TO (by simp),ne2 i1 (by simp),ne2 i2 (by simp)⟩;refine p_u D hz hTI hTO h1 h2 p1 p2 (x:=u1) (y:=u2) (by simpa using hu1) (by simpa using hu2) λ h' a1 a2 a3 a4 a5 a6 a7=>⟨_,rfl,?_⟩;refine wpAny_letOwnedTupleGo_zip a1 λ h'' hz' hs'=>?_;have up:∀ c o,c ∉ [z,TI,TO,i1,i2]->s.heap.get? c=some o->h''.get? c=some o:=λ c o hc' e=>by
   simp only [List.mem_cons,List.not_mem_nil,or_false,not_or] at hc';obtain ⟨c1,c2,c3,c4,c5⟩:=hc';exact hs'.extBut _ _ c1 (a7 c o c1 c3 c4 c5 e)
  have nz:s.heap.objs.size≠z:=Nat.ne_of_gt (zE hz);have new:c_A X.prog X.w (upd H s.heap.objs.size (.tup [x,y])) h'' s.heap.objs.size (.tup [x,y]) :=
   ⟨by show 2<=sizeLine; decide,[u1,u2],.cons ru1 (.cons ru2 .nil),⟨_,hs'.extBut _ _ nz a5,rfl,_,rfl⟩⟩
  have I2:Inv X pins σ (upd H s.heap.objs.size (.tup [x,y])) { s with heap:=h'' }:=I.turnedNew (t':=s.toks) hf up (zL _) new;refine ⟨.ref s.heap.objs.size,_,I2,rfl,⟨_,x,y,rfl,I.fresh,rfl,λ xs' q=>by rw [I.seqB_inj q q1]; exact e1,λ ys' q=>by rw [I.seqB_inj q q2]; exact e2⟩,⟨hz',hs'.extBut _ _ D.TIz (a7 _ _ D.TIz D.TITO D.TIi1 D.TIi2 hTI),⟨_,_,hs'.extBut _ _ D.TOz a2⟩,a3.at λ o e=>hs'.extBut _ _ D.i1z e,a4.at λ o e=>hs'.extBut _ _ D.i2z e⟩,λ c hc'=>?_⟩;have hcf:=(hf c hc').1;rw [a_I]
  ·exact hcf
  ·intro e;subst e;simp only [List.mem_cons,List.not_mem_nil,or_false] at hc';rcases hc' with e | e | e | e | e
   ·exact nz e
   ·exact yJ (zE hTI) (by rw [← e]; exact Nat.lt_irrefl _)
   ·exact yJ (zE hTO) (by rw [← e]; exact Nat.lt_irrefl _)
   ·obtain ⟨o,q,_⟩:=h1.lt; exact yJ (zE q) (by rw [← e]; exact Nat.lt_irrefl _)
   ·obtain ⟨o,q,_⟩:=h2.lt; exact yJ (zE q) (by rw [← e]; exact Nat.lt_irrefl _)
 done:=by
  intro X hP hw hK hc i pins s σ H E I hf st hg;subst hP hw hK;obtain ⟨hz,hTI,⟨a,b,hTO⟩,h1,h2⟩:=st;obtain ⟨xs,ys,q1,q2,e1⟩:=hg;obtain ⟨its1,r1,p1⟩:=I.seqB q1;obtain ⟨its2,r2,p2⟩:=I.seqB q2;have ne1:∀ f∈[z,TI,TO,i1,i2],l1≠f:=λ f hff=>I.seq_ne q1 (hf f hff);have ne2:∀ f∈[z,TI,TO,i1,i2],l2≠f:=λ f hff=>I.seq_ne q2 (hf f hff);simp only [List.nodup_cons,List.mem_cons,List.not_mem_nil,or_false,not_or,List.nodup_nil,and_true,not_false_eq_true] at hd;obtain ⟨⟨d1,d2,d3,d4⟩,⟨d5,d6,d7⟩,⟨d8,d9⟩,d10⟩:=hd;have D:ZipApart z TI TO i1 i2 l1 l2:=⟨Ne.symm d1,Ne.symm d2,Ne.symm d3,Ne.symm d4,d5,d6,d7,d8,d9,d10,ne1 z (by simp),ne1 TO (by simp),ne1 i1 (by simp),ne1 i2 (by simp),ne2 z (by simp),ne2 TO (by simp),ne2 i1 (by simp),ne2 i2 (by simp)⟩;refine r_o (I.ok.hd hc) D hz hTI hTO h1 h2 p1 p2 (e1.imp (o_o r1) (o_o r2)) λ h' a7=>⟨rfl,I.turnedL (t':=s.toks) hf λ c o hc' e=>?_⟩;simp only [List.mem_cons,List.not_mem_nil,or_false,not_or] at hc';obtain ⟨c1,c2,c3,c4,c5⟩:=hc';exact a7 c o c1 c3 c4 c5 e
 self:=λ _ _ _ _ _ st h=>wpAny_pyIter_zip st.1 h
section
variable {X:Cx}
noncomputable def iZip (K:Frag) (ta:TA):TI:=λ σ H R=>ta σ H λ vs H1=>∃ b1 b2 l1 l2,vs=[.ref l1,.ref l2]/\(∃ xs,SqB b1 K H1 l1 xs)/\(∃ ys,SqB b2 K H1 l2 ys)/\R (Itz K b1 l1 b2 l2) H1
theorem i_i {a b:Expr} {ta:TA} {es:List Expr} {k:Nat} {tp p pos:Pos} (hg:Gl X "zip") (hm:X.mg "zip" = none) (ha:PA X [a,b] ta) (hv:bootBuiltins "zip" = some (.type "zip"):=by decide +kernel)
  (hs:starEach [a,b] X.env=[(false,eval a X.env),(false,eval b X.env)]:=by rfl) (hs2:starEach [b] X.env=[(false,eval b X.env)]:=by rfl) :
  PI X (.Tuple es k tp) (.Call (.Name "zip" p) [a,b] [] pos) (iZip X.K ta):=by
 intro pins s σ H R I h;refine Call_ (g_K I hg hm hv (PyProof.Rows.callWith_type1 (thn (ha pos pins s σ H _ I h) λ us s1 ⟨vs,H1,I1,r1,q1⟩=>?_) (by rw [hs,hs2]) (by rw [hs2]; rfl)));obtain ⟨b1,b2,l1,l2,e,⟨xs,q1⟩,⟨ys,q2⟩,q⟩:=q1;subst e;cases r1 with
 | cons r rr =>
  cases rr with
  | cons r' rr =>
   cases rr;cases r;cases r';obtain ⟨its1,v1,p1⟩:=I1.seqB q1;obtain ⟨its2,v2,p2⟩:=I1.seqB q2;refine p_v p1 p2 λ h' a1 a2 a3 a4 a5 kp=>?_;refine wpAny_pyIter_zip a1 ?_;have lt:∀ j,j<=4->s1.heap.objs.size<=s1.heap.objs.size+j:=λ j _=>Nat.le_add_right _ _;refine ⟨s1.heap.objs.size+4,[s1.heap.objs.size+4,s1.heap.objs.size+2,s1.heap.objs.size+3,s1.heap.objs.size,s1.heap.objs.size+1],_,_,H1,rfl,I1.kept (t':=s1.toks) kp,r_p (b1:=b1) (b2:=b2) (l1:=l1) (l2:=l2) ?_,⟨a1,a2,⟨_,_,a3⟩,a4,a5⟩,λ c hc=>?_,q⟩
   ·simp
   ·have hle:s1.heap.objs.size<=c:=by
     simp only [List.mem_cons,List.not_mem_nil,or_false] at hc;rcases hc with e | e | e | e | e <;> subst e <;> first | exact zL _ | exact Nat.le_add_right _ _
    exact I1.fpOk hle (I1.hok.fresh hle)
end
open AutoSeq1 (wpAny_loadPart')
set_option maxRecDepth 100000 in
theorem k_W (l:Addr) (items:Array Value) (n:Nat) (dct:Option Addr) (sl:Array (Option Value)) :
  Meets (Builtin.«enumerate.__new__» ⟨[.type "enumerate",.ref l],[]⟩) (λ _ R s=>s.heap.get? l=some { cls:=.type "tuple",dict:=dct,data:=.seq items n,slots:=sl } /\
   R (.ok (.ret (.ref (s.heap.push { cls:=.type "tuple_iterator",data:=.fields #[.ref l,.int 0 0] }).objs.size)))
    { s with heap:=(s.heap.push { cls:=.type "tuple_iterator",data:=.fields #[.ref l,.int 0 0] }).push { cls:=.type "enumerate",data:=.fields #[.none,.bool false,.ref s.heap.objs.size,rawInt 0,.none,.none] } }) :=
 .of_wp λ prog w A R s h=>by
  obtain ⟨hp,g,d,tk,os⟩:=s; obtain ⟨hl,h⟩:=h;have hsub:=sub_enumerate;have hL:Heap.IsTuple (Shared.heap ⟨hp,g,d,tk,os⟩) l items:=⟨_,hl,rfl,n,rfl⟩
  wp_walk using wpAny_loadPart' hl
  refine wpAny_stack_any λ st=>zB ?_;split
  ·rename_i c _ _ _ _ _;cases (c == Value.type "enumerate")
   ·wp_walk using wpAny_loadPart' hl,wpAny_pyIter_tuple hL
    exact ⟨_,rfl,h⟩
   ·wp_walk using wpAny_loadPart' hl,wpAny_pyIter_tuple hL
    exact ⟨_,rfl,h⟩
  ·wp_walk using wpAny_loadPart' hl,wpAny_pyIter_tuple hL
   exact ⟨_,rfl,h⟩
theorem m_W {prog:Program} {w:World} {A:Around} {E:Value->Shared->Prop} {s:Shared} {b:Bool} {l:Addr} {items:Array Value} {Q:Value->Shared->Prop} (hL:seqB b s.heap l items)
  (h:∀ h',IsEnum h' (s.heap.objs.size+1) s.heap.objs.size 0 .none->ItB b h' s.heap.objs.size l 0 ->
   (∀ b o,s.heap.get? b=some o->h'.get? b=some o)->Q (.ref (s.heap.objs.size+1)) { s with heap:=h' }) :
  wpAny (model prog w) A (call (.type "enumerate") [.ref l]) Q E s:=by
 cases b
 ·exact call_enumerate_list hL λ h' a1 a2 a3 a4=>h h' a1 a2 a4
 ·obtain ⟨⟨c,dct,dt,sl⟩,hl,hc,n,hd⟩:=hL;replace hc:c=.type "tuple" := hc;replace hd:dt=.seq items n:=hd;subst hc hd;refine callType_new F.called_enumerate (by decide) (F.typeCall_enumerate_1 _) (F.newCall_enumerate_1 _) (λ obj=>F.args_object_init_2 obj _) F.entry_enumerate_new
   (k_W l items n dct sl) ⟨hl,?_⟩
  have hz:(s.heap.push { cls:=.type "tuple_iterator",data:=.fields #[.ref l,.int 0 0] }).objs.size=s.heap.objs.size+1:=Heap.size_push ..;show _/\_;rw [hz];have he:IsEnum ((s.heap.push { cls:=.type "tuple_iterator",data:=.fields #[.ref l,.int 0 0] }).push
    { cls:=.type "enumerate",data:=.fields #[.none,.bool false,.ref s.heap.objs.size,rawInt 0,.none,.none] }) (s.heap.objs.size+1) s.heap.objs.size 0 .none:=by
   have:=zF (s.heap.push { cls:=.type "tuple_iterator",data:=.fields #[.ref l,.int 0 0] })
    (o:={ cls:=.type "enumerate",data:=.fields #[.none,.bool false,.ref s.heap.objs.size,rawInt 0,.none,.none] }) rfl
   rw [hz] at this; exact this
  refine ⟨⟨_,he,rfl⟩,h _ he ⟨_,zD _ (zF _ rfl),rfl,rfl⟩ λ b o x=>zD _ (zD _ x)⟩
noncomputable def Ite (K:Frag) (b:Bool) (l:Addr):It :=
  ⟨λ i H=>∃ xs x,SqB b K H l xs/\xs[i]?=some x,
   λ i H v H'=>∃ p x,v=.ref p/\H p=none/\H'=upd H p (.tup [.int i,x])/\∀ xs,SqB b K H l xs->xs[i]?=some x,
   λ i H=>∃ xs,SqB b K H l xs/\xs.length=i⟩
theorem p_w {P:Program} {w:World} {K:Frag} {es:List Expr} {k:Nat} {pos:Pos} {b:Bool} {e it l:Addr} (hd:e≠it) :
  Turn P w K (.Tuple es k pos) (Ite K b l) [e,it] e (λ i h=>(∃ old,IsEnum h e it i old)/\ItB b h it l i) where
 mem:=by simp
 obj:=λ i h ⟨⟨old,hz⟩,h1⟩ c hc=>by
  simp only [List.mem_cons,List.not_mem_nil,or_false] at hc;rcases hc with e | e <;> subst e
  ·exact ⟨_,hz,λ v q=>by have q':Data.fields _=Data.cell v:=q; cases q'⟩
  ·exact h1.lt
 keep:=λ i h h' ⟨⟨old,hz⟩,h1⟩ kk=>⟨⟨old,kk e (by simp) _ hz⟩,h1.at λ o q=>kk it (by simp) o q⟩
 item:=by
  intro X hP hw hK hc i pins s σ H E I hf st hg;subst hP hw hK;obtain ⟨⟨old,hz⟩,h1⟩:=st;obtain ⟨xs,x,q1,e1⟩:=hg;obtain ⟨its1,r1,p1⟩:=I.seqB q1;obtain ⟨u1,hu1,ru1⟩:=r1.get e1;have ne1:∀ f∈[e,it],l≠f:=λ f hff=>I.seq_ne q1 (hf f hff);have hlt:i < its1.toArray.size:=by
   have:=(List.getElem?_eq_some_iff.mp hu1).1;simpa using this
  refine wpAny_pyNext_enum_itemD (r_n b (show X.A.in1.handled=none from I.ok.hd hc) it l (ne1 it (by simp)) its1.toArray) hz ⟨h1,p1⟩ hlt hd (λ q=>?_) λ u h' tk hP a1 a2 a3 a4 a5=>⟨_,rfl,?_⟩
  ·simp only [List.mem_cons,List.not_mem_nil,or_false] at q;rcases q with q | q
   ·exact hd q
   ·exact ne1 e (by simp) q.symm
  have eu:u=u1:=by
   have:its1.toArray[i]?=some u1:=by simpa using hu1
   rw [this] at hP;exact (zT hP).symm
  subst eu;refine wpAny_letOwnedTupleGo_enum a1 λ h'' hz' hs'=>?_;have ne:s.heap.objs.size≠e:=Nat.ne_of_gt (zE hz);have up:∀ c o,c ∉ [e,it]->s.heap.get? c=some o->h''.get? c=some o:=λ c o hc' q=>by
   simp only [List.mem_cons,List.not_mem_nil,or_false,not_or] at hc';exact hs'.extBut _ _ hc'.1 (a5 c o hc'.1 hc'.2 q)
  have new:c_A X.prog X.w (upd H s.heap.objs.size (.tup [.int i,x])) h'' s.heap.objs.size (.tup [.int i,x]) :=
   ⟨by show 2<=sizeLine; decide,[.int i tk,u],.cons ⟨tk,rfl⟩ (.cons ru1 .nil),⟨_,hs'.extBut _ _ ne a3,rfl,_,rfl⟩⟩
  have I2:Inv X pins σ (upd H s.heap.objs.size (.tup [.int i,x])) { s with heap:=h'',toks:=tk+1 }:=I.turnedNew (t':=tk+1) hf up (zL _) new;refine ⟨.ref s.heap.objs.size,_,I2,rfl,⟨_,x,rfl,I.fresh,rfl,λ xs' q=>by rw [I.seqB_inj q q1]; exact e1⟩,⟨⟨u,by simpa using hz'⟩,a2.1.at λ o q=>hs'.extBut _ _ (Ne.symm hd) q⟩,λ c hc'=>?_⟩;have hcf:=(hf c hc').1;rw [a_I]
  ·exact hcf
  ·intro z;subst z;simp only [List.mem_cons,List.not_mem_nil,or_false] at hc';rcases hc' with z | z
   ·exact ne z
   ·obtain ⟨o,q,_⟩:=h1.lt; exact yJ (zE q) (by rw [← z]; exact Nat.lt_irrefl _)
 done:=by
  intro X hP hw hK hc i pins s σ H E I hf st hg;subst hP hw hK;obtain ⟨⟨old,hz⟩,h1⟩:=st;obtain ⟨xs,q1,e1⟩:=hg;obtain ⟨its1,r1,p1⟩:=I.seqB q1;have ne1:∀ f∈[e,it],l≠f:=λ f hff=>I.seq_ne q1 (hf f hff);have el:its1.toArray.size=i:=by rw [zJ,← r1.length,e1]
  refine wpAny_pyNext_enum_endD (r_n b (show X.A.in1.handled=none from I.ok.hd hc) it l (ne1 it (by simp)) its1.toArray) hz ⟨by rw [el]; exact h1,p1⟩ λ h' hx=>⟨rfl,I.turnedL (t':=s.toks) hf λ c o hc' q=>?_⟩;simp only [List.mem_cons,List.not_mem_nil,or_false,not_or] at hc';exact hx c o hc'.2 q
 self:=λ _ _ _ _ _ st h=>let ⟨⟨_,q⟩,_⟩:=st; wpAny_pyIter_enum q h
section
variable {X:Cx}
noncomputable def k_X (K:Frag) (ta:TA):TI:=λ σ H R=>ta σ H λ vs H1=>∃ b l,vs=[.ref l]/\(∃ xs,SqB b K H1 l xs)/\R (Ite K b l) H1
theorem h_I {a:Expr} {ta:TA} {es:List Expr} {k:Nat} {tp p pos:Pos} (hg:Gl X "enumerate") (hm:X.mg "enumerate" = none) (ha:PA X [a] ta) (hv:bootBuiltins "enumerate" = some (.type "enumerate"):=by decide +kernel)
  (hs:starEach [a] X.env=[(false,eval a X.env)]:=by rfl) :
  PI X (.Tuple es k tp) (.Call (.Name "enumerate" p) [a] [] pos) (k_X X.K ta):=by
 intro pins s σ H R I h;refine Call_ (g_K I hg hm hv (PyProof.Rows.callWith_type1 (thn (ha pos pins s σ H _ I h) λ us s1 ⟨vs,H1,I1,r1,q1⟩=>?_) hs rfl));obtain ⟨b,l,e,⟨xs,q1⟩,q⟩:=q1;subst e;cases r1 with
 | cons r rr =>
  cases rr;cases r;obtain ⟨its1,v1,p1⟩:=I1.seqB q1;refine m_W p1 λ h' a1 a2 kp=>?_;refine wpAny_pyIter_enum a1 ?_;refine ⟨s1.heap.objs.size+1,[s1.heap.objs.size+1,s1.heap.objs.size],_,_,H1,rfl,I1.kept (t':=s1.toks) kp,p_w (b:=b) (l:=l) (by simp),⟨⟨_,a1⟩,a2⟩,λ c hc=>?_,q⟩;have hle:s1.heap.objs.size<=c:=by
   simp only [List.mem_cons,List.not_mem_nil,or_false] at hc;rcases hc with e | e <;> subst e <;> first | exact zL _ | exact Nat.le_add_right _ _
  exact I1.fpOk hle (I1.hok.fresh hle)
theorem i_j:∀ {ns:List Int} {its:List Value},Vals (ns.map V.int) its->∃ xs:List (Int × Tok),its=xs.map (λ p=>Value.int p.1 p.2)/\xs.map (·.1)=ns
 | [],_,.nil=>⟨[],rfl,rfl⟩
 | n :: r,_,.cons ⟨t,h⟩ q=>by
  obtain ⟨xs,e1,e2⟩:=i_j (ns:=r) q;exact ⟨(n,t) :: xs,by rw [h,e1]; rfl,by rw [List.map_cons,e2]⟩
theorem r_q (hc:X.calm=true):c_O X (.builtin "sum") (λ xs H Q=>∃ (p:Addr) (ns:List Int),xs=[.ref p]/\SqL X.K H p (ns.map V.int)/\Q (.int ns.sum) H):=by
 intro pins s σ H xs us Q I r h;obtain ⟨p,ns,rfl,hq,q⟩:=h;obtain ⟨u,rfl,rx⟩:=e_T r;cases rx;obtain ⟨its,rv,pl,hz⟩:=I.list hq;obtain ⟨ps,e1,e2⟩:=i_j rv;have hl:s.heap.IsList p (intItems ps.toArray):=by
  have:=pl.isList;rw [e1] at this;simpa [intItems] using this
 refine sum_intListG (I.ok.hd hc) hl λ h' tk t' hk=>⟨.int ns.sum,H,I.kept (t':=tk) hk,⟨t',?_⟩,q⟩;rw [preSum_eq,List.take_of_length_le (by simp)];simp [e2]
end
theorem SqB.or {b:Bool} {K:Frag} {H:Hp} {a:Addr} {xs:List V} (h:SqB b K H a xs):SqL K H a xs\/SqT K H a xs:=by
 cases b
 ·exact .inl h
 ·exact .inr h
theorem SqB.up {b:Bool} {K:Frag} {H H':Hp} {a:Addr} {xs:List V} (h:SqB b K H a xs) (s:Same H H'):SqB b K H' a xs:=by
 cases b
 ·exact s.seq h
 ·exact s.tup h
theorem SqB.lst {K:Frag} {H:Hp} {a:Addr} {xs:List V} (h:H a=some (.lst xs)):SqB false K H a xs:=SqL.of h
theorem SqB.tup {K:Frag} {H:Hp} {a:Addr} {xs:List V} (h:H a=some (.tup xs)):SqB true K H a xs:=SqT.of h
noncomputable def Its (K:Frag) (b:Bool) (a:Addr):It:=match b with | false=>Itl K a | true=>Itt K a
theorem Its.go {K:Frag} {b:Bool} {a:Addr} {xs:List V} {x:V} {i:Nat} {H:Hp} (h:SqB b K H a xs) (e:xs[i]?=some x):(Its K b a).go i H:=by
 cases b
 ·exact ⟨xs,x,h,e⟩
 ·exact ⟨xs,x,h,e⟩
theorem Its.stop {K:Frag} {b:Bool} {a:Addr} {xs:List V} {i:Nat} {H:Hp} (h:SqB b K H a xs) (e:xs.length<=i):(Its K b a).stop i H:=by
 cases b
 ·exact ⟨xs,h,e⟩
 ·exact ⟨xs,h,e⟩
theorem Its.yld {K:Frag} {b:Bool} {a:Addr} {xs:List V} {i:Nat} {H H':Hp} {x:V} (h:SqB b K H a xs) (y:(Its K b a).yld i H x H'):H'=H/\xs[i]?=some x:=by
 cases b
 ·exact ⟨y.1,y.2 xs h⟩
 ·exact ⟨y.1,y.2 xs h⟩
section
variable {X:Cx}
noncomputable def iSeq (K:Frag) (tl:TE):TI:=λ σ H R=>tl σ H λ x H1=>∃ b a,x=.ref a/\(∃ xs,SqB b K H1 a xs)/\R (Its K b a) H1
theorem b_W {tg l:Expr} {tl:TE} (hl:PE X l tl):PI X tg l (iSeq X.K tl):=by
 intro pins s σ H R I h;refine thn (hl pins s σ H _ I h) λ v s1 ⟨x,H1,I1,r1,q1⟩=>?_;obtain ⟨b,a,e,⟨xs,hq⟩,q⟩:=q1;subst e;cases r1;cases b
 ·obtain ⟨its,rv,p,hz⟩:=I1.list hq;refine wpAny_pyIter_list p.isList ?_;refine ⟨s1.heap.objs.size,[s1.heap.objs.size],_,_,H1,rfl,I1.kept (t':=s1.toks) λ b o e=>zD _ e,p_n a _,⟨_,zF _ rfl,rfl,rfl⟩,λ b hb=>?_,q⟩;have e:b=s1.heap.objs.size:=by simpa using hb
  subst e;exact I1.fpOk (zL _) (I1.hok.fresh (zL _))
 ·obtain ⟨its,rv,p,hz⟩:=I1.tuple hq;refine wpAny_pyIter_tuple (show s1.heap.IsTuple a its.toArray from p) ?_;refine ⟨s1.heap.objs.size,[s1.heap.objs.size],_,_,H1,rfl,I1.kept (t':=s1.toks) λ b o e=>zD _ e,m_J a _,⟨_,zF _ rfl,rfl,rfl⟩,λ b hb=>?_,q⟩;have e:b=s1.heap.objs.size:=by simpa using hb
  subst e;exact I1.fpOk (zL _) (I1.hok.fresh (zL _))
noncomputable def rIxB (K:Frag):R2:=λ x y H Q=>∃ b p xs i v,x=.ref p/\y=.int i/\SqB b K H p xs/\atI xs i=some v/\Q v H
theorem ix_B:IxR X (rIxB X.K):=by
 intro value slice pins s σ H x y v u Q I rx ry h;obtain ⟨b,p,xs,i,v',e1,e2,hq,ha,q⟩:=h;cases b
 ·exact t_O value slice pins s σ H x y v u Q I rx ry ⟨p,xs,i,v',e1,e2,hq,ha,q⟩
 ·exact v_w value slice pins s σ H x y v u Q I rx ry ⟨p,xs,i,v',e1,e2,hq,ha,q⟩
noncomputable def g_s (K:Frag):List V->Hp->VK->Prop:=λ xs H Q=>∃ b p ys,xs=[.ref p]/\SqB b K H p ys/\Q (.int ys.length) H
theorem b_C:c_O X (.builtin "len") (g_s X.K):=by
 intro pins s σ H xs us Q I r h;obtain ⟨b,p,ys,e,hq,q⟩:=h;exact j_K pins s σ H xs us Q I r ⟨p,ys,e,hq.or,q⟩
noncomputable def j_S (K:Frag):List V->Hp->VK->Prop:=λ xs H Q=>∃ b p ys,xs=[.ref p]/\SqB b K H p ys/\∀ l,H l=none->Q (.ref l) (upd H l (.lst ys))
theorem d_K:c_O X (.type "list") (j_S X.K):=by
 intro pins s σ H xs us Q I r h;obtain ⟨b,p,ys,e,hq,q⟩:=h;exact j_L pins s σ H xs us Q I r ⟨p,ys,e,hq.or,q⟩
noncomputable def o_p (K:Frag):List V->Hp->VK->Prop:=λ xs H Q=>∃ p ys,xs=[.ref p]/\((SqL K H p ys/\∀ l,H l=none->Q (.ref l) (upd H l (.tup ys)))\/(SqT K H p ys/\Q (.ref p) H))
theorem d_Z:c_O X (.type "tuple") (o_p X.K):=i_V
end
theorem t_U {K:Frag} {b:Bool} {a:Addr} {xs:List V} {g:TG} {tb:TS} {D:Ends} {σ:St} {H:Hp} (Pv:Nat->St->Hp->Prop) (h0:Pv 0 σ H) (hl:∀ i σ H,i<=xs.length->Pv i σ H->SqB b K H a xs)
  (hs:∀ i x σ H,xs[i]?=some x->Pv i σ H->g x σ H λ σ2 H2=>tb { D with nx:=Pv (i+1),ct:=Pv (i+1),bk:=D.nx } σ2 H2) (hd:∀ σ H,Pv xs.length σ H->D.nx σ H) :
  ∃ W:Nat->Nat->St->Hp->Prop,(∃ m,W 0 m σ H)/\∀ i m σ H,W i m σ H ->
   ((Its K b a).stop i H/\D.nx σ H)\/((Its K b a).go i H/\∃ N:St->Hp->Prop,(∀ σ' H',N σ' H'->∃ m',m' < m/\W (i+1) m' σ' H')/\∀ x H',(Its K b a).yld i H x H'->g x σ H' λ σ2 H2=>tb { D with nx:=N,ct:=N,bk:=D.nx } σ2 H2):=by
 cases b
 ·exact q_P Pv h0 hl hs hd
 ·exact t_H Pv h0 hl hs hd
theorem r_r {K:Frag} {b:Bool} {a:Addr} {xs:List V} {g:TG} {tb:TS} {D:Ends} {σ:St} {H:Hp} (Pv:Nat->St->Hp->Prop) (h0:Pv 0 σ H) (hl:∀ i σ H,i<=xs.length->Pv i σ H->SqB b K H a xs)
  (hs:∀ i x p σ H,xs[i]?=some x->Pv i σ H->H p=none->g (.ref p) σ (upd H p (.tup [.int i,x])) λ σ2 H2=>tb { D with nx:=Pv (i+1),ct:=Pv (i+1),bk:=D.nx } σ2 H2) (hd:∀ σ H,Pv xs.length σ H->D.nx σ H) :
  ∃ W:Nat->Nat->St->Hp->Prop,(∃ m,W 0 m σ H)/\∀ i m σ H,W i m σ H ->
   ((Ite K b a).stop i H/\D.nx σ H)\/((Ite K b a).go i H/\∃ N:St->Hp->Prop,(∀ σ' H',N σ' H'->∃ m',m' < m/\W (i+1) m' σ' H')/\∀ x H',(Ite K b a).yld i H x H'->g x σ H' λ σ2 H2=>tb { D with nx:=N,ct:=N,bk:=D.nx } σ2 H2):=by
 refine ⟨λ i m σ H=>m=xs.length - i/\i<=xs.length/\Pv i σ H,⟨xs.length,by simp,Nat.zero_le _,h0⟩,?_⟩;rintro i m σ H ⟨rfl,hi,p⟩;have q:=hl i σ H hi p
 by_cases hlt:i < xs.length
 ·refine .inr ⟨⟨xs,xs[i],q,by simp [hlt]⟩,Pv (i+1),λ σ' H' p'=>⟨xs.length - (i+1),by omega,rfl,hlt,p'⟩,λ x H' y=>?_⟩;obtain ⟨r,x,rfl,hr,rfl,hx⟩:=y;exact hs i x r σ H (hx xs q) p hr
 ·have e:i=xs.length:=by omega
  subst e;exact .inl ⟨⟨xs,q,rfl⟩,hd σ H p⟩
theorem t_V {K:Frag} {b1 b2:Bool} {a1 a2:Addr} {xs ys:List V} {g:TG} {tb:TS} {D:Ends} {σ:St} {H:Hp} (Pv:Nat->St->Hp->Prop) (h0:Pv 0 σ H) (hlen:xs.length=ys.length) (hl:∀ i σ H,i<=xs.length->Pv i σ H->SqB b1 K H a1 xs/\SqB b2 K H a2 ys)
  (hs:∀ i x y p σ H,xs[i]?=some x->ys[i]?=some y->Pv i σ H->H p=none->g (.ref p) σ (upd H p (.tup [x,y])) λ σ2 H2=>tb { D with nx:=Pv (i+1),ct:=Pv (i+1),bk:=D.nx } σ2 H2) (hd:∀ σ H,Pv xs.length σ H->D.nx σ H) :
  ∃ W:Nat->Nat->St->Hp->Prop,(∃ m,W 0 m σ H)/\∀ i m σ H,W i m σ H ->
   ((Itz K b1 a1 b2 a2).stop i H/\D.nx σ H)\/((Itz K b1 a1 b2 a2).go i H/\∃ N:St->Hp->Prop,(∀ σ' H',N σ' H'->∃ m',m' < m/\W (i+1) m' σ' H')/\∀ x H',(Itz K b1 a1 b2 a2).yld i H x H'->g x σ H' λ σ2 H2=>tb { D with nx:=N,ct:=N,bk:=D.nx } σ2 H2):=by
 refine ⟨λ i m σ H=>m=xs.length - i/\i<=xs.length/\Pv i σ H,⟨xs.length,by simp,Nat.zero_le _,h0⟩,?_⟩;rintro i m σ H ⟨rfl,hi,p⟩;obtain ⟨q1,q2⟩:=hl i σ H hi p
 by_cases hlt:i < xs.length
 ·refine .inr ⟨⟨xs,ys,xs[i],ys[i],q1,q2,by simp [hlt],by simp⟩,Pv (i+1),λ σ' H' p'=>⟨xs.length - (i+1),by omega,rfl,hlt,p'⟩,λ x H' y=>?_⟩;obtain ⟨r,x,z,rfl,hr,rfl,hx,hy⟩:=y;exact hs i x z r σ H (hx xs q1) (hy ys q2) p hr
 ·have e:i=xs.length:=by omega
  subst e;exact .inl ⟨⟨xs,ys,q1,q2,.inl (by simp)⟩,hd σ H p⟩
noncomputable def e_U (a:Addr) (H H':Hp):Prop:=∀ b o,b≠a->H b=some o->H' b=some o
theorem Same.x {a:Addr} {H H':Hp} (s:Same H H'):e_U a H H':=λ b o _ e=>s b o e
section
variable {J:It} {g:TG} {tt:TOx} {te:TE} {n:Nat} {fr:List (Str × Nat)} {σ:St} {a:Addr} {H:Hp} {Q:VK} {K:Frag}
theorem r_s (len:Nat) (P:Nat->List V->Hp->Prop) (ha:H a=none) (hz:len<=1000) (h0:P 0 [] (upd H a (.lst [])))
  (hl:∀ i zs H1,P i zs H1->zs.length<=i) (mono:∀ i zs H1 H2,P i zs H1->e_U a H1 H2->P i zs H2)
  (hgo:∀ i H1,i < len->Same H H1->J.go i H1) (hstop:∀ H1,Same H H1->J.stop len H1)
  (he:∀ i H1 zs,i < len->Same H H1->H1 a=some (.lst zs)->P i zs H1->∀ (ys:St) x H3,ys.length=n->J.yld i H1 x H3->∀ C:Option V->Hp->Prop,
   (∀ y H2,Same H1 H2->P (i+1) (zs++[y]) H2->C (some y) H2)->(∀ H2,Same H1 H2->P (i+1) zs H2->C none H2) ->
   g x (ys++d_F fr σ) H3 λ σ4 H4=>(∃ ys':St,ys'.length=n/\σ4=ys'++d_F fr σ)/\tt σ4 H4 C)
  (hd:∀ H1 ys,Same H H1->H1 a=some (.lst ys)->P len ys H1->Q (.ref a) H1):d_J J g tt n fr σ a H Q:=by
 refine ⟨λ i m H1=>m=len - i/\i<=len/\Same H H1/\∃ zs,H1 a=some (.lst zs)/\P i zs H1,⟨len,by simp,Nat.zero_le _,Same.new ha,[],a_F,h0⟩,?_⟩;rintro i m H1 ⟨rfl,hi,s1,zs,ez,p⟩
 by_cases hlt:i < len
 ·refine .inr ⟨hgo i H1 hlt s1,λ H'=>i+1<=len/\Same H H'/\∃ zs,H' a=some (.lst zs)/\P (i+1) zs H',λ H' q=>⟨len - (i+1),by omega,rfl,q⟩,λ ys x H3 hys hy=>?_⟩;refine he i H1 zs hlt s1 ez p ys x H3 hys hy _ (λ y H2 s2 p2=>?_) λ H2 s2 p2=>?_
  ·refine ⟨zs,s2 _ _ ez,f_N (by have:=hl i zs H1 p; omega),hlt,Same.over ha (s1.trans s2),_,a_F,mono _ _ _ _ p2 λ b o hb e=>?_⟩;rw [a_I hb];exact e
  ·exact ⟨hlt,s1.trans s2,zs,s2 _ _ ez,p2⟩
 ·have e:i=len:=by omega
  subst e;exact .inl ⟨hstop H1 s1,hd H1 zs s1 ez p⟩
theorem j_T (len:Nat) (R:Nat->V->Hp->Prop) (ha:H a=none) (hz:len<=1000) (mono:∀ i y H1 H2,R i y H1->e_U a H1 H2->R i y H2)
  (hgo:∀ i H1,i < len->Same H H1->J.go i H1) (hstop:∀ H1,Same H H1->J.stop len H1)
  (he:∀ i H1 zs,i < len->Same H H1->H1 a=some (.lst zs)->∀ (ys:St) x H3,ys.length=n->J.yld i H1 x H3->∀ Q':VK,(∀ y H2,Same H1 H2->R i y H2->Q' y H2) ->
   g x (ys++d_F fr σ) H3 λ σ4 H4=>(∃ ys':St,ys'.length=n/\σ4=ys'++d_F fr σ)/\te σ4 H4 Q')
  (hd:∀ H1 ys,Same H H1->H1 a=some (.lst ys)->ys.length=len->(∀ j y,ys[j]?=some y->R j y H1)->Q (.ref a) H1):d_J J g (tEl te) n fr σ a H Q:=by
 refine r_s len (λ i zs H1=>zs.length=i/\∀ j y,zs[j]?=some y->R j y H1) ha hz ⟨rfl,λ j y e=>by simp at e⟩ (λ i zs H1 p=>Nat.le_of_eq p.1) (λ i zs H1 H2 p s=>⟨p.1,λ j y e=>mono _ _ _ _ (p.2 j y e) s⟩) hgo hstop ?_ λ H1 ys s e p=>hd H1 ys s e p.1 p.2;intro i H1 zs hi s1 ez p ys x H3 hys hy C hC _;refine he i H1 zs hi s1 ez ys x H3 hys hy _ λ y H2 s2 r=>hC y H2 s2 ⟨by simp [p.1],λ j z e=>?_⟩
 by_cases hj:j < zs.length
 ·rw [yC hj] at e;exact mono _ _ _ _ (p.2 j z e) s2.x
 ·rw [yD (by omega)] at e;have e0:j - zs.length=0:=by
   by_cases h0:j - zs.length=0
   ·exact h0
   ·rw [List.getElem?_eq_none (by simp; omega)] at e; cases e
  rw [e0] at e;cases zT e;have:j=i:=by have:=p.1; omega
  rw [this];exact r
theorem c_T {b:Bool} {l:Addr} {xs:List V} (R:Nat->V->Hp->Prop) (ha:H a=none) (hS:SqB b K H l xs) (hz:xs.length<=1000) (mono:∀ i y H1 H2,R i y H1->e_U a H1 H2->R i y H2)
  (he:∀ i x H1 zs,xs[i]?=some x->Same H H1->H1 a=some (.lst zs)->∀ Q':VK,(∀ y H2,Same H1 H2->R i y H2->Q' y H2)->te (some x :: d_F fr σ) H1 Q')
  (hd:∀ H1 ys,Same H H1->H1 a=some (.lst ys)->ys.length=xs.length->(∀ j y,ys[j]?=some y->R j y H1)->Q (.ref a) H1):d_J (Its K b l) (a_T 0) (tEl te) 1 fr σ a H Q:=by
 refine j_T xs.length R ha hz mono (λ i H1 hi s=>Its.go (hS.up s) (x:=xs[i]) (by simp [hi])) (λ H1 s=>Its.stop (hS.up s) (zL _)) ?_ hd;intro i H1 zs hi s1 ez ys x H3 hys hy Q' hQ';obtain ⟨e1,e2⟩:=Its.yld (hS.up s1) hy;subst e1
 match ys,hys with
 | [o],_=>exact ⟨⟨[some x],rfl,rfl⟩,he i x H3 zs e2 s1 ez Q' hQ'⟩
theorem i_k {lo:Int} {len:Nat} (R:Nat->V->Hp->Prop) (ha:H a=none) (hz:len<=1000) (mono:∀ i y H1 H2,R i y H1->e_U a H1 H2->R i y H2)
  (he:∀ (i:Nat) H1 zs,i < len->Same H H1->H1 a=some (.lst zs)->∀ Q':VK,(∀ y H2,Same H1 H2->R i y H2->Q' y H2)->te (some (.int (lo+i)) :: d_F fr σ) H1 Q')
  (hd:∀ H1 ys,Same H H1->H1 a=some (.lst ys)->ys.length=len->(∀ j y,ys[j]?=some y->R j y H1)->Q (.ref a) H1):d_J (Itr lo len) (a_T 0) (tEl te) 1 fr σ a H Q:=by
 refine j_T len R ha hz mono (λ i H1 hi s=>hi) (λ H1 s=>zL _) ?_ hd;intro i H1 zs hi s1 ez ys x H3 hys hy Q' hQ';obtain ⟨e1,e2⟩:=hy;subst e1 e2
 match ys,hys with
 | [o],_=>exact ⟨⟨[_],rfl,rfl⟩,he i H3 zs hi s1 ez Q' hQ'⟩
theorem m_X {b1 b2:Bool} {l1 l2:Addr} {xs ys:List V} (R:Nat->V->Hp->Prop) (ha:H a=none) (hS1:SqB b1 K H l1 xs) (hS2:SqB b2 K H l2 ys) (hlen:xs.length=ys.length) (hz:xs.length<=1000) (mono:∀ i y H1 H2,R i y H1->e_U a H1 H2->R i y H2)
  (he:∀ i x y H1 zs,xs[i]?=some x->ys[i]?=some y->Same H H1->H1 a=some (.lst zs)->∀ Q':VK,(∀ y H2,Same H1 H2->R i y H2->Q' y H2)->te (some x :: some y :: d_F fr σ) H1 Q')
  (hd:∀ H1 zs,Same H H1->H1 a=some (.lst zs)->zs.length=xs.length->(∀ j y,zs[j]?=some y->R j y H1)->Q (.ref a) H1) :
  d_J (Itz K b1 l1 b2 l2) (gTup K 2 (c_N (a_T 0) (c_N (a_T 1) gNil))) (tEl te) 2 fr σ a H Q:=by
 refine j_T xs.length R ha hz mono (λ i H1 hi s=>⟨xs,ys,xs[i],ys[i],hS1.up s,hS2.up s,by simp [hi],by simp⟩) (λ H1 s=>⟨xs,ys,hS1.up s,hS2.up s,.inl (by simp)⟩) ?_ hd;intro i H1 zs hi s1 ez os x H3 hos hy Q' hQ';obtain ⟨p,x,y,rfl,hp,rfl,hx,hy⟩:=hy;refine ⟨p,[x,y],rfl,SqT.of a_F,rfl,x,[y],rfl,y,[],rfl,rfl,?_⟩
 match os,hos with
 | [o,o'],_ =>
  refine ⟨⟨[some x,some y],rfl,rfl⟩,he i x y _ zs (hx xs (hS1.up s1)) (hy ys (hS2.up s1)) (s1.trans (Same.new hp)) (Same.new hp _ _ ez) Q' λ y H2 s2 r=>hQ' y H2 ((Same.new hp).trans s2) r⟩
theorem t_W {b:Bool} {l:Addr} {xs:List V} (R:Nat->V->Hp->Prop) (ha:H a=none) (hS:SqB b K H l xs) (hz:xs.length<=1000) (mono:∀ i y H1 H2,R i y H1->e_U a H1 H2->R i y H2)
  (he:∀ i x H1 zs,xs[i]?=some x->Same H H1->H1 a=some (.lst zs)->∀ Q':VK,(∀ y H2,Same H1 H2->R i y H2->Q' y H2)->te (some (.int i) :: some x :: d_F fr σ) H1 Q')
  (hd:∀ H1 zs,Same H H1->H1 a=some (.lst zs)->zs.length=xs.length->(∀ j y,zs[j]?=some y->R j y H1)->Q (.ref a) H1) :
  d_J (Ite K b l) (gTup K 2 (c_N (a_T 0) (c_N (a_T 1) gNil))) (tEl te) 2 fr σ a H Q:=by
 refine j_T xs.length R ha hz mono (λ i H1 hi s=>⟨xs,xs[i],hS.up s,by simp [hi]⟩) (λ H1 s=>⟨xs,hS.up s,rfl⟩) ?_ hd;intro i H1 zs hi s1 ez os x H3 hos hy Q' hQ';obtain ⟨p,x,rfl,hp,rfl,hx⟩:=hy;refine ⟨p,[.int i,x],rfl,SqT.of a_F,rfl,_,[x],rfl,x,[],rfl,rfl,?_⟩
 match os,hos with
 | [o,o'],_ =>
  refine ⟨⟨[some (.int i),some x],rfl,rfl⟩,he i x _ zs (hx xs (hS.up s1)) (s1.trans (Same.new hp)) (Same.new hp _ _ ez) Q' λ y H2 s2 r=>hQ' y H2 ((Same.new hp).trans s2) r⟩
end
noncomputable def MatB (b1 b2:Bool) (K:Frag) (H:Hp) (a:Addr) (rows:List (List Int)):Prop:=∃ ps:List Addr,SqB b1 K H a (ps.map V.ref)/\ps.length=rows.length/\∀ (i:Nat) (p:Addr) (r:List Int),ps[i]?=some p->rows[i]?=some r->SqB b2 K H p (r.map V.int)
theorem MatB.up {b1 b2:Bool} {K:Frag} {H H':Hp} {a:Addr} {rows:List (List Int)} (h:MatB b1 b2 K H a rows) (s:Same H H'):MatB b1 b2 K H' a rows:=let ⟨ps,h1,h2,h3⟩:=h; ⟨ps,h1.up s,h2,λ i p r e1 e2=>(h3 i p r e1 e2).up s⟩
noncomputable def RowR (a:Addr) (f:Nat->List Int) (j:Nat) (y:V) (H:Hp):Prop:=∃ p,y=.ref p/\p≠a/\H p=some (.lst ((f j).map V.int))
theorem RowR.mono {a:Addr} {f:Nat->List Int} (i:Nat) (y:V) (H1 H2:Hp) (h:RowR a f i y H1) (s:e_U a H1 H2):RowR a f i y H2:=let ⟨p,e,n,q⟩:=h; ⟨p,e,n,s _ _ n q⟩
noncomputable def iT:Nat->PyData->Bool
 | _,.int _=>true
 | n+1,.list xs=>xs.all (iT n)
 | n+1,.tuple xs=>xs.all (iT n)
 | _,_=>false
theorem e_q:∀ (n:Nat) (d:PyData),iT n d=true->d.canLay0=true/\d.depth<=n
 | 0,.int _,_=>by simp [PyData.canLay0,PyData.depth]
 | n+1,.int _,_=>by simp [PyData.canLay0,PyData.depth]
 | n+1,.list xs,h=>by
  have all:∀ ys:List PyData,ys.all (iT n)=true->PyData.canLayAll0 ys=true/\PyData.depthAll ys<=n:=by
   intro ys
   induction ys with
   | nil=>intro _; simp [PyData.canLayAll0,PyData.depthAll]
   | cons y r ih =>
    intro hy;rw [List.all_cons,Bool.and_eq_true] at hy;have h1:=e_q n y hy.1;have h2:=ih hy.2;simp only [PyData.canLayAll0,PyData.depthAll,Bool.and_eq_true];exact ⟨⟨h1.1,h2.1⟩,by omega⟩
  have:=all xs (by simpa [iT] using h);simp only [PyData.canLay0,PyData.depth];exact ⟨this.1,by omega⟩
 | n+1,.tuple xs,h=>by
  have all:∀ ys:List PyData,ys.all (iT n)=true->PyData.canLayAll0 ys=true/\PyData.depthAll ys<=n:=by
   intro ys
   induction ys with
   | nil=>intro _; simp [PyData.canLayAll0,PyData.depthAll]
   | cons y r ih =>
    intro hy;rw [List.all_cons,Bool.and_eq_true] at hy;have h1:=e_q n y hy.1;have h2:=ih hy.2;simp only [PyData.canLayAll0,PyData.depthAll,Bool.and_eq_true];exact ⟨⟨h1.1,h2.1⟩,by omega⟩
  have:=all xs (by simpa [iT] using h);simp only [PyData.canLay0,PyData.depth];exact ⟨this.1,by omega⟩
theorem j_U:∀ (n:Nat) (d d':PyData),iT n d=true->iT n d'=true->SeqAt.noMix d d'=true:=by
 intro n
 induction n with
 | zero=>intro d d' h h'; cases d <;> simp [iT] at h <;> cases d' <;> simp [iT] at h' <;> simp [SeqAt.noMix]
 | succ n ih =>
  have all:∀ ys zs:List PyData,ys.all (iT n)=true->zs.all (iT n)=true->SeqAt.noMixAll ys zs=true:=by
   intro ys
   induction ys with
   | nil=>intro zs _ _; cases zs <;> simp [SeqAt.noMixAll]
   | cons y r ihr =>
    intro zs hy hz;cases zs with
    | nil=>simp [SeqAt.noMixAll]
    | cons z t =>
     rw [List.all_cons,Bool.and_eq_true] at hy hz;simp only [SeqAt.noMixAll,Bool.and_eq_true];exact ⟨ih y z hy.1 hz.1,ihr t hy.2 hz.2⟩
  intro d d' h h';cases d <;> simp only [iT,Bool.false_eq_true] at h <;> cases d' <;> simp only [iT,Bool.false_eq_true] at h' <;> simp only [SeqAt.noMix]
  ·exact all _ _ h h'
  ·exact all _ _ h h'
theorem h_J:∀ (n:Nat) (d d':PyData),iT n d=true->iT n d'=true->(same d d'=true ↔ d=d'):=by
 intro n
 induction n with
 | zero=>intro d d' h h'; cases d <;> simp [iT] at h <;> cases d' <;> simp [iT] at h' <;> simp [same]
 | succ n ih =>
  have all:∀ ys zs:List PyData,ys.all (iT n)=true->zs.all (iT n)=true->(sameAll ys zs=true ↔ ys=zs):=by
   intro ys
   induction ys with
   | nil=>intro zs _ _; cases zs <;> simp [sameAll]
   | cons y r ihr =>
    intro zs hy hz;cases zs with
    | nil=>simp [sameAll]
    | cons z t =>
     rw [List.all_cons,Bool.and_eq_true] at hy hz;simp only [sameAll,Bool.and_eq_true,List.cons.injEq];rw [ih y z hy.1 hz.1,ihr t hy.2 hz.2]
  intro d d' h h';cases d <;> simp only [iT,Bool.false_eq_true] at h <;> cases d' <;> simp only [iT,Bool.false_eq_true] at h' <;> simp only [same,beq_iff_eq,PyData.int.injEq,PyData.list.injEq,PyData.tuple.injEq,reduceCtorEq,Bool.false_eq_true]
  ·exact all _ _ h h'
  ·exact all _ _ h h'
theorem f_P {n:Nat} {d:PyData} (hn:n<=64) (h:iT n d=true):SeqAt.shaped d=true:=by
 have:=e_q n d h;unfold SeqAt.shaped;rw [Bool.and_eq_true];exact ⟨this.1,zW (by omega)⟩
section
variable {K:Frag} {H:Hp} {x y:V} {d d':PyData} {Q:VK}
theorem x_c (n:Nat) (hn:n<=64) (h1:Dt K H x d) (h2:Dt K H y d') (t1:iT n d=true) (t2:iT n d'=true) {b:Bool} (hb:b=true ↔ d=d') (q:Q (.bl b) H):rEqD K x y H Q:=by
 refine ⟨d,d',h1,h2,f_P hn t1,f_P hn t2,j_U n d d' t1 t2,?_⟩;have:=h_J n d d' t1 t2;have e:same d d'=b:=by
  cases hs:same d d' <;> cases b <;> simp_all
 rw [e];exact q
theorem g_R (n:Nat) (hn:n<=64) (h1:Dt K H x d) (h2:Dt K H y d') (t1:iT n d=true) (t2:iT n d'=true) {b:Bool} (hb:b=true ↔ d=d') (q:Q (.bl (!b)) H):rNeD K x y H Q:=by
 refine ⟨d,d',h1,h2,f_P hn t1,f_P hn t2,j_U n d d' t1 t2,?_⟩;have:=h_J n d d' t1 t2;have e:same d d'=b:=by
  cases hs:same d d' <;> cases b <;> simp_all
 rw [e];exact q
end
noncomputable def seqD (b:Bool) (ds:List PyData):PyData:=match b with | false=>.list ds | true=>.tuple ds
noncomputable def e_f (b:Bool) (ns:List Int):PyData:=seqD b (ns.map PyData.int)
noncomputable def matD (b1 b2:Bool) (rows:List (List Int)):PyData:=seqD b1 (rows.map (e_f b2))
theorem k_Y {b:Bool} {xs ys:List PyData}:seqD b xs=seqD b ys ↔ xs=ys:=by cases b <;> simp [seqD]
theorem j_V {α β:Type} {f:α->β} (hf:∀ x y,f x=f y->x=y):∀ {xs ys:List α},xs.map f=ys.map f ↔ xs=ys
 | [],[]=>by simp
 | [],_ :: _=>by simp
 | _ :: _,[]=>by simp
 | x :: r,y :: t=>by
  rw [List.map_cons,List.map_cons,List.cons.injEq,List.cons.injEq,j_V hf];exact ⟨λ h=>⟨hf _ _ h.1,h.2⟩,λ h=>⟨by rw [h.1],h.2⟩⟩
theorem j_l {b:Bool} {ns ms:List Int}:e_f b ns=e_f b ms ↔ ns=ms:=by
 unfold e_f;rw [k_Y,j_V λ x y h=>by injection h]
theorem r_t {b1 b2:Bool} {A B:List (List Int)}:matD b1 b2 A=matD b1 b2 B ↔ A=B:=by
 unfold matD;rw [k_Y,j_V λ x y h=>j_l.mp h]
theorem t_X (b:Bool) (n:Nat) (ns:List Int):iT (n+1) (e_f b ns)=true:=by
 have:(ns.map PyData.int).all (iT n)=true:=by
  rw [List.all_eq_true];intro d hd;obtain ⟨i,_,rfl⟩:=List.mem_map.mp hd;cases n <;> rfl
 cases b <;> simpa [e_f,seqD,iT] using this
theorem x_d (b1 b2:Bool) (n:Nat) (rows:List (List Int)):iT (n+2) (matD b1 b2 rows)=true:=by
 have:(rows.map (e_f b2)).all (iT (n+1))=true:=by
  rw [List.all_eq_true];intro d hd;obtain ⟨i,_,rfl⟩:=List.mem_map.mp hd;exact t_X b2 n i
 cases b1 <;> simpa [matD,seqD,iT] using this
theorem Dt.seqB {b:Bool} {K:Frag} {H:Hp} {a:Addr} {xs:List V} {ds:List PyData} (h:SqB b K H a xs) (hd:Dts K H xs ds):Dt K H (.ref a) (seqD b ds):=by
 cases b
 ·exact .lst h hd
 ·exact .tup h hd
theorem Dt.intsB {b:Bool} {K:Frag} {H:Hp} {a:Addr} {ns:List Int} (h:SqB b K H a (ns.map V.int)):Dt K H (.ref a) (e_f b ns):=Dt.seqB h (Dts.ints ns)
theorem Dt.matB {b1 b2:Bool} {K:Frag} {H:Hp} {a:Addr} {rows:List (List Int)} (h:MatB b1 b2 K H a rows):Dt K H (.ref a) (matD b1 b2 rows):=by
 obtain ⟨ps,h1,h2,h3⟩:=h;refine Dt.seqB h1 ?_;clear h1
 induction ps generalizing rows with
 | nil =>
  cases rows with
  | nil=>exact .nil
  | cons r t=>simp at h2
 | cons p ps ih =>
  cases rows with
  | nil=>simp at h2
  | cons r t =>
   refine .cons (Dt.intsB (h3 0 p r rfl rfl)) (ih (by simpa using h2) λ i q z e1 e2=>h3 (i+1) q z (by simpa using e1) (by simpa using e2))
section
variable {wi:TI} {g:TG} {tt:TOx} {te:TE} {tc:TT} {n:Nat} {fr:List (Str × Nat)} {σ:St} {H:Hp} {Q:VK}
theorem b_E (h:∀ B:TE,B=te->wi σ H λ J H1=>∀ a,H1 a=none->d_J J g (tEl B) n fr σ a H1 Q):e_p wi g (tEl te) n fr σ H Q:=h _ rfl
theorem r_u (h:∀ (C:TT) (B:TE),C=tc->B=te->wi σ H λ J H1=>∀ a,H1 a=none->d_J J g (j_j C B) n fr σ a H1 Q):e_p wi g (j_j tc te) n fr σ H Q:=h _ _ rfl rfl
end
noncomputable def seqO (b:Bool) (xs:List V):HO:=match b with | false=>.lst xs | true=>.tup xs
noncomputable def rSlB (K:Frag):V->Option Int->Option Int->Hp->VK->Prop:=λ x lo hi H Q=>∃ b a xs,x=.ref a/\SqB b K H a xs /\
 (b=true->¬ (HT.sIx xs.length 0 lo=0/\HT.sIx xs.length xs.length hi=xs.length))/\∀ p,H p=none->Q (.ref p) (upd H p (seqO b (cutV xs lo hi)))
theorem sl_B {X:Cx}:SlR X (rSlB X.K):=by
 intro pins s σ H x v vl vu lo hi sl Q I rx hs pl pu h;obtain ⟨b,a,xs,e,hq,hw,q⟩:=h;cases b
 ·exact t_P pins s σ H x v vl vu lo hi sl Q I rx hs pl pu ⟨a,xs,e,hq,q⟩
 ·exact v_v pins s σ H x v vl vu lo hi sl Q I rx hs pl pu ⟨a,xs,e,hq,hw rfl,q⟩
noncomputable def MatL (H:Hp) (a:Addr) (rows:List (List Int)):Prop:=∃ ps:List Addr,H a=some (.lst (ps.map V.ref))/\ps.length=rows.length/\∀ (i:Nat) (p:Addr) (r:List Int),ps[i]?=some p->rows[i]?=some r->p≠a/\H p=some (.lst (r.map V.int))
theorem MatL.b {K:Frag} {H:Hp} {a:Addr} {rows:List (List Int)} (h:MatL H a rows):MatB false false K H a rows:=let ⟨ps,h1,h2,h3⟩:=h; ⟨ps,SqB.lst h1,h2,λ i p r e1 e2=>SqB.lst (h3 i p r e1 e2).2⟩
theorem MatL.up {H H':Hp} {a:Addr} {rows:List (List Int)} (h:MatL H a rows) (s:Same H H'):MatL H' a rows:=let ⟨ps,h1,h2,h3⟩:=h; ⟨ps,s _ _ h1,h2,λ i p r e1 e2=>⟨(h3 i p r e1 e2).1,s _ _ (h3 i p r e1 e2).2⟩⟩
theorem MatL.of {H:Hp} {a:Addr} {f:Nat->List Int} {ys:List V} (h:H a=some (.lst ys)) (hr:∀ (j:Nat) y,ys[j]?=some y->RowR a f j y H):MatL H a ((List.range ys.length).map f):=by
 have hp:∃ ps:List Addr,ys=ps.map V.ref:=by
  clear h;have:∀ (zs:List V) (k:Nat),(∀ (j:Nat) y,zs[j]?=some y->RowR a f (j+k) y H)->∃ ps:List Addr,zs=ps.map V.ref:=by
   intro zs
   induction zs with
   | nil=>intro k _; exact ⟨[],rfl⟩
   | cons z r ih =>
    intro k hz;obtain ⟨p,e,_⟩:=hz 0 z rfl;obtain ⟨ps,e2⟩:=ih (k+1) λ j y q=>by
     have:=hz (j+1) y (by simpa using q)
     rwa [Nat.add_assoc,Nat.add_comm 1 k] at this
    exact ⟨p :: ps,by rw [e,e2]; rfl⟩
  exact this ys 0 hr
 obtain ⟨ps,rfl⟩:=hp;refine ⟨ps,h,by simp,λ i p r e1 e2=>?_⟩;obtain ⟨p',e,n,q⟩:=hr i (.ref p) (by simp [e1]);cases e;have hi:i < ps.length:=(List.getElem?_eq_some_iff.mp e1).1;have:r=f i:=by
  rw [zH,yI,yH hi] at e2;exact (zT e2).symm
 rw [this];exact ⟨n,q⟩
theorem MatB.row {b1 b2:Bool} {K:Frag} {H:Hp} {a:Addr} {rows:List (List Int)} (h:MatB b1 b2 K H a rows) {i:Nat} {r:List Int} (e:rows[i]?=some r):∃ ps:List Addr,∃ p,SqB b1 K H a (ps.map V.ref)/\(ps.map V.ref)[i]?=some (.ref p)/\(ps.map V.ref).length=rows.length/\SqB b2 K H p (r.map V.int):=by
 obtain ⟨ps,h1,h2,h3⟩:=h;have hi:i < ps.length:=by have:=(List.getElem?_eq_some_iff.mp e).1; omega
 exact ⟨ps,ps[i],h1,by simp [hi],by simp [h2],h3 i _ r (by simp [hi]) e⟩
theorem MatB.walk {b1 b2:Bool} {K:Frag} {H:Hp} {a:Addr} {rows:List (List Int)} (h:MatB b1 b2 K H a rows):∃ xs:List V,SqB b1 K H a xs/\xs.length=rows.length/\∀ (i:Nat) x,xs[i]?=some x->∃ p r,x=.ref p/\rows[i]?=some r/\SqB b2 K H p (r.map V.int):=by
 obtain ⟨ps,h1,h2,h3⟩:=h;refine ⟨_,h1,by simp [h2],λ i x e=>?_⟩;rw [zH] at e;cases q:ps[i]? with
 | none=>rw [q] at e; cases e
 | some p =>
  rw [q] at e;have hi:i < rows.length:=by have:=(List.getElem?_eq_some_iff.mp q).1; omega
  exact ⟨p,rows[i],(zT e).symm,by simp [hi],h3 i p _ q (by simp [hi])⟩
theorem a_V {α:Type} {xs:List α} {k:Nat} {x:α} {i:Int} (h:xs[k]?=some x) (hi:i=k):atI xs i=some x:=by
 subst hi;exact t_N h
theorem e_K {ns:List Int} {i:Nat} {x:V} (h:(ns.map V.int)[i]?=some x):∃ n,ns[i]?=some n/\x=.int n:=by
 rw [zH] at h;cases e:ns[i]? with
 | none=>rw [e] at h; cases h
 | some n=>rw [e] at h; exact ⟨n,rfl,(zT h).symm⟩
theorem j_W {ns:List Int} {i:Nat} {n:Int} (h:ns[i]?=some n):(ns.map V.int)[i]?=some (.int n):=by rw [zH,h]; rfl
theorem getD_of {ns:List Int} {k:Nat} {n:Int} (h:ns[k]?=some n):ns.getD k 0=n:=by rw [List.getD_eq_getElem?_getD,h]; rfl
theorem h_K {ns:List Int} {k:Nat} (h:k < ns.length):ns[k]?=some (ns.getD k 0):=by simp [h]
theorem getD_mem {ns:List Int} {k:Nat} (h:k < ns.length):ns.getD k 0∈ns:=by
 rw [show ns.getD k 0=ns[k] by simp [h]];exact yA h
noncomputable def colI (k:Nat) (rows:List (List Int)):List Int:=rows.map λ r=>r.getD k 0
noncomputable def dotI (ms ns:List Int):Int:=(List.zipWith (·*·) ms ns).sum
noncomputable def o_q (w:Nat) (rows:List (List Int)):List (List Int):=(List.range w).map λ k=>colI k rows
noncomputable def mulM (w:Nat) (A B:List (List Int)):List (List Int):=A.map λ r=>(List.range w).map λ k=>dotI r (colI k B)
section
variable {K:Frag} {g:TG} {tb:TS} {σ:St} {H:Hp} {nx:St->Hp->Prop} {rt:VK}
noncomputable abbrev o_r (J:It) (g:TG) (tb:TS) (nx:St->Hp->Prop) (rt:VK) (σ:St) (H:Hp):Prop:=∃ W:Nat->Nat->St->Hp->Prop,(∃ m,W 0 m σ H)/\∀ i m σ H,W i m σ H ->
 (J.stop i H/\nx σ H)\/(J.go i H/\∃ N:St->Hp->Prop,(∀ σ' H',N σ' H'->∃ m',m' < m/\W (i+1) m' σ' H')/\∀ x H',J.yld i H x H'->g x σ H' λ σ2 H2=>tb { nx:=N,rt:=rt,bk:=nx,ct:=N } σ2 H2)
theorem e_L {b:Bool} {a:Addr} {xs:List V} (Pv:Nat->St->Hp->Prop) (h0:Pv 0 σ H) (hl:∀ i σ H,i<=xs.length->Pv i σ H->SqB b K H a xs)
  (hs:∀ i x σ H,xs[i]?=some x->Pv i σ H->g x σ H λ σ2 H2=>tb { nx:=Pv (i+1),rt:=rt,bk:=nx,ct:=Pv (i+1) } σ2 H2) (hd:∀ σ H,Pv xs.length σ H->nx σ H):o_r (Its K b a) g tb nx rt σ H :=
 t_U (D:={ nx:=nx,rt:=rt,bk:=nx,ct:=nx }) Pv h0 hl hs hd
theorem o_s {b:Bool} {a:Addr} {xs:List V} (Pv:Nat->St->Hp->Prop) (h0:Pv 0 σ H) (hl:∀ i σ H,i<=xs.length->Pv i σ H->SqB b K H a xs)
  (hs:∀ i x p σ H,xs[i]?=some x->Pv i σ H->H p=none->g (.ref p) σ (upd H p (.tup [.int i,x])) λ σ2 H2=>tb { nx:=Pv (i+1),rt:=rt,bk:=nx,ct:=Pv (i+1) } σ2 H2) (hd:∀ σ H,Pv xs.length σ H->nx σ H):o_r (Ite K b a) g tb nx rt σ H :=
 r_r (D:={ nx:=nx,rt:=rt,bk:=nx,ct:=nx }) Pv h0 hl hs hd
end
theorem i_l {b1 b2:Bool} {K:Frag} {H:Hp} {a:Addr} {rows:List (List Int)} {i k:Nat} {r:List Int} {x:Int} {I J:Int} {Q:VK} (h:MatB b1 b2 K H a rows) (e:rows[i]?=some r) (e2:r[k]?=some x) (hi:I=i) (hk:J=k) (q:Q (.int x) H) :
  rIxB K (.ref a) (.int I) H λ v H1=>rIxB K v (.int J) H1 Q:=by
 obtain ⟨ps,p,k1,k2,k3,k4⟩:=h.row e;exact ⟨b1,a,_,_,_,rfl,rfl,k1,a_V k2 hi,b2,p,_,_,_,rfl,rfl,k4,a_V (j_W e2) hk,q⟩
theorem t_Y {b1 b2:Bool} {K:Frag} {H:Hp} {a:Addr} {rows:List (List Int)} {i:Nat} {r:List Int} {I:Int} {Q:VK} (h:MatB b1 b2 K H a rows) (e:rows[i]?=some r) (hi:I=i) (q:∀ p,SqB b2 K H p (r.map V.int)->Q (.ref p) H) :
  rIxB K (.ref a) (.int I) H Q:=by
 obtain ⟨ps,p,k1,k2,k3,k4⟩:=h.row e;exact ⟨b1,a,_,_,_,rfl,rfl,k1,a_V k2 hi,q p k4⟩
theorem j_X {b1 b2:Bool} {K:Frag} {H:Hp} {a:Addr} {rows:List (List Int)} {Q:VK} (h:MatB b1 b2 K H a rows) (q:Q (.int rows.length) H):g_s K [.ref a] H Q:=by
 obtain ⟨ps,h1,h2,h3⟩:=h;refine ⟨b1,a,_,rfl,h1,?_⟩;rw [yI,h2];exact q
theorem g_t {b:Bool} {K:Frag} {H:Hp} {a:Addr} {ns:List Int} {Q:VK} (h:SqB b K H a (ns.map V.int)) (q:Q (.int ns.length) H):g_s K [.ref a] H Q:=by
 refine ⟨b,a,_,rfl,h,?_⟩;rw [yI];exact q
noncomputable def c_I (a:Addr) (H:Hp) (zs:List V) (M:List (List Int)):Prop:=∃ ps:List Addr,zs=ps.map V.ref/\ps.length=M.length/\∀ (j:Nat) (p:Addr) (r:List Int),ps[j]?=some p->M[j]?=some r->p≠a/\H p=some (.lst (r.map V.int))
theorem c_I.nil {a:Addr} {H:Hp}:c_I a H [] []:=⟨[],rfl,rfl,λ j p r e=>by simp at e⟩
theorem c_I.len {a:Addr} {H:Hp} {zs:List V} {M:List (List Int)} (h:c_I a H zs M):zs.length=M.length:=let ⟨ps,e,l,_⟩:=h; by rw [e,yI,l]
theorem c_I.mono {a:Addr} {H H':Hp} {zs:List V} {M:List (List Int)} (h:c_I a H zs M) (s:e_U a H H'):c_I a H' zs M:=let ⟨ps,e,l,q⟩:=h; ⟨ps,e,l,λ j p r e1 e2=>⟨(q j p r e1 e2).1,s _ _ (q j p r e1 e2).1 (q j p r e1 e2).2⟩⟩
theorem c_I.snoc {a p:Addr} {H:Hp} {zs:List V} {M:List (List Int)} {r:List Int} (h:c_I a H zs M) (ne:p≠a) (hp:H p=some (.lst (r.map V.int))):c_I a H (zs++[.ref p]) (M++[r]):=by
 obtain ⟨ps,rfl,h2,h3⟩:=h;refine ⟨ps++[p],by simp,by simp [h2],λ i q z e1 e2=>?_⟩
 by_cases hi:i < ps.length
 ·rw [yC hi] at e1;rw [yC (by omega)] at e2;exact h3 i q z e1 e2
 ·have e0:i=ps.length:=by
   have:=(List.getElem?_eq_some_iff.mp e1).1;simp at this;omega
  subst e0;rw [yD (zL _)] at e1;rw [h2,yD (zL _)] at e2;simp at e1 e2;subst e1 e2;exact ⟨ne,hp⟩
theorem c_I.mat {a:Addr} {H:Hp} {zs:List V} {M:List (List Int)} (h:H a=some (.lst zs)) (r:c_I a H zs M):MatL H a M:=by
 obtain ⟨ps,rfl,h2,h3⟩:=r;exact ⟨ps,h,h2,h3⟩
theorem k_Z (ns:List Int) (lo hi:Option Int):cutV (ns.map V.int) lo hi=((ns.drop (HT.sIx ns.length 0 lo)).take (HT.sIx ns.length ns.length hi - HT.sIx ns.length 0 lo)).map V.int:=by
 unfold cutV;rw [yI,List.map_take,List.map_drop]
theorem v_D {ns:List Int} {k:Nat} (h:k<=ns.length):cutV (ns.map V.int) none (some (k:Int))=(ns.take k).map V.int:=by
 rw [k_Z,HT.sIx_none,HT.sIx_nat,Nat.min_eq_left h];simp
theorem r_v {ns:List Int} {k:Nat} (h:k<=ns.length):cutV (ns.map V.int) (some (k:Int)) none=(ns.drop k).map V.int:=by
 rw [k_Z,HT.sIx_none,HT.sIx_nat,Nat.min_eq_left h,List.take_of_length_le (by simp)]
section
variable {K:Frag} {H:Hp} {a a1:Addr} {M:List (List Int)} {σ:St} {Q:VK} {b1 b2:Bool}
noncomputable def MatT (H:Hp) (a:Addr) (rows:List (List Int)):Prop:=∃ ps:List Addr,H a=some (.lst (ps.map V.ref))/\ps.length=rows.length/\∀ (i:Nat) (p:Addr) (r:List Int),ps[i]?=some p->rows[i]?=some r->H p=some (.tup (r.map V.int))
theorem r_w (hM:MatB b1 false K H a M) (hl:M.length<=1000) (ha1:H a1=none) (hQ:∀ H1,Same H H1->MatT H1 a1 M->Q (.ref a1) H1):d_J (Its K b1 a) (a_T 0) (tEl (tCB (o_p K) (b_X (tVar 0) tNil))) 1 [] σ a1 H Q:=by
 obtain ⟨xs,x1,x2,x3⟩:=hM.walk;refine c_T (λ j y H1=>∃ p r,y=.ref p/\M[j]?=some r/\p≠a1/\H1 p=some (.tup (r.map V.int))) ha1 x1 (by omega) (λ i y H1 H2 ⟨p,r,e1,e2,e3,e4⟩ s=>⟨p,r,e1,e2,e3,s _ _ e3 e4⟩) ?_ ?_
 ·intro i x H1 zs ex s1 ez Q' hQ';obtain ⟨p,r,rfl,er,hp⟩:=x3 i x ex;exact ⟨_,rfl,p,_,rfl,.inl ⟨hp.up s1,λ l hl1=>hQ' _ _ (Same.new hl1) ⟨l,r,rfl,er,Ne.symm (b_z ez hl1),a_F⟩⟩⟩
 ·intro H1 ys s1 e1 hly hr1;have hps:∃ ps:List Addr,ys=ps.map V.ref:=by
   clear e1 hly;have:∀ (zs:List V),(∀ (j:Nat) y,zs[j]?=some y->∃ p:Addr,y=.ref p)->∃ ps:List Addr,zs=ps.map V.ref:=by
    intro zs
    induction zs with
    | nil=>intro _; exact ⟨[],rfl⟩
    | cons z r ih =>
     intro hz;obtain ⟨p,e⟩:=hz 0 z rfl;obtain ⟨ps,e2⟩:=ih λ j y q=>hz (j+1) y (by simpa using q);exact ⟨p :: ps,by rw [e,e2]; rfl⟩
   exact this ys λ j y e=>let ⟨p,r,e1,_⟩:=hr1 j y e; ⟨p,e1⟩
  obtain ⟨ps,rfl⟩:=hps;refine hQ H1 s1 ⟨ps,e1,by simp at hly; omega,λ i p r e2 e3=>?_⟩;obtain ⟨p',r',e4,e5,_,e6⟩:=hr1 i (.ref p) (by simp [e2]);cases e4;rw [e3] at e5;cases e5;exact e6
theorem MatT.tuple {l:Addr} (h:MatT H a M) (hl:H l=none):∃ zs,H a=some (.lst zs)/\MatB true true K (upd H l (.tup zs)) l M:=by
 obtain ⟨ps,h1,h2,h3⟩:=h;exact ⟨_,h1,ps,SqB.tup a_F,h2,λ i p r e1 e2=>SqB.tup (Same.new hl _ _ (h3 i p r e1 e2))⟩
end
theorem g_u {X:Cx} {x:Str} {v:V} {pos:Pos} (hg:Gl X x) (h:∃ u,X.mg x=some u/\RelV v u) (hd:(x == ("__debug__" : Str))=false:=by decide):PE X (.Name x pos) (tC v):=by
 obtain ⟨u,e,r⟩:=h;exact f_K hg e r hd
noncomputable def MkI (te:TE) (n:Int):Prop:=∀ σ H Q,Q (.int n) H->te σ H Q
theorem MkI.pos (n:Int):MkI (tC (.int n)) n:=λ _ _ _ q=>q
theorem MkI.neg (n:Int):MkI (tUn (rU λ i=>.int (-i)) (tC (.int n))) (-n):=λ _ _ _ q=>⟨n,rfl,q⟩
noncomputable def MkIs (ta:TA) (ns:List Int):Prop:=∀ σ H Q,Q (ns.map V.int) H->ta σ H Q
theorem MkIs.nil:MkIs tNil []:=λ _ _ _ q=>q
theorem MkIs.cons {te:TE} {ta:TA} {n:Int} {ns:List Int} (h:MkI te n) (h2:MkIs ta ns):MkIs (b_X te ta) (n :: ns):=λ σ H Q q=>h σ H _ (h2 σ H _ q)
noncomputable def MkR (te:TE) (ns:List Int):Prop:=∀ σ H Q,(∀ p H',Same H H'->H p=none->H' p=some (.lst (ns.map V.int))->Q (.ref p) H')->te σ H Q
theorem MkR.of {ta:TA} {ns:List Int} (h:MkIs ta ns) (hz:ns.length<=1000):MkR (tLst ta) ns:=λ σ H Q q=>h σ H _ ⟨by rw [yI]; exact Nat.le_of_lt (f_N hz),λ l hl=>q l _ (Same.new hl) hl a_F⟩
noncomputable def MkRs (ta:TA) (M:List (List Int)):Prop:=∀ σ H Q,(∀ ps H',Same H H'->RefRowsN H H' ps M->Q (ps.map V.ref) H')->ta σ H Q
where RefRowsN (H H':Hp) (ps:List Addr) (M:List (List Int)):Prop:=ps.length=M.length/\∀ (j:Nat) (p:Addr) (r:List Int),ps[j]?=some p->M[j]?=some r->H' p=some (.lst (r.map V.int))
theorem MkRs.nil:MkRs tNil []:=λ _ H Q q=>q [] H (Same.refl _) ⟨rfl,λ j p r e=>by simp at e⟩
theorem MkRs.cons {te:TE} {ta:TA} {ns:List Int} {M:List (List Int)} (h:MkR te ns) (h2:MkRs ta M):MkRs (b_X te ta) (ns :: M):=λ σ H Q q=>h σ H _ λ p H1 s1 hp e1=>h2 σ H1 _ λ ps H2 s2 r=>q (p :: ps) H2 (s1.trans s2) ⟨by simp [r.1],λ j p' r' e e'=>by
 cases j with
 | zero=>simp at e e'; subst e e'; exact s2 _ _ e1
 | succ j=>exact r.2 j p' r' (by simpa using e) (by simpa using e')⟩
noncomputable def MkM (te:TE) (M:List (List Int)):Prop:=∀ σ H Q,(∀ p H',Same H H'->H p=none->MatL H' p M->Q (.ref p) H')->te σ H Q
noncomputable def Mats (H:Hp) (p:Addr) (Ms:List (List (List Int))):Prop:=∃ ps:List Addr,H p=some (.lst (ps.map V.ref))/\ps.length=Ms.length/\∀ (i:Nat) (q:Addr) (M:List (List Int)),ps[i]?=some q->Ms[i]?=some M->MatL H q M
theorem Mats.up {H H':Hp} {p:Addr} {Ms:List (List (List Int))} (h:Mats H p Ms) (s:Same H H'):Mats H' p Ms:=let ⟨ps,h1,h2,h3⟩:=h; ⟨ps,s _ _ h1,h2,λ i q M e1 e2=>(h3 i q M e1 e2).up s⟩
noncomputable def MkMs (ta:TA) (Ms:List (List (List Int))):Prop:=∀ σ H Q,(∀ (ps:List Addr) H',Same H H'->ps.length=Ms.length->(∀ (i:Nat) (q:Addr) (M:List (List Int)),ps[i]?=some q->Ms[i]?=some M->MatL H' q M)->Q (ps.map V.ref) H')->ta σ H Q
theorem MkMs.nil:MkMs tNil []:=λ _ H Q q=>q [] H (Same.refl _) rfl λ j p r e=>by simp at e
theorem MkMs.cons {te:TE} {ta:TA} {M:List (List Int)} {Ms:List (List (List Int))} (h:MkM te M) (h2:MkMs ta Ms):MkMs (b_X te ta) (M :: Ms):=λ σ H Q q=>h σ H _ λ p H1 s1 _ e1=>h2 σ H1 _ λ ps H2 s2 l r=>q (p :: ps) H2 (s1.trans s2) (by simp [l]) λ j p' r' e e'=>by
 cases j with
 | zero=>simp at e e'; subst e e'; exact e1.up s2
 | succ j=>exact r j p' r' (by simpa using e) (by simpa using e')
theorem MkMs.lst {ta:TA} {Ms:List (List (List Int))} (h:MkMs ta Ms) (hz:Ms.length<=1000) {σ:St} {H:Hp} {Q:VK} (q:∀ p H',Same H H'->Mats H' p Ms->Q (.ref p) H'):tLst ta σ H Q:=h σ H _ λ ps H1 s1 l r=>⟨by rw [yI,l]; exact Nat.le_of_lt (f_N hz),λ a ha =>
 q a _ (s1.trans (Same.new ha)) ⟨ps,a_F,l,λ i q M e1 e2=>(r i q M e1 e2).up (Same.new ha)⟩⟩
theorem Mats.at {K:Frag} {H:Hp} {p:Addr} {Ms:List (List (List Int))} {i:Nat} {M:List (List Int)} {I:Int} {Q:VK} (h:Mats H p Ms) (e:Ms[i]?=some M) (hi:I=i) (k:∀ q,MatL H q M->Q (.ref q) H):rIxB K (.ref p) (.int I) H Q:=by
 obtain ⟨ps,h1,h2,h3⟩:=h;have hlt:i < ps.length:=by have:=(List.getElem?_eq_some_iff.mp e).1; omega
 exact ⟨false,p,_,_,_,rfl,rfl,SqB.lst h1,a_V (show (ps.map V.ref)[i]?=some (.ref ps[i]) by simp [hlt]) hi,k _ (h3 i _ M (by simp [hlt]) e)⟩
noncomputable def MatD (H0 H:Hp) (a:Addr) (rows:List (List Int)):Prop:=∃ ps:List Addr,H a=some (.lst (ps.map V.ref))/\ps.length=rows.length/\ps.Nodup/\∀ (i:Nat) (p:Addr) (r:List Int),ps[i]?=some p->rows[i]?=some r->p≠a/\H0 p=none/\H p=some (.lst (r.map V.int))
theorem MatD.up {H0 H H':Hp} {a:Addr} {rows:List (List Int)} (h:MatD H0 H a rows) (s:Same H H'):MatD H0 H' a rows:=let ⟨ps,h1,h2,n,h3⟩:=h; ⟨ps,s _ _ h1,h2,n,λ i p r e1 e2=>⟨(h3 i p r e1 e2).1,(h3 i p r e1 e2).2.1,s _ _ (h3 i p r e1 e2).2.2⟩⟩
theorem MatD.row {H0 H:Hp} {a:Addr} {rows:List (List Int)} {i:Nat} {r:List Int} (h:MatD H0 H a rows) (e:rows[i]?=some r):∃ zs p,H a=some (.lst zs)/\zs[i]?=some (.ref p)/\zs.length=rows.length/\p≠a/\H0 p=none/\H p=some (.lst (r.map V.int))/\∀ r',MatD H0 (upd H p (.lst (r'.map V.int))) a (rows.set i r'):=by
 obtain ⟨ps,h1,h2,hn,h3⟩:=h;have hi:i < ps.length:=by have:=(List.getElem?_eq_some_iff.mp e).1; omega
 have hp:=h3 i ps[i] r (by simp [hi]) e;refine ⟨_,ps[i],h1,by simp [hi],by simp [h2],hp.1,hp.2.1,hp.2.2,λ r'=>⟨ps,by rw [a_I (Ne.symm hp.1)]; exact h1,by simp [h2],hn,λ j q z e1 e2=>?_⟩⟩
 by_cases hj:j=i
 ·subst hj;have eq:q=ps[j]:=by simp [hi] at e1; exact e1.symm
  subst eq;rw [zP (by omega)] at e2;cases e2;exact ⟨hp.1,hp.2.1,a_F⟩
 ·rw [zQ (Ne.symm hj)] at e2;obtain ⟨n1,n3,n2⟩:=h3 j q z e1 e2;have:q≠ps[i]:=λ w=>by
   have hjl:=(List.getElem?_eq_some_iff.mp e1);obtain ⟨hjl,ej⟩:=hjl;exact hj ((List.getElem_inj hn).mp (ej.trans w))
  exact ⟨n1,n3,by rw [a_I this]; exact n2⟩
noncomputable def litI:Expr->Option Int
 | .Constant (.int i) _ _=>some i
 | .UnaryOp .USub (.Constant (.int i) _ _) _=>some (-i)
 | _=>none
noncomputable def o_t:List Expr->Option (List Int)
 | []=>some []
 | e :: es=>match litI e,o_t es with | some n,some ns=>some (n :: ns) | _,_=>none
noncomputable def litR:Expr->Option (List Int)
 | .List es _=>o_t es
 | _=>none
section
variable {X:Cx}
theorem PE.weak {e:Expr} {t u:TE} (h:PE X e t) (w:∀ σ H Q,u σ H Q->t σ H Q):PE X e u:=λ pins s σ H Q I q=>h pins s σ H Q I (w σ H Q q)
theorem PA.weak {es:List Expr} {t u:TA} (h:PA X es t) (w:∀ σ H Q,u σ H Q->t σ H Q):PA X es u:=λ pos pins s σ H Q I q=>h pos pins s σ H Q I (w σ H Q q)
theorem b_I {e:Expr} {n:Int} (h:litI e=some n):PE X e (tC (.int n))/\∀ es,starEach (e :: es) X.env=(false,eval e X.env) :: starEach es X.env:=by
 unfold litI at h;split at h
 ·cases h; exact ⟨a_E,λ _=>rfl⟩
 ·cases h;exact ⟨(e_S d_S a_E).weak λ σ H Q q=>⟨_,rfl,q⟩,λ _=>rfl⟩
 ·cases h
theorem l_z:∀ {es:List Expr} {ns:List Int},o_t es=some ns->PA X es λ _ H Q=>Q (ns.map V.int) H
 | [],ns,h=>by cases h; exact a_C
 | e :: es,ns,h=>by
  unfold o_t at h;split at h
  ·rename_i n ms e1 e2;cases h;exact (a_A (b_I e1).1 (l_z e2) ((b_I e1).2 es)).weak λ σ H Q q=>q
  ·cases h
noncomputable def u_X (ns:List Int):TE:=λ _ H Q=>∀ p H',Same H H'->H p=none->H' p=some (.lst (ns.map V.int))->Q (.ref p) H'
theorem t_Z {e:Expr} {ns:List Int} (h:litR e=some ns) (hz:ns.length<=1000):PE X e (u_X ns)/\∀ es,starEach (e :: es) X.env=(false,eval e X.env) :: starEach es X.env:=by
 unfold litR at h;split at h
 ·refine ⟨(d_T (l_z h)).weak λ σ H Q q=>MkR.of (ta:=λ _ H Q=>Q (ns.map V.int) H) (λ _ _ _ q=>q) hz σ H Q q,λ _=>rfl⟩
 ·cases h
end
theorem w_C {es:List Expr} {pos:Pos} {t:Option Expr} {l:Nat} {env:Env}:swapsWith (.List es pos) t l env=pure false:=by cases t <;> rfl
theorem w_D {a b:Expr} {op:Operator} {pos:Pos} {t:Option Expr} {l:Nat} {env:Env}:swapsWith (.BinOp a op b pos) t l env=pure false:=by cases t <;> rfl
noncomputable def isList:Expr->Bool
 | .List _ _=>true
 | _=>false
section
variable {X:Cx}
theorem j_m:∀ {bs:List Bool} {its:List Value},Vals (bs.map V.bl) its->∀ (i:Nat) (v:Value),its[i]?=some v->∃ b,bs[i]?=some b/\v=.bool b
 | [],_,.nil,i,v,e=>by simp at e
 | b :: r,_,.cons h q,i,v,e=>by
  cases i with
  | zero=>simp at e; subst e; exact ⟨b,rfl,h⟩
  | succ i=>simpa using j_m (bs:=r) q i v (by simpa using e)
theorem i_m:∀ bs:List Bool,((List.range bs.length).any λ i=>(bs[i]?).getD false)=bs.any id
 | []=>rfl
 | b :: bs=>by
  have ih:=i_m bs;rw [List.length_cons,List.range_succ_eq_map,List.any_cons,List.any_cons,List.any_map];show (b || _)=(b || _);congr 1
theorem r_x (hc:X.calm=true):c_O X (.builtin "any") (λ xs H Q=>∃ (p:Addr) (bs:List Bool),xs=[.ref p]/\SqL X.K H p (bs.map V.bl)/\Q (.bl (bs.any id)) H):=by
 intro pins s σ H xs us Q I r h;obtain ⟨p,bs,rfl,hq,q⟩:=h;obtain ⟨u,rfl,rx⟩:=e_T r;cases rx;obtain ⟨its,rv,pl,hz⟩:=I.list hq;have hl:s.heap.IsList p its.toArray:=pl.isList;have hlt:p < s.heap.objs.size:=by obtain ⟨_,e,_⟩:=hl; exact zE e
 have hlen:its.toArray.size=bs.length:=by
  have:=rv.length;simpa using this.symm
 refine call_any_walk (wpAny_pyIter_list hl ?_);refine ⟨s.heap.objs.size,[s.heap.objs.size,p],[s.heap.objs.size],its.toArray.size,_,_,λ i=>(bs[i]?).getD false,rfl,Walks.list (A:=X.A.in1) (I.ok.hd hc) _ p (Nat.ne_of_lt hlt) its.toArray,
  ⟨⟨_,zF _ rfl,rfl,rfl⟩,hl.push _⟩,λ i v s' Q' E' hP hQ=>?_,λ h' tk hk=>?_⟩
 ·obtain ⟨b,e,rfl⟩:=j_m rv i v (by simpa using hP);simp only [e,Option.getD_some] at hQ;exact wpAny_truthy_bool hQ
 ·rw [hlen,i_m bs];refine ⟨.bl (bs.any id),H,I.kept (t':=tk) λ b x e=>hk b x (λ hm=>by rw [List.mem_singleton.mp hm] at e; exact Nat.lt_irrefl _ (zE e)) (zD _ e),rfl,q⟩
end
section
variable {prog:Program} {w:World} {A:Around} {E:Value->Shared->Prop} {s:Shared}
set_option maxRecDepth 100000 in
end
noncomputable def u_Y (K:Frag) (C0:Addr) (tb:XE->TS) (ts:TS):TS:=λ D σ H =>
 tb (λ σ' C H'=>PySem.W.exmOne K C (.ref C0)=some true/\ts D σ' H') D σ H
section
variable {X:Cx} {C0:Addr} {x:Str} {np hpos pos:Pos} {body suite:List Stmt} {b₀:Stmt} {tb:XE->TS} {ts:TS}
theorem SP.offsuite {pins:List (Addr × Obj)} {D:Ends} {f:Flow} {s:Shared} {e:Addr} (ok:X.Ok) (h:SP (X.suite e) pins D f s):SP X pins D f s:=by
 cases f with
 | next=>obtain ⟨σ',H',J,q⟩:=h; exact ⟨σ',H',J.offsuite ok,q⟩
 | brk=>obtain ⟨σ',H',J,q⟩:=h; exact ⟨σ',H',J.offsuite ok,q⟩
 | cont=>obtain ⟨σ',H',J,q⟩:=h; exact ⟨σ',H',J.offsuite ok,q⟩
 | ret u=>obtain ⟨v,σ',H',J,r,q⟩:=h; exact ⟨v,σ',H',J.offsuite ok,r,q⟩
theorem u_a (hst:X.stack=X.env :: X.outer) (hfr:X.env.frame=some X.env.locals) (hex:X.ex=[])
  (hg:Gl X x) (hm:X.mg x=some (.ref C0)) (hb:∀ pn E EX,k_T (X.body pn E) EX->PSs (X.body pn E) body (tb EX)) (hs:∀ e,PSs (X.suite e) (b₀ :: suite) ts)
  (hdb:(x == ("__debug__" : Str))=false:=by decide):PS X (.Try body [.ExceptHandler (some (.Name x np)) none (b₀ :: suite) hpos] [] [] pos) (u_Y X.K C0 tb ts):=by
 intro pins s σ H D I h;refine wpAny_Try_except (zC (hb (X.pn++pins) (λ ev s₁=>wpAny (model X.prog X.w) X.A (noteFrame ev X.env) (λ _ s₂=>wpAny (model X.prog X.w) X.A (setFlight ev none) (λ _ s₃ =>
  wpAny (model X.prog X.w) X.A (handleBy ev X.env [.ExceptHandler (some (.Name x np)) none (b₀ :: suite) hpos]) (SP X pins D) X.xe s₃) X.xe s₂) X.xe s₁) _ ?_ [] s σ H D I.intry h) (λ f s1 q=>?_) λ _ _ q=>q)
 ·intro pins' σ' H' s1 e C J F hE;obtain ⟨hmt,hsuite⟩:=hE;have J1:Inv X pins σ' H' s1:=J.offtry;obtain ⟨B,a0,fl,cov,cvp⟩:=F;have fl':Heap.FlyingW B (X.env :: X.outer) e C a0 s1.heap:=hst ▸ fl;have hfrm:X.A.frames=some (X.env :: X.outer):=I.ok.frames.trans (by rw [hst]);have pn1:∀ p∈X.pn++pins,B.get? p.1=some p.2:=λ p hp=>cvp p (List.mem_append_left _ hp);refine wpAny_looks_onW hfrm hfr fl' λ h4 held4 sm4=>?_;refine wpAny_landsW held4 λ h5 fl5 sm5=>?_;have J5:Inv X pins σ' H' { s1 with heap:=h5 }:=J1.flown hst hfr hex fl5.1 (sm4.trans sm5) cov pn1;have J5':Inv (X.suite e) pins σ' H' { s1 with heap:=h5 }:=J5.insuite;obtain ⟨ob,hob,hobc⟩:=fl5.there;refine wpAny_handleBy_cons (codeAny_handlers_test (e_j (X:=X.suite e) J5' hg hm ?_ hdb)) (by intro q; cases q);have LT:PySem.W.Looks (model X.prog X.w) h5 (typeOf (.ref e)) C:=by
   rw [← hobc];exact (PySem.W.Looks.ld hob).andThen .now
  refine (PySem.W.exm_one J5.kIn LT hmt).here ?_;show codeAny _ _ _ _ _;refine codeAny_handlers_suite ?_;refine lands_againW fl5 λ h6 fl6 sm6=>?_;have J6:Inv X pins σ' H' { s1 with heap:=h6 }:=J1.flown hst hfr hex fl6.1 ((sm4.trans sm5).trans sm6) cov pn1;refine zC (hs e pins _ _ _ _ J6.insuite hsuite) (λ f s9 q=>?_) λ _ _ q=>q.elim;exact SP.offsuite I.ok q
 ·cases f with
  | next=>exact wpAny_execs_nil (SP.offtry q)
  | brk=>exact SP.offtry q
  | cont=>exact SP.offtry q
  | ret u=>exact SP.offtry q
end
open Builtin Builtin.Str
section
variable {X:Cx}
theorem j_n:∀ l:List (Str × Tok),Vals ((l.map (·.1)).map V.str) (strValues l)
 | []=>.nil
 | p :: l=>.cons ⟨p.2,rfl⟩ (j_n l)
noncomputable def v_E:V->List V->Hp->VK->Prop:=λ x vs H Q=>∃ u y,x=.str u/\vs=[.str y]/\(y.length == 0)=false/\u.length<=sizeLine/\(partsBetween u (occurrences u y 0 u.length (u.length+1)) y.length).length<=sizeLine /\
 ∀ l,H l=none->Q (.ref l) (upd H l (.lst ((Txt.split u y).map V.str)))
theorem i_n:MtM X "str.split" v_E:=by
 intro pins s σ H x vs v us Q I rx rv h;obtain ⟨u,y,rfl,rfl,hy,hu,hp,q⟩:=h;obtain ⟨t,rfl⟩:=rx;obtain ⟨z,rfl,rz⟩:=rv.one;obtain ⟨t',rfl⟩:=rz;have q0:=q _ I.fresh;have own:∀ (l:List (Str × Tok)) (tk:Nat),l.map (·.1)=Txt.split u y->l.length<=sizeLine->EP X pins σ Q (.ref s.heap.objs.size) { s with heap:=s.heap.push { cls:=.type "list",data:=.seq (strValues l).toArray },toks:=tk }:=λ l tk e hz=>by
  rw [← e] at q0;exact ⟨.ref _,_,I.lnew (t':=tk) (j_n l) (by simpa using hz),rfl,q0⟩
 cases h1:(decide (u.length < y.length) || decide (strKind u < strKind y))
 ·cases hf:(occurrences u y 0 u.length (u.length+1)).isEmpty
  ·refine call_meets F.slot_str_split (typeIs_str _ _ _) F.entry_str_split (F.args_str_split_2 _ _) (meets_str_split_sep u y t t' h1 hy hf hu hp) ?_;show EP X pins σ Q _ { s with toks:=_,heap:=s.heap.push { cls:=.type "list",data:=.seq (strsFrom s.toks (partsBetween u (occurrences u y 0 u.length (u.length+1)) y.length)).toArray } };rw [strsFrom_eq];refine own (numbered s.toks _) _ ((numbered_texts _ _).trans ((if_neg (ne_true_of_eq_false h1)).trans (if_neg (ne_true_of_eq_false hf))).symm) ?_;have:=congrArg List.length (numbered_texts s.toks (partsBetween u (occurrences u y 0 u.length (u.length+1)) y.length));rw [yI] at this;rw [this];exact hp
  ·exact call_meets F.slot_str_split (typeIs_str _ _ _) F.entry_str_split (F.args_str_split_2 _ _) (meets_str_split_not_found u y t t' h1 hy hf)
    (own [(u,t)] _ ((if_neg (ne_true_of_eq_false h1)).trans (if_pos hf)).symm (by show 1<=sizeLine; decide))
 ·exact call_meets F.slot_str_split (typeIs_str _ _ _) F.entry_str_split (F.args_str_split_2 _ _) (meets_str_split_cannot_occur u y t t' h1)
   (own [(u,t)] _ (if_pos h1).symm (by show 1<=sizeLine; decide))
noncomputable def Itx (x:Str):It:=⟨λ i _=>i < x.cps.size,λ i H y H'=>H'=H/\∃ c,x.cps[i]?=some c/\y=.str ⟨#[c]⟩,λ i _=>x.cps.size<=i⟩
theorem r_y {P:Program} {w:World} {K:Frag} {tg:Expr} (x:Str) (t:Tok) (it:Addr) (ty:String) (hty:ty = "str_ascii_iterator" \/ ty = "str_iterator"):Turn P w K tg (Itx x) [it] it (λ i h=>h.IsStrIter it ty x t i) where
 mem:=by simp
 obj:=λ i h st b hb=>by
  have e:b=it:=by simpa using hb
  subst e;obtain ⟨o,e,c,d⟩:=st;exact ⟨o,e,λ v z=>by rw [d] at z; cases z⟩
 keep:=λ i h h' st k=>by
  obtain ⟨o,e,c,d⟩:=st;exact ⟨o,k it (by simp) o e,c,d⟩
 item:=by
  intro X hP hw hK hc i pins s σ H E I hf st hg;subst hP hw hK;have hg':i < x.cps.size:=hg;obtain ⟨c,hx⟩:∃ c,x.cps[i]?=some c:=⟨_,Array.getElem?_eq_getElem hg'⟩;obtain ⟨f0,f1,f2,f3,f4,f5⟩:=hf it (by simp);have fin:∀ h',h'.IsStrIter it ty x t (i+1)->Heap.SameBut it s.heap h'->∃ u,some (Value.str ⟨#[c]⟩ s.toks)=some u /\
   wpAny (model X.prog X.w) X.A (letOwnedTupleGo tg (.ref it) u) (λ _ s2=>∃ y H',Inv X pins σ H' s2/\RelV y u/\(Itx x).yld i H y H'/\s2.heap.IsStrIter it ty x t (i+1)/\∀ b∈[it],H' b=none) E { s with heap:=h',toks:=s.toks+1 }:=λ h' st' sb=>by
   have I1:Inv X pins σ H { s with heap:=h',toks:=s.toks+1 }:=I.turned (t':=s.toks+1) (λ b o hb e=>(sb.2 b hb).trans e) f0 f1 f3 f4 f5;obtain ⟨o,e,c',d⟩:=id st';refine ⟨_,rfl,o_e (s:={ s with heap:=h',toks:=s.toks+1 }) e c' d (by rcases hty with rfl | rfl <;> decide) ⟨.str ⟨#[c]⟩,H,I1,⟨_,rfl⟩,⟨rfl,c,hx,rfl⟩,st',λ b hb=>(hf b hb).1⟩⟩
  rcases hty with rfl | rfl
  ·exact wpAny_pyNext_ascii_item st hx fin
  ·exact wpAny_pyNext_wide_item st hx fin
 done:=by
  intro X hP hw hK hc i pins s σ H E I hf st hg;subst hP hw hK;have hg':x.cps.size<=i:=hg;have hx:x.cps[i]?=none:=Array.getElem?_eq_none hg';obtain ⟨f0,f1,f2,f3,f4,f5⟩:=hf it (by simp);rcases hty with rfl | rfl
  ·exact wpAny_pyNext_ascii_end (I.ok.hd hc) st hx λ h' eb=>⟨rfl,I.turned (t':=s.toks) (λ b o hb e=>eb b o hb e) f0 f1 f3 f4 f5⟩
  ·exact wpAny_pyNext_wide_end (I.ok.hd hc) st hx λ h' eb=>⟨rfl,I.turned (t':=s.toks) (λ b o hb e=>eb b o hb e) f0 f1 f3 f4 f5⟩
 self:=λ _ _ _ _ _ st h=>by
  rcases hty with rfl | rfl
  ·exact wpAny_pyIter_striter_ascii st h
  ·exact wpAny_pyIter_striter_wide st h
noncomputable def iStr (tl:TE):TI:=λ σ H R=>tl σ H λ x H1=>∃ z,x=.str z/\R (Itx z) H1
theorem v_F {tg l:Expr} {tl:TE} (hl:PE X l tl):PI X tg l (iStr tl):=by
 intro pins s σ H R I h;refine thn (hl pins s σ H _ I h) λ v s1 ⟨x,H1,I1,r1,q1⟩=>?_;obtain ⟨z,rfl,q⟩:=q1;obtain ⟨t,rfl⟩:=r1;have fin:∀ ty,(ty = "str_ascii_iterator" \/ ty = "str_iterator")->PIE X pins σ tg R (.ref s1.heap.objs.size) { s1 with heap:=s1.heap.push { cls:=.type ty,data:=.fields #[.str z t,.int 0 0] } }:=λ ty hty=>by
  refine ⟨s1.heap.objs.size,[s1.heap.objs.size],_,_,H1,rfl,I1.kept (t':=s1.toks) λ b o e=>zD _ e,r_y z t _ ty hty,⟨_,zF _ rfl,rfl,rfl⟩,λ b hb=>?_,q⟩;have e:b=s1.heap.objs.size:=by simpa using hb
  subst e;exact I1.fpOk (zL _) (I1.hok.fresh (zL _))
 cases ha:z.cps.all (· < 128)
 ·exact wpAny_pyIter_wide ha (fin _ (.inr rfl))
 ·exact wpAny_pyIter_ascii ha (fin _ (.inl rfl))
end
theorem v_G {z:Str} {g:TG} {tb:TS} {nx:St->Hp->Prop} {rt:VK} {σ:St} {H:Hp} (Pv:Nat->St->Hp->Prop) (h0:Pv 0 σ H)
  (hs:∀ i c σ H,z.cps[i]?=some c->Pv i σ H->g (.str ⟨#[c]⟩) σ H λ σ2 H2=>tb { nx:=Pv (i+1),rt:=rt,bk:=nx,ct:=Pv (i+1) } σ2 H2) (hd:∀ σ H,Pv z.cps.size σ H->nx σ H):o_r (Itx z) g tb nx rt σ H:=by
 refine ⟨λ i m σ H=>m=z.cps.size - i/\i<=z.cps.size/\Pv i σ H,⟨z.cps.size,by simp,Nat.zero_le _,h0⟩,?_⟩;rintro i m σ H ⟨rfl,hi,p⟩
 by_cases hlt:i < z.cps.size
 ·refine .inr ⟨hlt,Pv (i+1),λ σ' H' p'=>⟨z.cps.size - (i+1),by omega,rfl,hlt,p'⟩,λ x H' y=>?_⟩;obtain ⟨e,c,hc,y⟩:=y;subst e y;exact hs i c σ _ hc p
 ·have e:i=z.cps.size:=by omega
  subst e;exact .inl ⟨zL _,hd σ H p⟩
theorem join_split {u y:Str} (hy:(y.length == 0)=false):Txt.join y (Txt.split u y)=u:=by
 unfold Txt.join Txt.split;have one:glued y [u]=u:=by
  rw [StrLaws.glued_eq_join];rfl
 split
 ·exact one
 ·split
  ·exact one
  ·exact StrLaws.glued_between_self u y _
noncomputable def u_b (X:Cx) (scope:Scope) (N:List Str) (s:Shared) (H:Hp) (fp:List Addr) (XE:Value->Shared->Prop):Cx:={ b_M X scope N s H fp with xe:=XE }
theorem Inv.xe {X:Cx} {scope:Scope} {N:List Str} {s0:Shared} {H0:Hp} {fp:List Addr} {pins:List (Addr × Obj)} {σ:St} {H:Hp} {s:Shared} (XE:Value->Shared->Prop) (I:Inv (b_M X scope N s0 H0 fp) pins σ H s):Inv (u_b X scope N s0 H0 fp XE) pins σ H s :=
 ⟨⟨I.ok.mod,I.ok.kind,I.ok.glob,I.ok.blt,I.ok.above,I.ok.inj,I.ok.has,I.ok.cab,I.ok.hd,I.ok.frames,I.ok.stk,I.ok.exf,I.ok.bs,I.ok.bsz,I.ok.noex,I.ok.exfs,I.ok.funs,I.ok.frf⟩,
  I.os,I.bare,I.base,I.loc,I.cell,I.free,I.freeC,I.pin,I.hok,I.len⟩
section
variable {X:Cx} {sc scope:Scope} {xs:List Str} {fr:List (Str × Nat)} {elt tg iter:Expr} {ifs:List Expr} {g:TG} {tt:TOx} {EX:Value->Hp->Prop} {QQ:Value->Shared->Prop}
variable {wi:TI}
end
open Builtin Builtin.Str
section
variable {X:Cx}
theorem e_g:MtM X "str.startswith" (λ x vs H Q=>∃ u y,x=.str u/\vs=[.str y]/\Q (.bl (Txt.startswith u y)) H):=by
 intro pins s σ H x vs v us Q I rx rv h;obtain ⟨u,y,rfl,rfl,q⟩:=h;obtain ⟨t,rfl⟩:=rx;obtain ⟨z,rfl,rz⟩:=rv.one;obtain ⟨t',rfl⟩:=rz;exact SC.startswith ⟨.bl _,H,I,rfl,q⟩
end
noncomputable def Itv (K:Frag) (l:Addr) (n:Nat):It :=
 ⟨λ i H=>∃ xs,SqL K H l xs/\xs.length=n/\i < n,λ i H x H'=>H'=H/\∀ xs,SqL K H l xs->xs[n - 1 - i]?=some x,λ i _=>n<=i⟩
noncomputable def Izs (K:Frag) (b1:Bool) (l1:Addr) (zt:Str):It :=
  ⟨λ i H=>∃ xs x c,SqB b1 K H l1 xs/\xs[i]?=some x/\zt.cps[i]?=some c,
   λ i H v H'=>∃ p x c,v=.ref p/\H p=none/\H'=upd H p (.tup [x,.str ⟨#[c]⟩])/\(∀ xs,SqB b1 K H l1 xs->xs[i]?=some x)/\zt.cps[i]?=some c,
   λ i H=>∃ xs,SqB b1 K H l1 xs/\(xs[i]?=none\/zt.cps[i]?=none)⟩
open Builtin Builtin.Str
section
variable {X:Cx}
noncomputable def rSlE:V->Option Int->Option Int->Hp->VK->Prop:=λ x lo hi H Q=>∃ u,x=.str u/\u.length<=sizeLine/\Q (.str (Txt.slice u lo hi)) H
theorem sl_E:SlR X rSlE:=by
 intro pins s σ H x v vl vu lo hi sl Q I rx hs pl pu h;obtain ⟨z,rfl,hz,q⟩:=h;obtain ⟨t,rfl⟩:=rx;refine ⟨"str",_,slot_str_getitem.lookup,typeIs_str _ _ _,?_⟩;have part:∀ {v:Value} {o:Option Int},IsPart v o->∃ l:Option (Int × Tok),v=partValue l/\l.map (·.1)=o:=λ p=>by
  cases p with
  | none=>exact ⟨none,rfl,rfl⟩
  | int i t=>exact ⟨some (i,t),rfl,rfl⟩
 obtain ⟨l,rfl,el⟩:=part pl;obtain ⟨u,rfl,eu⟩:=part pu;refine wpAny_getItem_str_slice (l:=l) (u:=u) (st:=none) hs rfl ?_;have hle:=PyProof.Txt.length_slice_le z lo hi;subst el eu;unfold Txt.slice at q hle;unfold sliceMade slicePicked;split
 ·rename_i hc;rw [if_pos (by simpa using hc)] at q;exact ⟨.str z,H,I,⟨_,rfl⟩,q⟩
 ·rename_i hc;rw [if_neg (by simpa using hc)] at q hle;exact ⟨zS hle hz,.str _,H,I.tok _,⟨_,rfl⟩,q⟩
end
section
variable {X:Cx}
noncomputable def w_E:List V->Hp->VK->Prop:=λ xs H Q=>∃ x n,xs=[.str x]/\PySem.intText? x=some n/\x.length<=640/\Q (.int n) H
theorem p_x:c_O X (.type "int") w_E:=by
 intro pins s σ H xs us Q I r h;obtain ⟨x,n,rfl,hn,hl,q⟩:=h;obtain ⟨u,rfl,t,rfl⟩:=e_T r;exact PySem.W.KIN.call_text hn hl ⟨.int n,H,I.tok _,⟨_,rfl⟩,q⟩
end
section
variable {X:Cx}
theorem u_c:MtM X "str.find" (λ x vs H Q=>∃ u y,x=.str u/\vs=[.str y]/\Q (.int (Txt.find u y)) H):=by
 intro pins s σ H x vs v us Q I rx rv h;obtain ⟨u,y,rfl,rfl,q⟩:=h;obtain ⟨t,rfl⟩:=rx;obtain ⟨z,rfl,rz⟩:=rv.one;obtain ⟨t',rfl⟩:=rz;exact SC.find ⟨.int _,H,I.tok _,⟨_,rfl⟩,q⟩
noncomputable def PEk (X:Cx) (e:Expr) (t:TE):Prop :=
 ∀ (pins:List (Addr × Obj)) (s:Shared) (σ:St) (H:Hp) (Q:VK),1<=s.toks->Inv X pins σ H s->t σ H Q->wpAny (model X.prog X.w) X.A (eval e X.env) (EP X pins σ Q) X.xe s
noncomputable def PSk (X:Cx) (st:Stmt) (t:TS):Prop :=
 ∀ (pins:List (Addr × Obj)) (s:Shared) (σ:St) (H:Hp) (D:Ends),1<=s.toks->Inv X pins σ H s->t D σ H->wpAny (model X.prog X.w) X.A (exec st X.env) (SP X pins D) X.xe s
noncomputable def u_Z (K:Frag) (y z:Str) (to:TE):TE:=λ σ H Q=>to σ H λ x H1=>tyV K "str" x H1/\∃ u,x=.str u/\u.length<=1048576/\Q (.str (Txt.replace u y z)) H1
theorem r_z {o:Expr} {to:TE} {y z:Str} {j1 j2:Nat} {p1 p2 apos cpos:Pos} (ho:PE X o to) (hyz:(y == z)=false:=by decide +kernel) (hz:z.length<=14:=by decide +kernel)
  (hbase:attributeBase o "replace" X.env (eval o X.env)=eval o X.env:=by rfl) (hline:(apos.endLine == cpos.line)=true:=by rfl) :
  PEk X (.Call (.Attribute o "replace" apos) [.Constant (.str y) j1 p1,.Constant (.str z) j2 p2] [] cpos) (u_Z X.K y z to):=by
 intro pins s σ H Q ht I h;refine wpAny_Call_method_late hbase rfl hline rfl (wpAny_with_toks ht (zC (ho pins s σ H _ I h) (λ v s1 ⟨x,H1,I1,r1,ty,u,eu,hl,q1⟩ h1=>?_) λ _ _ e _=>e));obtain ⟨k1,k2⟩:=i_d I1 r1 ty;refine ⟨"str","str.replace",PySem.F.plainAttrs_str,PySem.F.slot_str_replace,PySem.F.type_str_replace,k1,k2,?_⟩;refine Calls.callWith_builtin (by rfl) (Calls.evalArgs_plain ?_);show wpAny _ _ (spliced ((false,eval (.Constant (.str y) j1 p1) X.env) :: (false,eval (.Constant (.str z) j2 p2) X.env) :: [])) _ _ s1;refine Calls.spliced_cons (Calls.Constant_str (Calls.spliced_cons (Calls.Constant_str (Calls.spliced_nil ?_))));subst eu;obtain ⟨t,rfl⟩:=r1;exact SC.replaceW (Nat.pos_iff_ne_zero.mp h1) (Nat.succ_ne_zero _) (Nat.ne_of_lt (Nat.lt_succ_self _)) hyz hl hz λ t' k=>⟨.str _,H1,(I1.tok _),⟨_,rfl⟩,q1⟩
theorem u_d {i:Nat} {x:Str} {e:Expr} {te:TE} {pos pos':Pos} (hN:X.N.Nodup) (hi:X.N[i]?=some x) (hx:Loc X.env.scope x) (he:PEk X e te) (hs:swapsWith e (some (.Name x pos')) pos.line X.env=pure false:=by rfl) (hf:X.fn x=true\/X.env.scope.names.lookup x=some .local:=by first | exact .inl rfl | exact .inr rfl | assumption) :
  PSk X (.Assign [.Name x pos'] e pos) (tAsg te (a_T i)):=by
 intro pins s σ H D ht I h;refine wpAny_Assign_Name (thn (he pins s σ H _ ht I h) λ v s1 ⟨y,H1,I1,r1,q1⟩=>?_) hs;exact d_M I1 hN hi hx r1 (λ s2 I2=>⟨_,H1,I2,q1⟩) hf
theorem v_H {o e:Expr} {es:List Expr} {to:TE} {t:TA} {name:Str} {apos cpos:Pos} {T id:String} {r:V->List V->Hp->VK->Prop} (pa:PlainAttrs T) (slot:Slot T name id) (hty:typeOf (.builtin id)=pure (.type "method_descriptor")) (hm:MtR X id r) (ho:PEk X o to) (ha:PA X (e :: es) t)
  (hbase:attributeBase o name X.env (eval o X.env)=eval o X.env:=by rfl)
  (hfew:((backTo cpos (starEach (e :: es) X.env)).all (λ x=>!x.1) && (backToKw cpos (keywordEach [] X.env)).all (λ x=>x.1.isSome)
   && decide ((e :: es).length+([]:List Keyword).length+(if ([]:List Keyword).isEmpty then 0 else 1) < 30))=true:=by rfl)
  (hline:(apos.endLine == cpos.line)=true:=by rfl) (hs:starEach (e :: es) X.env=(false,eval e X.env) :: starEach es X.env:=by rfl) (hplain:(backTo cpos (starEach es X.env)).any (·.1)=false:=by rfl) :
  PEk X (.Call (.Attribute o name apos) (e :: es) [] cpos) (tBM X.K T r to t):=by
 intro pins s σ H Q ht I h;refine wpAny_Call_method_late hbase hfew hline rfl (thn (ho pins s σ H _ ht I h) λ v s1 ⟨x,H1,I1,r1,ty,q1⟩=>?_);obtain ⟨h1,h2⟩:=i_d I1 r1 ty;refine ⟨T,id,pa,slot,hty,h1,h2,?_⟩;have hA:=ha cpos pins s1 σ H1 _ I1 q1;rw [hs] at hA ⊢;refine Calls.callWith_builtin (by show (false || (backTo cpos (starEach es X.env)).any (·.1))=false; rw [hplain] <;> rfl) (Calls.evalArgs_plain ?_);exact thn hA λ us s2 ⟨vs,H2,I2,r2,q2⟩=>hm pins s2 σ H2 x vs v us Q I2 r1 r2 q2
noncomputable def PTk (X:Cx) (e:Expr) (t:TT):Prop :=
 ∀ (pins:List (Addr × Obj)) (s:Shared) (σ:St) (H:Hp) (Q:Bool->Hp->Prop),Inv X pins σ H s->t σ H Q->wpAny (model X.prog X.w) X.A (isTrue e X.env (eval e X.env)) (λ b s'=>1<=s'.toks/\TP X pins σ Q b s') X.xe s
theorem v_I {o:Expr} {to:TE} {y:Str} {name:Str} {j1:Nat} {p1 apos cpos:Pos} {T id:String} {r:V->List V->Hp->VK->Prop} (pa:PlainAttrs T) (slot:Slot T name id) (hty:typeOf (.builtin id)=pure (.type "method_descriptor")) (hm:MtR X id r) (ho:PE X o to)
  (hbase:attributeBase o name X.env (eval o X.env)=eval o X.env:=by rfl) (hline:(apos.endLine == cpos.line)=true:=by rfl)
  (he:∀ whole,isTrue (.Call (.Attribute o name apos) [.Constant (.str y) j1 p1] [] cpos) X.env whole=(do let v ← whole; standAt (Expr.pos (.Call (.Attribute o name apos) [.Constant (.str y) j1 p1] [] cpos)); holding [v] (truthy v)):=by intro _; rfl) :
  PTk X (.Call (.Attribute o name apos) [.Constant (.str y) j1 p1] [] cpos) (tB (tBM X.K T r to (b_X (tC (.str y)) tNil))):=by
 intro pins s σ H Q I h;have key:wpAny (model X.prog X.w) X.A (eval (.Call (.Attribute o name apos) [.Constant (.str y) j1 p1] [] cpos) X.env) (λ u s'=>1<=s'.toks/\EP X pins σ (λ x H1=>∃ d,x=.bl d/\Q d H1) u s') X.xe s:=by
  refine wpAny_Call_method_late hbase rfl hline rfl (thn (ho pins s σ H _ I h) λ v s1 ⟨x,H1,I1,r1,ty,q1⟩=>?_);obtain ⟨h1,h2⟩:=i_d I1 r1 ty;refine ⟨T,id,pa,slot,hty,h1,h2,?_⟩;refine Calls.callWith_builtin (by rfl) (Calls.evalArgs_plain ?_);show wpAny _ _ (spliced ((false,eval (.Constant (.str y) j1 p1) X.env) :: [])) _ _ s1;refine Calls.spliced_cons (Calls.Constant_str (Calls.spliced_nil ?_));have hl:1<=({ s1 with toks:=s1.toks+1 }:Shared).toks:=Nat.succ_le_succ (Nat.zero_le _);exact zC (wpAny_toks_of hl (hm pins { s1 with toks:=s1.toks+1 } σ H1 x [.str y] v [.str y s1.toks] _ (I1.tok _) r1 (.cons ⟨_,rfl⟩ .nil) q1)) (λ _ _ q=>q) λ _ _ q=>q.2
 refine isTrue_plain (thn key λ v s1 ⟨h1,x,H1,I1,r1,q1⟩=>?_) (he _);obtain ⟨d,rfl,q⟩:=q1;cases r1;exact wpAny_truthy_bool ⟨h1,H1,I1,q⟩
theorem u_e {c:Expr} {a:List Stmt} {tc:TT} {t:TS} {st:Stmt} {u:TS} {rest:List Stmt} {v:TS} {pos:Pos} (hc:PTk X c tc) (ha:PSs X a t) (h2:PSk X st u) (h3:PSs X rest v):PSs X (.If c a [] pos :: st :: rest) (tSeq (tIfS tc t o_d) (tSeq u v)):=by
 intro pins s σ H D I h;have h':tc σ H λ b H1=>if b=true then t { D with nx:=tSeq u v D } σ H1 else o_d { D with nx:=tSeq u v D } σ H1:=h
 have two:∀ (s1:Shared) (σ1:St) (H1:Hp),1<=s1.toks->Inv X pins σ1 H1 s1->tSeq u v D σ1 H1->wpAny (model X.prog X.w) X.A (execs (st :: rest) X.env) (SP X pins D) X.xe s1:=by
  intro s1 σ1 H1 ht I1 q;refine wpAny_execs_cons (thn (h2 pins s1 σ1 H1 { D with nx:=v D } ht I1 q) λ f s2 q=>?_);cases f with
  | next =>
   obtain ⟨σ',H',I',q⟩:=q;exact h3 pins s2 σ' H' D I' q
  | ret v=>exact q
  | brk=>exact q
  | cont=>exact q
 refine wpAny_execs_cons (wpAny_If (thn (hc pins s σ H _ I h') λ d s1 ⟨ht,H1,I1,q1⟩=>?_));cases d with
 | true =>
  refine wpAny_with_toks ht (zC (ha pins s1 σ H1 { D with nx:=tSeq u v D } I1 q1) (λ f s2 q ht2=>?_) λ _ _ e _=>e);cases f with
  | next =>
   obtain ⟨σ',H',I',q⟩:=q;exact two s2 σ' H' ht2 I' q
  | ret v=>exact q
  | brk=>exact q
  | cont=>exact q
 | false =>
  refine wpAny_with_toks ht (zC (a_S pins s1 σ H1 { D with nx:=tSeq u v D } I1 q1) (λ f s2 q ht2=>?_) λ _ _ e _=>e);cases f with
  | next =>
   obtain ⟨σ',H',I',q⟩:=q;exact two s2 σ' H' ht2 I' q
  | ret v=>exact q
  | brk=>exact q
  | cont=>exact q
end
noncomputable instance decPD:DecidableEq PyData:=λ _ _=>Classical.propDecidable _
noncomputable def tT:Nat->PyData->Bool
 | _,.int _=>true
 | n+1,.tuple xs=>xs.all (tT n)
 | _,_=>false
theorem e_h:∀ (n:Nat) (d:PyData),tT n d=true->iT n d=true:=by
 intro n
 induction n with
 | zero=>intro d h; cases d <;> simp [tT] at h <;> simp [iT]
 | succ n ih =>
  intro d h;cases d <;> simp [tT] at h
  ·simp [iT]
  ·simp only [iT,List.all_eq_true];exact λ x hx=>ih x (h x hx)
mutual
noncomputable def c_S:PyData->Int
 | .int i=>hashInt i
 | .tuple xs=>reduceHash (Builtin.Tuple.tupleHashOf (g_v xs))
 | _=>0
noncomputable def g_v:List PyData->List Int
 | []=>[]
 | d :: ds=>c_S d :: g_v ds
end
mutual
noncomputable def c_H:PyData->Nat
 | .tuple xs=>e_M xs+1
 | _=>1
noncomputable def e_M:List PyData->Nat
 | []=>0
 | d :: ds=>c_H d+e_M ds
end
section
variable {prog:Program} {w:World} {E:Value->Shared->Prop}
theorem p_y (n:Nat) (ih:∀ {A:Around} {s:Shared} {v:Value} {d:PyData} {as:List Addr} {Q:Int->Shared->Prop},tT n d=true->Reads s.heap v d as->A.units+n < cLine->Q (c_S d) { s with toks:=s.toks+c_H d }->wpAny (model prog w) A (pyHash v) Q E s) :
  ∀ (xs:List PyData) (vs:List Value) (as:List Addr) (A:Around) (s:Shared) (b:Array Int) (Q:Array Int->Shared->Prop),xs.all (tT n)=true->ReadsAll s.heap vs xs as->A.units+n < cLine ->
  (∀ b':Array Int,b'.toList=b.toList++g_v xs->Q b' { s with toks:=s.toks+e_M xs }) ->
  wpAny (model prog w) A (forIn vs b λ x r=>do let h ← pyHash x; pure PUnit.unit; pure (ForInStep.yield (r.push h))) Q E s:=by
 intro xs
 induction xs with
 | nil =>
  intro vs as A s b Q _ r _ h;cases r;exact zB (h b (by simp [g_v]))
 | cons d ds ihr =>
  intro vs as A s b Q ht r hu h;cases r with
  | cons r1 r2 =>
   rw [List.all_cons,Bool.and_eq_true] at ht;rw [List.forIn_cons];refine zA (zA (ih ht.1 r1 hu ?_));refine zA (zB (zB ?_));refine ihr _ _ A { s with toks:=s.toks+c_H d } (b.push (c_S d)) Q ht.2 r2 hu λ b' hb=>?_;have:=h b' (by rw [hb]; simp [g_v]);rw [show s.toks+e_M (d :: ds)=s.toks+c_H d+e_M ds by simp [e_M,Nat.add_assoc]] at this;exact this
theorem v_a:∀ (n:Nat) {A:Around} {s:Shared} {v:Value} {d:PyData} {as:List Addr} {Q:Int->Shared->Prop},tT n d=true->Reads s.heap v d as->A.units+n < cLine->Q (c_S d) { s with toks:=s.toks+c_H d }->wpAny (model prog w) A (pyHash v) Q E s:=by
 intro n
 induction n with
 | zero =>
  intro A s v d as Q ht r hu h;cases r <;> simp [tT] at ht;exact wpAny_pyHash_int (by simpa [c_S,c_H] using h)
 | succ n ih =>
  intro A s v d as Q ht r hu h;cases r <;> simp only [tT,Bool.false_eq_true] at ht
  case int=>exact wpAny_pyHash_int (by simpa [c_S,c_H] using h)
  case tuple a o vs m xs hg hc hd hr =>
   unfold pyHash;refine PySem.W.pyHash_slot (T := "tuple") ⟨_,hg,hc⟩ PySem.F.slot_tuple_hash PySem.F.entry_tuple_hash (PySem.F.args_tuple_hash_1 _) (beq_builtin_none _) (.inr (by omega)) ?_;show wpAny _ _ (Builtin.Tuple.tupleItemsOf (.ref a) >>= _) _ _ s;refine zA (wpAny_tupleItemsOf hg hd ?_);refine zA ?_;rw [← Array.forIn_toList];refine p_y n ih xs vs.toList _ A.in1 s #[] _ ht hr (by show A.units+1+n < cLine; omega) λ b hb=>?_;show wpAny _ _ (retInt (Builtin.Tuple.tupleHashOf b.toList)) _ _ _;rw [hb];refine zA (wpAny_mkInt (zB ⟨_,_,rfl,?_⟩));have e:s.toks+e_M xs+1=s.toks+c_H (.tuple xs):=by simp [c_H,Nat.add_assoc]
   simp only [c_S] at h;rw [← e] at h;exact h
theorem v_J:∀ (n m:Nat),n < m->∀ {A:Around} {s:Shared} {v:Value} {d:PyData} {as:List Addr} {Q:Bool->Shared->Prop},tT n d=true->Reads s.heap v d as->Q true s->wpAny (model prog w) A (eqIsQuiet m v) Q E s:=by
 intro n
 induction n with
 | zero =>
  intro m _ A s v d as Q ht r h;cases r <;> simp [tT] at ht;rw [eqIsQuiet_byValue _ rfl];exact zB h
 | succ n ih =>
  intro m hm A s v d as Q ht r h;cases r <;> simp only [tT,Bool.false_eq_true] at ht
  case int=>rw [eqIsQuiet_byValue _ rfl]; exact zB h
  case tuple a o vs k xs hg hc hd hr =>
   obtain ⟨m,rfl⟩:∃ j,m=j+1:=⟨m - 1,by omega⟩;have hT:s.TypeIs (.ref a) "tuple" := ⟨o,hg,hc⟩;unfold eqIsQuiet;refine zA (wpAny_specialOf hT PySem.F.slot_tuple_eq.lookup ?_);show wpAny _ _ (isInstance (.ref a) (.type "tuple") >>= _) _ _ s;refine zA (wpAny_isInstance hT isSubtype_tuple_tuple ?_);simp only [Bool.not_true,Bool.false_eq_true,if_false];refine zA (wpAny_seqItems hg hd ?_);refine zA ?_;show wpAny _ _ (forIn vs _ _) _ _ s;rw [← Array.forIn_toList];refine wpAny_forIn_list _ (λ rest q s'=>q.1=none/\s'=s/\∃ ys bs,ys.all (tT n)=true/\ReadsAll s.heap rest ys bs) _ ?_ ?_ _ _ ⟨rfl,rfl,xs,_,ht,hr⟩
   ·rintro u rest q s' ⟨hq,rfl,ys,bs,hy,hrs⟩;cases hrs with
    | cons r1 r2 =>
     rw [List.all_cons,Bool.and_eq_true] at hy;refine zA (ih m (by omega) hy.1 r1 ?_);simp only [Bool.not_true,Bool.false_eq_true,if_false];exact zB ⟨rfl,rfl,_,_,hy.2,r2⟩
   ·rintro ⟨r1,r2⟩ s' ⟨hq,rfl,_⟩;simp only at hq;subst hq;exact zB h
end
theorem v_K {h h':Heap} {x:Addr} {ox:Obj} {es:Array DictEntry} {ep:Nat} (hx:h.get? x=some ox) (hd:ox.data=.dict es ep) (hs:Heap.SameBut x h h'):∀ (n:Nat) {v:Value} {d:PyData} {as:List Addr},tT n d=true->Reads h v d as->Reads h' v d as:=by
 intro n
 induction n with
 | zero =>
  intro v d as ht r;cases r <;> simp [tT] at ht;exact .int _ _
 | succ n ih =>
  have all:∀ (xs:List PyData) (vs:List Value) (as:List Addr),xs.all (tT n)=true->ReadsAll h vs xs as->ReadsAll h' vs xs as:=by
   intro xs
   induction xs with
   | nil=>intro vs as _ r; cases r; exact .nil
   | cons d ds ihr =>
    intro vs as ht r;cases r with
    | cons r1 r2 =>
     rw [List.all_cons,Bool.and_eq_true] at ht;exact .cons (ih ht.1 r1) (ihr _ _ ht.2 r2)
  intro v d as ht r;cases r <;> simp only [tT,Bool.false_eq_true] at ht
  case int=>exact .int _ _
  case tuple a o vs k xs hg hc hdd hr =>
   have hne:a≠x:=by
    rintro rfl;rw [hx] at hg;cases hg;rw [hd] at hdd;cases hdd
   exact .tuple ((hs.2 a hne).trans hg) hc hdd (all _ _ _ ht hr)
noncomputable def isT (h:Heap) (d:PyData) (a:Addr):Prop:=tT 4 d=true/\∃ as,Reads h (.ref a) d as
noncomputable def c_D (prog:Program) (w:World):HeapKind prog w PyData where
 is:=isT
 hash:=c_S
 draws:=c_H
 room:=λ A=>A.units+8 < cLine
 inj:=λ {h a x y} hx hy=>by
  obtain ⟨t1,as,r1⟩:=hx;obtain ⟨t2,bs,r2⟩:=hy;exact PySem.SeqAt.Reads.unique _ _ _ _ _ (e_q 4 _ (e_h 4 _ t1)).1 r1 r2
 keeps:=λ {h h' k a x o es ep} hk hx hd hs=>⟨hk.1,let ⟨as,r⟩:=hk.2; ⟨as,v_K hx hd hs 4 hk.1 r⟩⟩
 pyHash:=λ {A E s k a Q} hu hk h=>let ⟨as,r⟩:=hk.2; v_a 4 hk.1 r (by omega) h
 eqBool:=λ {A E s x y a b Q} hu hx hy h=>by
  obtain ⟨t1,as,r1⟩:=hx;obtain ⟨t2,bs,r2⟩:=hy;have i1:=e_h 4 _ t1;have i2:=e_h 4 _ t2;have l1:=e_q 4 _ i1;have l2:=e_q 4 _ i2;refine PySem.SeqAt.eqBoolOverData _ _ _ _ _ _ _ _ _ _ _ _ r1 r2 l1.1 l2.1 (by omega) ?_;rw [← SeqAt.same_eq_eqv _ _ (j_U 4 _ _ i1 i2)];have e:=h_J 4 _ _ i1 i2
  by_cases z:x=y
  ·rw [zW z] at h;rw [e.mpr z];exact h
  ·rw [zX z] at h;have:same x y=false:=by
    cases q:same x y with
    | false=>rfl
    | true=>exact yJ (e.mp q) z
   rw [this];exact h
 quiet:=λ {A E s k a Q} hk h=>let ⟨as,r⟩:=hk.2; v_J 4 8 (by decide) hk.1 r h
noncomputable def d_Q (a:Addr) (xs:List (PyData × Addr × Value)):HO:=.ext λ h=>∃ o es ep,h.get? a=some o/\o.ExactDict/\o.data=.dict es ep/\es.toList=xs.map λ x=>⟨c_S x.1,.ref x.2.1,x.2.2⟩
theorem o_u {o:Option V} {u:Option Value} (h:RelO o u):o.isSome=u.isSome:=by
 cases o <;> cases u <;> first | rfl | exact h.elim
noncomputable def vT (kvs:List (PyData × V)) (k:PyData):Option V:=(kvs.find? λ kv=>decide (kv.1=k)).map (·.2)
noncomputable def pT (kvs:List (PyData × V)) (k:PyData) (v:V):List (PyData × V):=if (vT kvs k).isSome=true then kvs.map (λ kv=>if kv.1=k then (kv.1,v) else kv) else kvs++[(k,v)]
theorem i_o {p:PyData × V} {r:List (PyData × V)} {k:PyData} (e:p.1=k):vT (p :: r) k=some p.2:=by simp [vT,List.find?_cons,e]
theorem g_S {p:PyData × V} {r:List (PyData × V)} {k:PyData} (e:¬ p.1=k):vT (p :: r) k=vT r k:=by simp [vT,List.find?_cons,e]
noncomputable abbrev KP (K:Frag) (H:Hp):List (PyData × V)->List (PyData × Addr × Value)->Prop:=Paired λ p q=>p.1=q.1/\(tT 4 p.1=true/\Dt K H (.ref q.2.1) p.1)/\RelV p.2 q.2.2
structure DTr (K:Frag) (H:Hp) (a:Addr) (kvs:List (PyData × V)):Prop where
 len:kvs.length<=sizeLine
 sys:(a == sysModules)=false
 ex:∃ xs,H a=some (d_Q a xs)/\(xs.map (·.1)).Nodup/\KP K H kvs xs
theorem KP.val {K:Frag} {H:Hp} {kvs:List (PyData × V)} {xs:List (PyData × Addr × Value)} (r:KP K H kvs xs) (k:PyData):RelO (vT kvs k) ((atKey xs k).map (·.2)):=by
 induction r with
 | nil=>exact True.intro
 | @cons p q ps qs h t ih =>
  obtain ⟨h1,_,h2⟩:=h
  by_cases e:p.1=k
  ·have b:atKey (q :: qs) k=some q.2:=by simp [atKey,List.find?_cons,h1.symm.trans e]
   rw [i_o e,b]; exact h2
  ·have e':¬ q.1=k:=λ z=>e (h1.trans z);have b:atKey (q :: qs) k=atKey qs k:=by simp [atKey,List.find?_cons,e']
   rw [g_S e,b]; exact ih
theorem KP.put {K:Frag} {H:Hp} {kvs:List (PyData × V)} {xs:List (PyData × Addr × Value)} (r:KP K H kvs xs) (k:PyData) {b:Addr} {y:V} {u:Value} (tk:tT 4 k=true) (hb:Dt K H (.ref b) k) (ry:RelV y u):KP K H (pT kvs k y) (storedH xs k b u):=by
 have e:(vT kvs k).isSome=(atKey xs k).isSome:=by rw [o_u (r.val k),Option.isSome_map]
 unfold pT storedH;rw [e]
 by_cases q:(atKey xs k).isSome=true
 ·rw [if_pos q,if_pos q];clear e q
  induction r with
  | nil=>exact .nil
  | @cons p q ps qs h t ih =>
   rw [List.map_cons,List.map_cons];refine .cons ?_ ih;obtain ⟨h1,h2,h3⟩:=h;unfold putAt
   by_cases e:p.1=k
   ·rw [if_pos e,if_pos (h1.symm.trans e)]; exact ⟨h1,h2,ry⟩
   ·rw [if_neg e,if_neg (λ z=>e (h1.trans z))]; exact ⟨h1,h2,h3⟩
 ·rw [if_neg q,if_neg q];exact Paired.snoc r ⟨rfl,⟨tk,hb⟩,ry⟩
theorem c_U {K:Frag} {H H':Hp} (ht:∀ b xs,SqT K H b xs->SqT K H' b xs):∀ (n:Nat) {x:V} {d:PyData},tT n d=true->Dt K H x d->Dt K H' x d:=by
 intro n
 induction n with
 | zero =>
  intro x d h r;cases r <;> simp [tT] at h;exact .int _
 | succ n ih =>
  have all:∀ (ds:List PyData) (xs:List V),ds.all (tT n)=true->Dts K H xs ds->Dts K H' xs ds:=by
   intro ds
   induction ds with
   | nil=>intro xs _ r; cases r; exact .nil
   | cons d ds ihr =>
    intro xs h r;cases r with
    | cons r1 r2 =>
     rw [List.all_cons,Bool.and_eq_true] at h;exact .cons (ih h.1 r1) (ihr _ h.2 r2)
  intro x d h r;cases r <;> simp only [tT,Bool.false_eq_true] at h
  case int=>exact .int _
  case tup a xs ds hq hr=>exact .tup (ht _ _ hq) (all _ _ h hr)
theorem o_v {K:Frag} {H:Hp} {a:Addr} {o:HO} (hn:∀ xs,¬ Rd H a (.tup xs)):∀ b xs,SqT K H b xs->SqT K (upd H a o) b xs:=λ b xs h=>by
 rcases h with h | h
 ·have ne:b≠a:=λ e=>hn xs (e ▸ h);rcases h with h | ⟨ob,h⟩
  ·exact .inl (.inl (by rw [a_I ne]; exact h))
  ·exact .inl (.inr ⟨ob,by rw [a_I ne]; exact h⟩)
 ·exact .inr h
theorem KP.keeps {K:Frag} {H H':Hp} {kvs:List (PyData × V)} {xs:List (PyData × Addr × Value)} (r:KP K H kvs xs) (ht:∀ b ys,SqT K H b ys->SqT K H' b ys):KP K H' kvs xs :=
 Paired.mapP r λ _ _ z=>⟨z.1,⟨z.2.1.1,c_U ht 4 z.2.1.1 z.2.1.2⟩,z.2.2⟩
theorem b_U {K:Frag} {H H':Hp} (s:Same H H'):∀ b xs,SqT K H b xs->SqT K H' b xs:=λ b xs h=>by
 rcases h with (h | ⟨o,h⟩) | h
 ·exact .inl (.inl (s _ _ h))
 ·exact .inl (.inr ⟨o,s _ _ h⟩)
 ·exact .inr h
theorem DTr.up {K:Frag} {H H':Hp} {a:Addr} {kvs:List (PyData × V)} (h:DTr K H a kvs) (s:Same H H'):DTr K H' a kvs:=by
 obtain ⟨l,y,xs,e,n,r⟩:=h;exact ⟨l,y,xs,s _ _ e,n,r.keeps (b_U s)⟩
section
variable {X:Cx} {pins:List (Addr × Obj)} {σ:St} {H:Hp} {s:Shared} {a:Addr}
theorem e_N {k:PyData} {b:Addr} (I:Inv X pins σ H s) (tk:tT 4 k=true) (hb:Dt X.K H (.ref b) k):(c_D X.prog X.w).is s.heap k b:=⟨tk,hb.reads I rfl⟩
theorem g_e {kvs:List (PyData × V)} (I:Inv X pins σ H s) (g:DTr X.K H a kvs):∃ xs,H a=some (d_Q a xs)/\KP X.K H kvs xs/\s.heap.DictOfH (c_D X.prog X.w) a xs:=by
 obtain ⟨_,_,xs,e,n,r⟩:=g;obtain ⟨⟨o,es,ep,h1,h2,h3,h4⟩,_⟩:=(show c_A X.prog X.w H s.heap a (d_Q a xs) from I.hok a _ e);refine ⟨xs,e,r,o,es,ep,h1,h2,h3,h4,λ x hx=>?_,n⟩;have all:∀ {l:List (PyData × V)} {m:List (PyData × Addr × Value)},KP X.K H l m->∀ x∈m,(c_D X.prog X.w).is s.heap x.1 x.2.1:=by
  intro l m q
  induction q with
  | nil=>intro x hx; exact nomatch hx
  | @cons p q ps qs hq t ih =>
   intro x hx;rcases List.mem_cons.mp hx with e | hx
   ·subst e;rw [← hq.1];exact e_N I hq.2.1.1 hq.2.1.2
   ·exact ih x hx
 exact all r x hx
end
noncomputable def r_A (K:Frag):R2:=λ x y H Q=>∃ a kvs b k v,x=.ref a/\y=.ref b/\DTr K H a kvs/\tT 4 k=true/\Dt K H (.ref b) k/\vT kvs k=some v/\Q v H
noncomputable def rInT (K:Frag) (neg:Bool):R2:=λ y x H Q=>∃ a kvs b k,x=.ref a/\y=.ref b/\DTr K H a kvs/\tT 4 k=true/\Dt K H (.ref b) k/\Q (.bl (if neg=true then !(vT kvs k).isSome else (vT kvs k).isSome)) H
noncomputable def w_F (K:Frag):TSet:=λ x y v H Q=>∃ a kvs b k,x=.ref a/\y=.ref b/\DTr K H a kvs/\tT 4 k=true/\Dt K H (.ref b) k/\kvs.length < sizeLine/\∀ H',(∀ c o,c≠a->H c=some o->H' c=some o)->(∀ c,c≠a->H' c=H c)->DTr K H' a (pT kvs k v)->Q H'
section
variable {X:Cx}
theorem ix_T (hu:X.A.units+64 < cLine):IxR X (r_A X.K):=by
 intro value slice pins s σ H x y v u Q I rx ry h hs;obtain ⟨a,kvs,b,k,z,rfl,rfl,g,tk,hb,hv,q⟩:=h;cases rx;cases ry;obtain ⟨xs,e,r,dd⟩:=g_e I g;obtain ⟨w',hw,rw'⟩:=RelO.some_of (v:=z) (o:=(atKey xs k).map (·.2)) (by rw [← hv]; exact r.val k);obtain ⟨p,hp,hp2⟩:=Option.map_eq_some_iff.mp hw;refine subscriptTail_builtinR (x:=w') dd.typeIs PySem.F.slot_dict_getitem.lookup ?_ hs;refine wpAny_getItem_heap (knd:=c_D X.prog X.w) (show X.A.units+1+8 < cLine by omega) (e_N I tk hb) dd hp ⟨hp2,z,H,I.tok _,?_,q⟩;rw [hp2];exact rw'
theorem p_z (hu:X.A.units+64 < cLine):OpR X (compareOp .NotIn) (rInT X.K true):=by
 intro pins s σ H x y v u Q I rx ry h;obtain ⟨a,kvs,b,k,rfl,rfl,g,tk,hb,q⟩:=h;cases rx;cases ry;obtain ⟨xs,e,r,dd⟩:=g_e I g;refine wpAny_notIn_heap (knd:=c_D X.prog X.w) (show X.A.units+1+8 < cLine by omega) (e_N I tk hb) g.sys dd ?_;have e:=o_u (r.val k);rw [Option.isSome_map] at e;rw [← e];exact ⟨.bl _,H,I.tok _,rfl,q⟩
theorem v_L (kvs:List (PyData × V)) (k:PyData) (v:V):(pT kvs k v).length<=kvs.length+1:=by
 unfold pT;split
 ·rw [yI]; omega
 ·rw [List.length_append]; exact zL _
theorem g_w {P:Program} {w:World} {H:Hp} {h:Heap} {a:Addr} {xs:List (PyData × Addr × Value)} {o:Obj} {es:Array DictEntry} {ep:Nat} (h1:h.get? a=some o) (h2:o.ExactDict) (h3:o.data=.dict es ep) (h4:es.toList=xs.map λ x=>⟨c_S x.1,.ref x.2.1,x.2.2⟩):c_A P w H h a (d_Q a xs) :=
 ⟨⟨o,es,ep,h1,h2,h3,h4⟩,⟨o,h1⟩,λ g1 g2 ⟨o',es',ep',q1,q2⟩ k=>⟨o',es',ep',k o' q1,q2⟩⟩
theorem w_G (hu:X.A.units+64 < cLine):PSet X (w_F X.K):=by
 intro pins s σ H o i v ov iv u Q I ro ri rv h;obtain ⟨a,kvs,b,k,rfl,rfl,g,tk,hb,hl,q⟩:=h;cases ro;cases ri;obtain ⟨xs,e,r,dd⟩:=g_e I g;have hz:xs.length<=sizeLine:=by rw [← Paired.length r]; exact g.len
 have nt:∀ ys,¬ Rd H a (.tup ys):=λ ys z=>by
  rcases z with z | ⟨ob,z⟩
  ·rw [e] at z; cases z
  ·rw [e] at z; cases z
 refine wpAny_setItem_heap (knd:=c_D X.prog X.w) (hsz:=hz) (show X.A.units+1+8 < cLine by omega) (e_N I tk hb) dd λ h' dd' hs=>?_;obtain ⟨ob,es,ep,h1,h2,h3,h4,_,h5⟩:=dd';refine ⟨upd H a (d_Q a (storedH xs k b u)),I.write (x:=a) (e:=a) (by rw [e]; exact True.intro) (.inl rfl) (λ c o hc z=>(hs.2 c hc).trans z) ⟨ob,h1⟩ (g_w h1 h2 h3 h4),?_⟩;refine q _ (λ c o hc z=>by rw [a_I hc]; exact z) (λ c hc=>a_I hc) ⟨by have:=v_L kvs k v; omega,g.sys,_,a_F,h5,(r.put k tk hb rv).keeps (o_v nt)⟩
end
section
variable {X:Cx} {pos:Pos}
theorem o_w {pins:List (Addr × Obj)} {σ:St} {H:Hp} {s:Shared} (I:Inv X pins σ H s):sysModules < s.heap.objs.size :=
 Nat.lt_trans (by decide) (show mainGlobals < s.heap.objs.size from (I.mod.glob.keeps I.bk).lt)
theorem r_B {P:Program} {w:World} {H:Hp} (h:Heap):c_A P w H (h.push { cls:=.type "dict",data:=.dict #[] }) h.objs.size (d_Q h.objs.size []) :=
 g_w (es:=#[]) (ep:=0) (zF _ rfl) ⟨rfl,rfl,rfl⟩ rfl rfl
theorem u_f {K:Frag} {H:Hp} {p:Addr} (hp:(p == sysModules)=false) (e:H p=some (d_Q p [])):DTr K H p []:=⟨Nat.zero_le _,hp,[],e,List.nodup_nil,.nil⟩
noncomputable def r_C (K:Frag) (tk tv:TE):TE:=λ σ H Q=>∀ p,H p=none->tk σ (upd H p (d_Q p [])) λ x H1=>tv σ H1 λ y H2=>∃ b d,x=.ref b/\tT 4 d=true/\Dt K H2 (.ref b) d/\H2 p=some (d_Q p [])/\∀ H3,(∀ c,c≠p->H3 c=H2 c)->DTr K H3 p [(d,y)]->Q (.ref p) H3
theorem r_D {k v:Expr} {tk tv:TE} (hu:X.A.units+64 < cLine) (hk:PE X k tk) (hv:PE X v tv):PE X (.Dict [some k] [v] pos) (r_C X.K tk tv):=by
 intro pins s σ H Q I q;have hn:=I.hok.fresh (zL s.heap.objs.size);have hp:(s.heap.objs.size == sysModules)=false:=beq_eq_false_iff_ne.mpr (Ne.symm (Nat.ne_of_lt (o_w I)));have I1:=I.laid (a:=s.heap.objs.size) (o:=d_Q s.heap.objs.size []) (h':=s.heap.push { cls:=.type "dict",data:=.dict #[] }) (t':=s.toks) (λ _ _ q=>zD _ q) (zL _) (r_B s.heap);rw [arm_eval_Dict,zip_pairTrees [some k] [v] X.env pos rfl rfl,dictDisplay_pairs (pairTrees [some k] [v] X.env pos) (by intro e; cases e) (show 1 < 17 by decide)];refine zA (wpAny_standAt (zA ?_));unfold subDict;refine zA (wpAny_alloc ?_);refine zA (wpAny_holding ?_);rw [if_pos (show (pairTrees [some k] [v] X.env pos).length<=15 from (show 1<=15 by decide))];refine zA (pairTrees_cons_walk (thn (hk pins _ σ _ _ I1 (q _ hn)) λ u s1 ⟨x,H1,I2,rx,q1⟩=>thn (hv pins s1 σ H1 _ I2 q1) λ w2 s2 ⟨y,H2,I3,ry,b,d,ex,td,hb,e,q2⟩=>pairTrees_nil_walk ?_));subst ex;cases rx;refine wpAny_holding ?_;obtain ⟨xs,e',r,dd⟩:=g_e I3 (u_f hp e);cases r;refine zA ?_;rw [List.forIn_cons];refine zA (zA (wpAny_dictSet_heap (knd:=c_D X.prog X.w) (hsz:=Nat.zero_le _) (show X.A.units+8 < cLine by omega) (e_N I3 td hb) dd λ h' dd' hs=>zB ?_));refine zB (zB (zB (zB ?_)));obtain ⟨ob,es,ep,h1,h2,h3,h4,_,h5⟩:=dd';have nt:∀ ys,¬ Rd H2 s.heap.objs.size (.tup ys):=λ ys z=>by
  rcases z with z | ⟨ob,z⟩
  ·rw [e] at z; cases z
  ·rw [e] at z; cases z
 refine ⟨.ref s.heap.objs.size,upd H2 s.heap.objs.size (d_Q s.heap.objs.size (storedH [] d b w2)),I3.write (x:=s.heap.objs.size) (e:=s.heap.objs.size) (by rw [e]; exact True.intro) (.inl rfl) (λ c o hc z=>(hs.2 c hc).trans z) ⟨ob,h1⟩ (g_w h1 h2 h3 h4),rfl,?_⟩;exact q2 _ (λ c hc=>a_I hc) ⟨by show 1<=sizeLine; decide,hp,_,a_F,h5,.cons ⟨rfl,⟨td,c_U (o_v nt) 4 td hb⟩,ry⟩ .nil⟩
noncomputable def w_H (K:Frag):V->List V->Hp->VK->Prop:=λ x vs H Q=>∃ a kvs b k,x=.ref a/\vs=[.ref b]/\DTr K H a kvs/\tT 4 k=true/\Dt K H (.ref b) k/\Q ((vT kvs k).getD .non) H
noncomputable def tBMR (K:Frag) (r:V->List V->Hp->VK->Prop) (to:TE) (ta:TA):TE:=λ σ H Q=>to σ H λ x H1=>(∃ a kvs,x=.ref a/\DTr K H1 a kvs)/\ta σ H1 λ vs H2=>r x vs H2 Q
theorem v_M {T:String} {o e:Expr} {es:List Expr} {name:Str} {id:String} {apos cpos:Pos} {to:TE} {t:TA} {r:V->List V->Hp->VK->Prop} (pa:PlainAttrs "dict") (slot:Slot "dict" name id) (hty:typeOf (.builtin id)=pure (.type "method_descriptor")) (hm:MtM X id r) (ho:PE X o to) (ha:PA X (e :: es) t)
  (hbase:attributeBase o name X.env (eval o X.env)=eval o X.env:=by rfl)
  (hfew:((backTo cpos (starEach (e :: es) X.env)).all (λ x=>!x.1) && (backToKw cpos (keywordEach [] X.env)).all (λ x=>x.1.isSome)
   && decide ((e :: es).length+([]:List Keyword).length+(if ([]:List Keyword).isEmpty then 0 else 1) < 30))=true:=by rfl)
  (hline:(apos.endLine == cpos.line)=true:=by rfl) (hs:starEach (e :: es) X.env=(false,eval e X.env) :: starEach es X.env:=by rfl) (hplain:(backTo cpos (starEach es X.env)).any (·.1)=false:=by rfl) :
  PE X (.Call (.Attribute o name apos) (e :: es) [] cpos) (tBMR X.K r to t):=by
 intro pins s σ H Q I h;refine wpAny_Call_method_late hbase hfew hline rfl (thn (ho pins s σ H _ I h) λ v s1 ⟨x,H1,I1,r1,ty,q1⟩=>?_);obtain ⟨a,kvs,rfl,g⟩:=ty;cases r1;obtain ⟨xs,e',r,dd⟩:=g_e I1 g;refine ⟨"dict",id,pa,slot,hty,dd.typeIs,dictOfH_noDict dd,?_⟩;have hA:=ha cpos pins s1 σ H1 _ I1 q1;rw [hs] at hA ⊢;refine Calls.callWith_builtin (by show (false || (backTo cpos (starEach es X.env)).any (·.1))=false; rw [hplain] <;> rfl) (Calls.evalArgs_plain ?_);exact thn hA λ us s2 ⟨vs,H2,I2,r2,q2⟩=>hm pins s2 σ H2 (.ref a) vs _ us Q I2 rfl r2 q2
theorem p_A {o:Option V} {u:Option Value} {d:V} {r:Value} (h:RelO o u) (hd:RelV d r):RelV (o.getD d) (u.getD r):=by
 cases o <;> cases u <;> first | exact hd | exact h.elim | exact h
theorem u_g (hu:X.A.units+64 < cLine):MtM X "dict.get" (w_H X.K):=by
 intro pins s σ H x vs v us Q I rx rv h;obtain ⟨a,kvs,b,k,rfl,rfl,g,tk,hb,q⟩:=h;cases rx;obtain ⟨u,rfl,ru⟩:=rv.one;cases ru;obtain ⟨xs,e,r,dd⟩:=g_e I g;refine call_meetsIn PySem.F.slot_dict_get dd.typeIs PySem.F.entry_dict_get (PySem.F.args_dict_get_2 _ _) (meetsH_dict_get (c_D X.prog X.w) a b g.sys) ⟨show X.A.units+1+8 < cLine by omega,k,xs,e_N I tk hb,dd,⟨_,H,I.tok _,?_,q⟩⟩;exact p_A (r.val k) rfl
end
section
variable {prog:Program} {w:World} {A:Around} {E:Value->Shared->Prop} {s:Shared} {κ:PyProof.Rows.KeyKind} {kd:SortKind}
noncomputable def Cmp (prog:Program) (w:World) (A:Around) (s:Shared) (κ:PyProof.Rows.KeyKind) (kd:SortKind):Prop :=
 ∀ (E:Value->Shared->Prop) (x y:Value) (a b:κ.α) (Q:Bool->Shared->Prop),κ.keyOf x=some a->κ.keyOf y=some b->Q (κ.blt a b) s->wpAny (model prog w) A (keyLt' kd x y) Q E s
noncomputable def ky (κ:PyProof.Rows.KeyKind) (p:Keyed):κ.α:=(κ.keyOf p.1).getD κ.dflt
noncomputable def Gd (κ:PyProof.Rows.KeyKind) (p:Keyed):Prop:=∃ a,κ.keyOf p.1=some a
noncomputable def lq (κ:PyProof.Rows.KeyKind) (p q:Keyed):Bool:=κ.blt (ky κ p) (ky κ q)
theorem v_b {p:Keyed} (h:Gd κ p):κ.keyOf p.1=some (ky κ p):=by
 obtain ⟨a,e⟩:=h;unfold ky;rw [e];rfl
theorem u_h (hC:Cmp prog w A s κ kd) {st:SortSt} {x y:Keyed} {Q:Option Bool->SortSt->Prop} (hk:kindOf st=kd) (hx:Gd κ x) (hy:Gd κ y) (h:Q (some (lq κ x y)) st):wpS (model prog w) A E s (lt' x y) Q st:=by
 rw [lt'_eq];refine wpS_bind (wpS_get ?_);rw [hk];refine wpS_bind (wpS_lift (wpAny_attempt (hC _ x.1 y.1 _ _ _ (v_b hx) (v_b hy) ⟨rfl,?_⟩)));exact wpS_pure h
theorem r_E {st:SortSt} {arr:Array Keyed} {i:Nat} {p:Keyed} {Q:Keyed->SortSt->Prop} (hi:arr[i]?=some p) (h:Q p st):wpS (model prog w) A E s (elem' arr i) Q st:=by
 rw [elem'_eq,hi];exact wpS_pure h
end
section
variable {κ:PyProof.Rows.KeyKind}
noncomputable def le' (κ:PyProof.Rows.KeyKind) (x y:Keyed):Prop:=lq κ y x=false
theorem e_v {x y z:Keyed} (h1:le' κ x y) (h2:le' κ y z):le' κ x z:=KeyOrd.kle_trans (O:=κ.toKeyOrd) h1 h2
theorem e_w {x y:Keyed} (h:lq κ x y=true):le' κ x y:=KeyOrd.klt_asymm (O:=κ.toKeyOrd) h
theorem f_F (x:Keyed):le' κ x x:=κ.irrefl _
noncomputable abbrev Srt (κ:PyProof.Rows.KeyKind) (l:List Keyed):Prop:=l.Pairwise (le' κ)
structure MI (κ:PyProof.Rows.KeyKind) (A B out:List Keyed) (ia ib:Nat):Prop where
 pm:out.Perm (A.take ia++B.take ib)
 so:Srt κ out
 oa:∀ x∈out,∀ y∈A.drop ia,le' κ x y
 ob:∀ x∈out,∀ y∈B.drop ib,le' κ x y
theorem MI.symm {A B out:List Keyed} {ia ib:Nat} (h:MI κ A B out ia ib):MI κ B A out ib ia:=⟨h.pm.trans List.perm_append_comm,h.so,h.ob,h.oa⟩
theorem p_B {A:List Keyed} {i k:Nat}:A.take (i+k)=A.take i++(A.drop i).take k:=by rw [List.take_add]
theorem MI.ext {A B out:List Keyed} {ia ib k:Nat} (h:MI κ A B out ia ib) (sA:Srt κ A) (hx:∀ x∈(A.drop ia).take k,∀ y∈B.drop ib,le' κ x y):MI κ A B (out++(A.drop ia).take k) (ia+k) ib:=by
 have sd:Srt κ (A.drop ia):=List.Pairwise.sublist (List.drop_sublist _ _) sA;have cut:(A.drop ia).take k++A.drop (ia+k)=A.drop ia:=by rw [← List.drop_drop]; exact List.take_append_drop _ _
 have sp:=List.pairwise_append.mp (show Srt κ ((A.drop ia).take k++A.drop (ia+k)) by rw [cut]; exact sd);refine ⟨?_,List.pairwise_append.mpr ⟨h.so,sp.1,λ x hx' y hy=>h.oa x hx' y (List.mem_of_mem_take hy)⟩,λ x hx' y hy=>?_,λ x hx' y hy=>?_⟩
 ·rw [p_B,List.append_assoc];refine (h.pm.append_right _).trans ?_;rw [List.append_assoc];exact List.Perm.append_left _ List.perm_append_comm
 ·rcases List.mem_append.mp hx' with q | q
  ·exact h.oa x q y (by rw [← cut]; exact zZ _ hy)
  ·exact sp.2.2 x q y hy
 ·rcases List.mem_append.mp hx' with q | q
  ·exact h.ob x q y hy
  ·exact hx x q y hy
theorem o_x {A:List Keyed} {i:Nat} {p:Keyed} (e:A[i]?=some p):A.drop i=p :: A.drop (i+1):=by
 obtain ⟨h,rfl⟩:=List.getElem?_eq_some_iff.mp e;exact List.drop_eq_getElem_cons h
theorem MI.push {A B out:List Keyed} {ia ib:Nat} {p:Keyed} (h:MI κ A B out ia ib) (sA:Srt κ A) (e:A[ia]?=some p) (hx:∀ y∈B.drop ib,le' κ p y):MI κ A B (out++[p]) (ia+1) ib:=by
 have:=MI.ext (k:=1) h sA (λ x hx' y hy=>by
  rw [o_x e] at hx';have hxp:x=p:=by simpa using hx'
  rw [hxp];exact hx y hy)
 rw [o_x e] at this;simpa using this
noncomputable def Res (κ:PyProof.Rows.KeyKind) (A B r:List Keyed):Prop:=r.Perm (A++B)/\Srt κ r
theorem MI.all {A B out:List Keyed} {ia ib:Nat} (h:MI κ A B out ia ib) (sA:Srt κ A) (hb:B.length<=ib):Res κ A B (out++A.drop ia):=by
 refine ⟨?_,List.pairwise_append.mpr ⟨h.so,List.Pairwise.sublist (List.drop_sublist _ _) sA,h.oa⟩⟩;have:=h.pm;rw [List.take_of_length_le hb] at this;refine (this.append_right _).trans ?_;rw [List.append_assoc];refine (List.Perm.append_left _ List.perm_append_comm).trans ?_;rw [← List.append_assoc,List.take_append_drop]
theorem Res.symm {A B r:List Keyed} (h:Res κ A B r):Res κ B A r:=⟨h.1.trans List.perm_append_comm,h.2⟩
end
section
variable {prog:Program} {w:World} {A:Around} {E:Value->Shared->Prop} {s:Shared} {κ:PyProof.Rows.KeyKind} {kd:SortKind}
structure MG (κ:PyProof.Rows.KeyKind) (a b:Array Keyed):Prop where
 sa:Srt κ a.toList
 sb:Srt κ b.toList
 ga:∀ p∈a.toList,Gd κ p
 gb:∀ p∈b.toList,Gd κ p
 na:1<=a.size
 nb:1<=b.size
 top:∀ p,a[a.size - 1]?=some p->∀ y∈b.toList,le' κ y p
 fst:∀ p q,b[0]?=some p->a[0]?=some q->le' κ p q
structure Sm (st st':SortSt):Prop where
 k:kindOf st'=kindOf st
 a:arrOf st'=arrOf st
 p:pendingOf st'=pendingOf st
 f:failedOf st'=failedOf st
theorem Sm.refl (st:SortSt):Sm st st:=⟨rfl,rfl,rfl,rfl⟩
theorem Sm.set {st st':SortSt} (h:Sm st st') (g:Nat):Sm st (SortSt.mk' (kindOf st') (arrOf st') (pendingOf st') g (failedOf st')):=⟨h.k,h.a,h.p,h.f⟩
theorem h_L {a:Array Keyed} {i:Nat} {p:Keyed}:a[i]?=some p ↔ a.toList[i]?=some p:=by rw [Array.getElem?_toList]
theorem o_y {a:Array Keyed} {i:Nat} (h:i < a.size):∃ p,a[i]?=some p:=⟨a[i],Array.getElem?_eq_getElem h⟩
theorem r_F {st:SortSt} {arr:Array Keyed} {i:Nat} {Q:Keyed->SortSt->Prop} (hi:i < arr.size) (h:∀ p,arr[i]?=some p->Q p st):wpS (model prog w) A E s (elem' arr i) Q st:=by
 obtain ⟨p,e⟩:=o_y hi;exact r_E e (h p e)
end
section
variable {prog:Program} {w:World} {A:Around} {E:Value->Shared->Prop} {s:Shared} {κ:PyProof.Rows.KeyKind} {kd:SortKind}
theorem e_l {α:Type} {c:Prop} [Decidable c] {t e:StateT SortSt Sem α} {Q:α->SortSt->Prop} {st:SortSt} (h1:c->wpS (model prog w) A E s t Q st) (h2:¬ c->wpS (model prog w) A E s e Q st):wpS (model prog w) A E s (if c then t else e) Q st:=by
 by_cases h:c
 ·rw [if_pos h]; exact h1 h
 ·rw [if_neg h]; exact h2 h
end
section
variable {prog:Program} {w:World} {A:Around} {E:Value->Shared->Prop} {s:Shared} {κ:PyProof.Rows.KeyKind} {kd:SortKind}
theorem MG.le {a b:Array Keyed} (G:MG κ a b):Srt κ a.toList/\Srt κ b.toList:=⟨G.sa,G.sb⟩
end
section
variable {prog:Program} {w:World} {A:Around} {E:Value->Shared->Prop} {s:Shared} {κ:PyProof.Rows.KeyKind} {kd:SortKind}
noncomputable def seg (l:List Keyed) (i j:Nat):List Keyed:=(l.drop i).take (j - i)
theorem v_N {l:List Keyed} {i j t:Nat}:(seg l i j)[t]?=if t < j - i then l[i+t]? else none:=by
 unfold seg;rw [List.getElem?_take];split
 ·rw [List.getElem?_drop]
 ·rfl
end
section
variable {prog:Program} {w:World} {A:Around} {E:Value->Shared->Prop} {s:Shared} {κ:PyProof.Rows.KeyKind} {kd:SortKind}
theorem e_x (hC:Cmp prog w A s κ kd) {st:SortSt} {i j:Nat} {Q:Option Bool->SortSt->Prop} (hk:kindOf st=kd) (gd:∀ x∈(arrOf st).toList,Gd κ x) (hi:i < (arrOf st).size) (hj:j < (arrOf st).size)
  (h:∀ x y,(arrOf st)[i]?=some x->(arrOf st)[j]?=some y->Q (some (lq κ x y)) st):wpS (model prog w) A E s (ltAt' i j) Q st:=by
 rw [ltAt'_eq];refine wpS_bind (wpS_get ?_);refine wpS_bind (r_F hi λ x ex=>?_);refine wpS_bind (r_F hj λ y ey=>?_);exact u_h hC hk (gd x (List.mem_of_getElem? (h_L.mp ex))) (gd y (List.mem_of_getElem? (h_L.mp ey))) (h x y ex ey)
structure Ch (lo hi:Nat) (st st':SortSt):Prop where
 k:kindOf st'=kindOf st
 p:pendingOf st'=pendingOf st
 f:failedOf st'=failedOf st
 z:(arrOf st').size=(arrOf st).size
 m:(arrOf st').Perm (arrOf st)
 o:∀ i,i < lo\/hi<=i->(arrOf st')[i]?=(arrOf st)[i]?
theorem Ch.refl (lo hi:Nat) (st:SortSt):Ch lo hi st st:=⟨rfl,rfl,rfl,rfl,Array.Perm.refl _,λ _ _=>rfl⟩
theorem Ch.trans {lo hi:Nat} {a b c:SortSt} (h1:Ch lo hi a b) (h2:Ch lo hi b c):Ch lo hi a c:=⟨h2.k.trans h1.k,h2.p.trans h1.p,h2.f.trans h1.f,h2.z.trans h1.z,h2.m.trans h1.m,λ i hi=>(h2.o i hi).trans (h1.o i hi)⟩
theorem Ch.wide {lo hi hi':Nat} {a b:SortSt} (h:Ch lo hi a b) (hh:hi<=hi'):Ch lo hi' a b:=⟨h.k,h.p,h.f,h.z,h.m,λ i hi=>h.o i (by omega)⟩
theorem Ch.good {lo hi:Nat} {a b:SortSt} (h:Ch lo hi a b) (gd:∀ x∈(arrOf a).toList,Gd κ x):∀ x∈(arrOf b).toList,Gd κ x:=λ x hx=>gd x ((h.m.toList.mem_iff).mp hx)
noncomputable def Up (κ:PyProof.Rows.KeyKind) (a:Array Keyed) (lo hi:Nat):Prop:=∀ i j x y,lo<=i->i<=j->j < hi->a[i]?=some x->a[j]?=some y->le' κ x y
noncomputable def Dn (κ:PyProof.Rows.KeyKind) (a:Array Keyed) (lo hi:Nat):Prop:=∀ i j x y,lo<=i->i<=j->j < hi->a[i]?=some x->a[j]?=some y->le' κ y x
theorem Up.one {a:Array Keyed} {lo:Nat}:Up κ a lo (lo+1):=λ i j x y h1 h2 h3 ex ey=>by
 have:i=j:=by omega
 subst this;rw [ex] at ey;cases ey;exact f_F _
theorem Up.more {a:Array Keyed} {lo hi hi':Nat} (h:Up κ a lo hi) (hl:lo < hi) (hz:hi < a.size) (hn:∀ x y,a[hi - 1]?=some x->a[hi]?=some y->le' κ x y) (he:hi'=hi+1:=by omega):Up κ a lo hi':=λ i j x y h1 h2 h3 ex ey=>by
 subst he;rcases Nat.lt_or_ge j hi with q | q
 ·exact h i j x y h1 h2 q ex ey
 ·have ej:j=hi:=by omega
  subst ej;rcases Nat.lt_or_ge i j with q2 | q2
  ·obtain ⟨u,eu⟩:=o_y (a:=a) (i:=j - 1) (by omega);exact e_v (h i (j - 1) x u h1 (by omega) (by omega) ex eu) (hn u y eu ey)
  ·have:i=j:=by omega
   subst this;rw [ex] at ey;cases ey;exact f_F _
theorem Up.same {a b:Array Keyed} {lo hi:Nat} (h:Up κ a lo hi) (e:∀ i,lo<=i->i < hi->b[i]?=a[i]?):Up κ b lo hi:=λ i j x y h1 h2 h3 ex ey=>h i j x y h1 h2 h3 (by rw [← e i h1 (by omega)]; exact ex) (by rw [← e j (by omega) h3]; exact ey)
theorem Dn.more {a:Array Keyed} {lo hi hi':Nat} (h:Dn κ a lo hi) (hl:lo < hi) (hz:hi < a.size) (hn:∀ x y,a[hi - 1]?=some x->a[hi]?=some y->le' κ y x) (he:hi'=hi+1:=by omega):Dn κ a lo hi':=λ i j x y h1 h2 h3 ex ey=>by
 subst he;rcases Nat.lt_or_ge j hi with q | q
 ·exact h i j x y h1 h2 q ex ey
 ·have ej:j=hi:=by omega
  subst ej;rcases Nat.lt_or_ge i j with q2 | q2
  ·obtain ⟨u,eu⟩:=o_y (a:=a) (i:=j - 1) (by omega);exact e_v (hn u y eu ey) (h i (j - 1) x u h1 (by omega) (by omega) ex eu)
  ·have:i=j:=by omega
   subst this;rw [ex] at ey;cases ey;exact f_F _
noncomputable abbrev mir (a:Array Keyed) (i j:Nat):Array Keyed:=mirror a i j ((j - i) / 2)
theorem f_G {a:Array Keyed} {i j k:Nat} (hj:j<=a.size):(mir a i j)[k]?=if i<=k/\k < j then a[i+j - 1 - k]? else a[k]?:=getElem?_mirror_all hj k
theorem Dn.turned {a:Array Keyed} {lo hi i0 j0:Nat} (h:Dn κ a lo hi) (u:Up κ a i0 j0) (hl:lo<=i0) (hj:j0<=hi) (hz:hi<=a.size):Dn κ (mir a i0 j0) lo hi:=λ i j x y h1 h2 h3 ex ey=>by
 rw [f_G (by omega)] at ex ey
 by_cases c1:i0<=i/\i < j0
 ·rw [if_pos c1] at ex
  by_cases c2:i0<=j/\j < j0
  ·rw [if_pos c2] at ey;exact u _ _ y x (by omega) (show i0+j0 - 1 - j<=i0+j0 - 1 - i by omega) (by omega) ey ex
  ·rw [if_neg c2] at ey;exact h _ _ x y (by omega) (show i0+j0 - 1 - i<=j by omega) h3 ex ey
 ·rw [if_neg c1] at ex
  by_cases c2:i0<=j/\j < j0
  ·rw [if_pos c2] at ey;exact h _ _ x y h1 (show i<=i0+j0 - 1 - j by omega) (by omega) ex ey
  ·rw [if_neg c2] at ey;exact h _ _ x y h1 h2 h3 ex ey
theorem Dn.up {a:Array Keyed} {lo hi:Nat} (h:Dn κ a lo hi) (hz:hi<=a.size):Up κ (mir a lo hi) lo hi:=λ i j x y h1 h2 h3 ex ey=>by
 rw [f_G hz,if_pos ⟨h1,by omega⟩] at ex;rw [f_G hz,if_pos ⟨by omega,h3⟩] at ey;exact h _ _ y x (by omega) (show lo+hi - 1 - j<=lo+hi - 1 - i by omega) (by omega) ey ex
theorem h_M {st:SortSt} {i j:Nat} {Q:Unit->SortSt->Prop} (hj:j<=(arrOf st).size) (h:∀ st',Ch i j st st'->arrOf st'=mir (arrOf st) i j->Q () st'):wpS (model prog w) A E s (reverseSlice' i j) Q st:=by
 rw [reverseSlice'_eq];refine wpS_modify (h _ ⟨rfl,rfl,rfl,mirror_size _ _ _ _,mirror_perm _ _ _ _,λ k hk=>?_⟩ rfl);exact (f_G hj).trans (if_neg (by omega))
theorem o_z (hC:Cmp prog w A s κ kd) {st:SortSt} {lo n0 nrem:Nat} {f:Nat->Option (Option Nat) × Nat->StateT SortSt Sem (ForInStep (Option (Option Nat) × Nat))} {Q:Option (Option Nat) × Nat->SortSt->Prop} (hk:kindOf st=kd) (gd:∀ x∈(arrOf st).toList,Gd κ x) (hz:lo+nrem<=(arrOf st).size) (h0:1<=n0) (hn:n0<=nrem) (hu:Up κ (arrOf st) lo (lo+n0))
  (hf:∀ x c,f x c=(do
   let __x ← ltAt' (lo+c.2) (lo+c.2 - 1)
   match __x with
    | some smaller=>if smaller=true then pure (ForInStep.done (none,c.2)) else pure (ForInStep.yield (none,c.2+1))
    | _=>pure (ForInStep.done (some none,c.2))))
  (h:∀ n,n0<=n->n<=nrem->Up κ (arrOf st) lo (lo+n)->(n=nrem\/∀ x y,(arrOf st)[lo+n]?=some x->(arrOf st)[lo+n - 1]?=some y->lq κ x y=true)->Q (none,n) st) :
  wpS (model prog w) A E s (forIn [n0:nrem] ((none,n0):Option (Option Nat) × Nat) f) Q st:=by
 refine wpS_mono (wpS_forRange (I:=λ x c st'=>st'=st/\c=(none,x)/\n0<=x/\x<=nrem/\Up κ (arrOf st) lo (lo+x))
  (Q:=λ c st'=>st'=st/\∃ n,c=(none,n)/\n0<=n/\n<=nrem/\Up κ (arrOf st) lo (lo+n)/\(n=nrem\/∀ x y,(arrOf st)[lo+n]?=some x->(arrOf st)[lo+n - 1]?=some y->lq κ x y=true)) ?_ ?_ ⟨rfl,rfl,zL _,hn,hu⟩) ?_
 ·rintro x c st' hx1 hx2 ⟨rfl,rfl,a1,a2,a3⟩;rw [hf];dsimp only;refine wpS_bind (e_x hC hk gd (by omega) (by omega) λ p q ep eq=>?_);dsimp only;cases hl:lq κ p q with
  | true =>
   rw [if_pos rfl];refine wpS_pure ⟨rfl,x,rfl,a1,a2,a3,.inr λ u v eu ev=>?_⟩;rw [ep] at eu;rw [eq] at ev;cases eu;cases ev;exact hl
  | false =>
   rw [if_neg (by simp)];refine wpS_pure ⟨rfl,rfl,by omega,by omega,?_⟩;refine Up.more a3 (by omega) (by omega) λ u v eu ev=>?_;rw [eq] at eu;rw [ep] at ev;cases eu;cases ev;exact hl
 ·rintro c st' ⟨rfl,rfl,a1,a2,a3⟩;exact ⟨rfl,_,rfl,a1,a2,a3,.inl (by omega)⟩
 ·rintro c st' ⟨rfl,n,rfl,a1,a2,a3,a4⟩;exact h n a1 a2 a3 a4
theorem l_A {α:Type} {c:Prop} [Decidable c] {P T:StateT SortSt Sem α} {R:SortSt->Prop} {st:SortSt} {Q:α->SortSt->Prop} (h1:c->(∀ st2,R st2->wpS (model prog w) A E s P Q st2)->wpS (model prog w) A E s T Q st) (h2:¬ c->R st) (go:∀ st2,R st2->wpS (model prog w) A E s P Q st2):wpS (model prog w) A E s (if c then T else P) Q st :=
 e_l (λ x=>h1 x go) λ x=>go st (h2 x)
theorem j_Y (hC:Cmp prog w A s κ kd) {st:SortSt} {lo nrem:Nat} {Q:Option Nat->SortSt->Prop} (hk:kindOf st=kd) (gd:∀ x∈(arrOf st).toList,Gd κ x) (hz:lo+nrem<=(arrOf st).size) (h1:1<=nrem)
  (h:∀ n st',1<=n->n<=nrem->Ch lo (lo+n) st st'->Up κ (arrOf st') lo (lo+n)->Q (some n) st'):wpS (model prog w) A E s (countRun' lo nrem) Q st:=by
 rw [countRun'_eq];refine wpS_bind (o_z hC hk gd hz (zL _) h1 Up.one (λ x c=>rfl) λ n n1 n2 up nx=>?_);dsimp only;refine e_l (λ z=>?_) λ z=>?_
 ·exact wpS_pure (h n st n1 n2 (Ch.refl _ _ _) up)
 have z':n≠nrem:=λ e=>z (beq_iff_eq.mpr e);have nx':=nx.resolve_left z';refine l_A (R:=λ st2=>Ch lo (lo+n) st st2/\Dn κ (arrOf st2) lo (lo+n+1)) (λ y go=>?_) (λ y=>?_) λ st2 h2=>?_
 ·refine wpS_bind (e_x hC hk gd (by omega) (by omega) λ p q ep eq=>?_);dsimp only;cases hl:lq κ p q with
  | true =>
   rw [if_pos rfl];exact wpS_pure (h n st n1 n2 (Ch.refl _ _ _) up)
  | false =>
   rw [if_neg (by simp)];refine wpS_bind (h_M (by omega) λ st2 c2 e2=>?_);refine go st2 ⟨c2,Dn.more (hi:=lo+n) ?_ (by omega) (by rw [c2.z]; omega) λ u v eu ev=>?_⟩
   ·-- all alike
    rw [e2];intro i j x y b1 b2 b3 ex ey;rw [f_G (by omega),if_pos ⟨b1,by omega⟩] at ex;rw [f_G (by omega),if_pos ⟨by omega,b3⟩] at ey;exact up _ _ y x (by omega) (show lo+(lo+n) - 1 - j<=lo+(lo+n) - 1 - i by omega) (by omega) ey ex
   ·rw [c2.o _ (.inr (zL _))] at ev;rw [e2,f_G (by omega),if_pos (by omega),show lo+(lo+n) - 1 - (lo+n - 1)=lo by omega,ep] at eu;cases eu;exact e_v (e_w (nx' v q ev eq)) hl
 ·have:n=1:=by omega
  subst this;refine ⟨Ch.refl _ _ _,Dn.more (hi:=lo+1) (λ i j x y b1 b2 b3 ex ey=>?_) (by omega) (by omega) λ u v eu ev=>e_w (nx' v u ev eu)⟩;have:i=j:=by omega
  subst this;rw [ex] at ey;cases ey;exact f_F _
 ·obtain ⟨c2,dn⟩:=h2;refine wpS_bind (wpS_lift (wpAny_rule ⟨rfl,?_⟩));refine wpS_bind (wpS_mono (wpS_forRange (I:=λ x c st'=>∃ neq,c=(none,x,neq)/\n+1<=x/\x<=nrem/\neq+1<=x/\Ch lo (lo+x) st st'/\Dn κ (arrOf st') lo (lo+x)/\Up κ (arrOf st') (lo+x - (neq+1)) (lo+x))
   (Q:=λ c st'=>∃ x neq,c=(none,x,neq)/\n+1<=x/\x<=nrem/\neq+1<=x/\Ch lo (lo+x) st st'/\Dn κ (arrOf st') lo (lo+x)/\Up κ (arrOf st') (lo+x - (neq+1)) (lo+x)) ?_ ?_ ⟨0,rfl,zL _,by omega,by omega,c2.wide (by omega),dn,by rw [show lo+(n+1)=lo+n+1 by omega]; exact Up.one⟩) ?_)
  ·rintro x c st' hx1 hx2 ⟨neq,rfl,a1,a2,a3,ch,dn,up⟩;have hk':kindOf st'=kd:=ch.k.trans hk;have gd':=ch.good gd;have z':=ch.z;dsimp only;refine wpS_bind (e_x hC hk' gd' (by omega) (by omega) λ p q ep eq=>?_);dsimp only;cases hl:lq κ p q with
   | true =>
    rw [if_pos rfl];refine e_l (λ zn=>?_) λ zn=>?_
    ·refine wpS_bind (h_M (by omega) λ st3 c3 e3=>wpS_pure ?_);have cw:Ch lo (lo+x) st' st3:=⟨c3.k,c3.p,c3.f,c3.z,c3.m,λ i hi=>c3.o i (by omega)⟩;refine ⟨0,rfl,by omega,by omega,by omega,(ch.trans cw).wide (by omega),?_,by rw [show lo+(x+1) - (0+1)=lo+x by omega]; exact Up.one⟩;refine Dn.more (hi:=lo+x) (by rw [e3]; exact Dn.turned dn up (by omega) (zL _) (by omega)) (by omega) (by rw [c3.z]; omega) λ u v eu ev=>?_;rw [c3.o _ (.inr (zL _)),ep] at ev;cases ev;rw [e3,f_G (by omega),if_pos (by omega)] at eu;have l1:le' κ q u:=dn _ _ u q (by omega) (show lo+x - (neq+1)+(lo+x) - 1 - (lo+x - 1)<=lo+x - 1 by omega) (by omega) eu eq;exact e_v (e_w hl) l1
    ·refine wpS_pure ⟨0,rfl,by omega,by omega,by omega,ch.wide (by omega),?_,by rw [show lo+(x+1) - (0+1)=lo+x by omega]; exact Up.one⟩;refine Dn.more dn (by omega) (by omega) λ u v eu ev=>?_;rw [eq] at eu;rw [ep] at ev;cases eu;cases ev;exact e_w hl
   | false =>
    rw [if_neg (by simp)];refine wpS_bind (e_x hC hk' gd' (by omega) (by omega) λ q' p' eq' ep'=>?_);rw [eq] at eq';rw [ep] at ep';cases eq';cases ep';dsimp only;cases hl2:lq κ q p with
    | true =>
     rw [if_pos rfl];exact wpS_pure ⟨x,neq,rfl,a1,a2,a3,ch,dn,up⟩
    | false =>
     rw [if_neg (by simp)];refine wpS_pure ⟨neq+1,rfl,by omega,by omega,by omega,ch.wide (by omega),?_,?_⟩
     ·refine Dn.more dn (by omega) (by omega) λ u v eu ev=>?_;rw [eq] at eu;rw [ep] at ev;cases eu;cases ev;exact hl2
     ·have:=Up.more (hi':=lo+(x+1)) up (by omega) (by omega) λ u v eu ev=>by
       rw [eq] at eu;rw [ep] at ev;cases eu;cases ev;exact hl
      rw [show lo+(x+1) - (neq+1+1)=lo+x - (neq+1) by omega];exact this
  ·rintro c st' ⟨neq,rfl,a1,a2,a3,ch,dn,up⟩;exact ⟨_,neq,rfl,a1,a2,a3,ch,dn,up⟩
  ·rintro c st' ⟨x,neq,rfl,a1,a2,a3,ch,dn,up⟩;dsimp only;refine l_A (R:=λ st3=>Ch lo (lo+x) st st3/\Dn κ (arrOf st3) lo (lo+x)) (λ zn fin=>?_) (λ zn=>⟨ch,dn⟩) λ st3 h3=>?_
   ·have z':=ch.z;refine wpS_bind (h_M (by omega) λ st3 c3 e3=>?_);have cw:Ch lo (lo+x) st' st3:=⟨c3.k,c3.p,c3.f,c3.z,c3.m,λ i hi=>c3.o i (by omega)⟩;exact fin st3 ⟨ch.trans cw,by rw [e3]; exact Dn.turned dn up (by omega) (zL _) (by omega)⟩
   ·obtain ⟨c3,dn3⟩:=h3;have z3:=c3.z;refine wpS_bind (h_M (by omega) λ st4 c4 e4=>?_);have c34:=c3.trans c4;have z4:=c4.z;refine wpS_bind (o_z hC (c34.k.trans hk) (c34.good gd) (by omega) (by omega) a2 (by rw [e4]; exact Dn.up dn3 (by omega)) (λ _ _=>rfl) λ m m1 m2 up' _=>?_);dsimp only;exact wpS_pure (h m st4 (by omega) m2 (c34.wide (by omega)) up')
end
section
variable {prog:Program} {w:World} {A:Around} {E:Value->Shared->Prop} {s:Shared} {κ:PyProof.Rows.KeyKind} {kd:SortKind}
theorem w_I {x y z:Keyed} (h1:lq κ x y=true) (h2:le' κ y z):lq κ x z=true:=KeyOrd.klt_of_klt_of_kle (O:=κ.toKeyOrd) h1 h2
theorem Up.put {a:Array Keyed} {lo k l:Nat} {p:Keyed} (hu:Up κ a lo (lo+k)) (hz:lo+k < a.size) (ep:a[lo+k]?=some p) (hl:l<=k) (h1:∀ i u,lo<=i->i < lo+l->a[i]?=some u->le' κ u p) (h2:∀ i u,lo+l<=i->i < lo+k->a[i]?=some u->lq κ p u=true) :
  Up κ (bubble a (lo+k) (lo+k - (lo+l))) lo (lo+(k+1)):=λ i j x y g1 g2 g3 ex ey=>by
 rw [getElem?_bubble hz _ (by omega),show lo+k - (lo+k - (lo+l))=lo+l by omega] at ex ey
 by_cases a1:i=lo+l
 ·rw [if_pos a1,ep] at ex;cases ex
  by_cases b1:j=lo+l
  ·rw [if_pos b1,ep] at ey;cases ey;exact f_F _
  ·rw [if_neg b1,if_pos (by omega)] at ey;exact e_w (h2 _ _ (by omega) (by omega) ey)
 ·rw [if_neg a1] at ex
  by_cases a2:lo+l < i/\i<=lo+k
  ·rw [if_pos a2] at ex;rw [if_neg (by omega),if_pos (by omega)] at ey;exact hu _ _ _ _ (by omega) (show i - 1<=j - 1 by omega) (by omega) ex ey
  ·rw [if_neg a2] at ex
   by_cases b1:j=lo+l
   ·rw [if_pos b1,ep] at ey;cases ey;exact h1 _ _ g1 (by omega) ex
   ·rw [if_neg b1] at ey
    by_cases b2:lo+l < j/\j<=lo+k
    ·rw [if_pos b2] at ey;exact hu _ _ _ _ g1 (show i<=j - 1 by omega) (by omega) ex ey
    ·rw [if_neg b2] at ey;exact hu _ _ _ _ g1 g2 (by omega) ex ey
theorem l_B (hC:Cmp prog w A s κ kd) {st:SortSt} {lo n ok:Nat} {Q:Bool->SortSt->Prop} (hk:kindOf st=kd) (gd:∀ x∈(arrOf st).toList,Gd κ x) (hz:lo+n<=(arrOf st).size) (h1:1<=ok) (hok:ok<=n) (hu:Up κ (arrOf st) lo (lo+ok))
  (h:∀ st',Ch lo (lo+n) st st'->Up κ (arrOf st') lo (lo+n)->Q true st'):wpS (model prog w) A E s (binarySort' lo n ok) Q st:=by
 rw [binarySort'_eq];refine wpS_bind (wpS_mono (wpS_forRange (I:=λ k c st'=>c=(none,())/\ok<=k/\k<=n/\Ch lo (lo+n) st st'/\Up κ (arrOf st') lo (lo+k))
  (Q:=λ c st'=>c=(none,())/\Ch lo (lo+n) st st'/\Up κ (arrOf st') lo (lo+n)) ?step ?fin ?init) ?post)
 case post =>
  rintro c st' ⟨rfl,c1,u1⟩;exact wpS_pure (h st' c1 u1)
 case init=>rw [show max ok 1=ok by omega]; exact ⟨rfl,zL _,hok,Ch.refl _ _ _,hu⟩
 case fin =>
  rintro c st' ⟨hc,a1,a2,c1,u1⟩;rw [show max (max ok 1) n=n by omega] at u1;exact ⟨hc,c1,u1⟩
 case step =>
  rintro k c st' hak hkn ⟨rfl,a1,a2,c1,u1⟩;have z1:=c1.z;have hk':kindOf st'=kd:=c1.k.trans hk;have gd':=c1.good gd;obtain ⟨p,ep⟩:=o_y (a:=arrOf st') (i:=lo+k) (by omega);refine wpS_bind (wpS_mono (wpS_forRange (I:=λ x c st''=>st''=st'/\∃ l r,c=(none,l,r)/\l<=r/\r<=k/\r - l<=k - x /\
    (∀ i u,lo<=i->i < lo+l->(arrOf st')[i]?=some u->le' κ u p)/\(∀ i u,lo+r<=i->i < lo+k->(arrOf st')[i]?=some u->lq κ p u=true))
   (Q:=λ c st''=>st''=st'/\∃ l r,c=(none,l,r)/\l<=k /\
    (∀ i u,lo<=i->i < lo+l->(arrOf st')[i]?=some u->le' κ u p)/\(∀ i u,lo+l<=i->i < lo+k->(arrOf st')[i]?=some u->lq κ p u=true)) ?istep ?ifin ?iinit) ?ipost)
  case iinit=>exact ⟨rfl,0,k,rfl,by omega,by omega,by omega,λ i u _ hi=>by omega,λ i u h1 h2=>by omega⟩
  case ifin =>
   rintro c st'' ⟨rfl,l,r,rfl,hlr,hrk,hm,hlo,hhi⟩;have:l=r:=by omega
   subst this;exact ⟨rfl,l,l,rfl,hrk,hlo,hhi⟩
  case istep =>
   rintro x c st'' _ hxk ⟨rfl,l,r,rfl,hlr,hrk,hm,hlo,hhi⟩;dsimp only;refine e_l (λ hge=>?_) λ hge=>?_
   ·have:l=r:=by omega
    subst this;exact wpS_pure ⟨rfl,l,l,rfl,hrk,hlo,hhi⟩
   ·refine wpS_bind (e_x hC hk' gd' (by omega) (by omega) λ p' q ep' eq=>?_);rw [ep] at ep';cases ep';dsimp only;cases hless:lq κ p q with
    | true =>
     rw [if_pos rfl];refine wpS_pure ⟨rfl,l,(l+r) / 2,rfl,by omega,by omega,by omega,hlo,λ i u g1 g2 eu=>?_⟩;exact w_I hless (u1 _ _ _ _ (by omega) g1 g2 eq eu)
    | false =>
     rw [if_neg (by simp)];refine wpS_pure ⟨rfl,(l+r) / 2+1,r,rfl,by omega,by omega,by omega,λ i u g1 g2 eu=>?_,hhi⟩;exact e_v (u1 _ _ _ _ g1 (show i<=lo+(l+r) / 2 by omega) (by omega) eu eq) hless
  case ipost =>
   rintro c st'' ⟨rfl,l,r,rfl,hlk,hlo,hhi⟩;show wpS _ _ _ _ (do moveDown' (lo+k) (lo+l); pure (ForInStep.yield (none,()))) _ _;rw [moveDown'_eq];refine wpS_bind (wpS_modify (wpS_pure ⟨rfl,by omega,by omega,c1.trans ⟨rfl,rfl,rfl,bubble_size _ _ _,bubble_perm _ _ _,λ i hi=>?_⟩,u1.put (by omega) ep hlk hlo hhi⟩));exact (getElem?_bubble (by omega) _ (by omega) i).trans (by rw [if_neg (by omega),if_neg (by omega)])
end
section
variable {prog:Program} {w:World} {A:Around} {E:Value->Shared->Prop} {s:Shared} {κ:PyProof.Rows.KeyKind} {kd:SortKind}
noncomputable def Run (κ:PyProof.Rows.KeyKind) (a:Array Keyed):Nat->List (Nat × Nat × Nat)->Nat->Prop
 | s,[],e=>s=e
 | s,x :: xs,e=>x.1=s/\1<=x.2.1/\Up κ a s (s+x.2.1)/\Run κ a (s+x.2.1) xs e
theorem Run.le {a:Array Keyed}:∀ {xs:List (Nat × Nat × Nat)} {s e:Nat},Run κ a s xs e->s+xs.length<=e
 | [],s,e,h=>by have:s=e:=h; simp [this]
 | x :: xs,s,e,h=>by have:=Run.le h.2.2.2; have:=h.2.1; simp only [List.length_cons]; omega
theorem Run.app {a:Array Keyed}:∀ {xs ys:List (Nat × Nat × Nat)} {s e:Nat},Run κ a s (xs++ys) e ↔ ∃ m,Run κ a s xs m/\Run κ a m ys e
 | [],ys,s,e=>⟨λ h=>⟨s,rfl,h⟩,λ ⟨m,h1,h2⟩=>by cases (show s=m from h1); exact h2⟩
 | x :: xs,ys,s,e=>⟨λ ⟨h1,h2,h3,h4⟩=>let ⟨m,g1,g2⟩:=Run.app.mp h4; ⟨m,⟨h1,h2,h3,g1⟩,g2⟩,λ ⟨m,⟨h1,h2,h3,h4⟩,g⟩=>⟨h1,h2,h3,Run.app.mpr ⟨m,h4,g⟩⟩⟩
theorem Run.same {a b:Array Keyed}:∀ {xs:List (Nat × Nat × Nat)} {s e:Nat},(∀ i,s<=i->i < e->b[i]?=a[i]?)->Run κ a s xs e->Run κ b s xs e
 | [],_,_,_,h=>h
 | x :: xs,s,e,q,h=>by
  have:=Run.le h.2.2.2;exact ⟨h.1,h.2.1,h.2.2.1.same λ i i1 i2=>q i i1 (by omega),Run.same (λ i i1 i2=>q i (by omega) i2) h.2.2.2⟩
theorem p_C {a:Array Keyed} {i j:Nat} (h:Up κ a i j):Srt κ (seg a.toList i j):=by
 rw [Srt,List.pairwise_iff_getElem];intro t u ht hu htu;have e1:=List.getElem?_eq_getElem ht;have e2:=List.getElem?_eq_getElem hu;rw [v_N] at e1 e2;split at e1
 ·split at e2
  ·exact h _ _ _ _ (by omega) (show i+t<=i+u by omega) (by omega) (h_L.mpr e1) (h_L.mpr e2)
  ·cases e2
 ·cases e1
structure Wt (κ:PyProof.Rows.KeyKind) (kd:SortKind) (a₀:Array Keyed) (hi:Nat) (st:SortSt):Prop where
 k:kindOf st=kd
 f:failedOf st=none
 m:(arrOf st).Perm a₀
 r:Run κ (arrOf st) 0 (pendingOf st).toList hi
theorem Wt.z {a₀:Array Keyed} {hi:Nat} {st:SortSt} (h:Wt κ kd a₀ hi st):(arrOf st).size=a₀.size:=h.m.size_eq
theorem Wt.good {a₀:Array Keyed} {hi:Nat} {st:SortSt} (h:Wt κ kd a₀ hi st) (gd:∀ x∈a₀.toList,Gd κ x):∀ x∈(arrOf st).toList,Gd κ x:=λ x hx=>gd x ((h.m.toList.mem_iff).mp hx)
end
section
variable {prog:Program} {w:World} {A:Around} {E:Value->Shared->Prop} {s:Shared} {κ:PyProof.Rows.KeyKind} {kd:SortKind}
theorem Wt.push {a₀:Array Keyed} {lo n:Nat} {st:SortSt} (h:Wt κ kd a₀ lo st) (hn:1<=n) (hu:Up κ (arrOf st) lo (lo+n)):Wt κ kd a₀ (lo+n) (setPending st ((pendingOf st).push (lo,n,0))) :=
 ⟨h.k,h.f,h.m,by
  show Run κ (arrOf st) 0 ((pendingOf st).push (lo,n,0)).toList (lo+n);rw [Array.toList_push];exact Run.app.mpr ⟨lo,h.r,rfl,hn,hu,rfl⟩⟩
end
noncomputable def j_o (prog:Program) (w:World) (n:Nat):Prop:=∀ {A:Around} {E:Value->Shared->Prop} {s:Shared} {κ:PyProof.Rows.KeyKind} {kd:SortKind} {a₀:Array Keyed} {st:SortSt} {Q:Unit->SortSt->Prop},a₀.size=n->2<=n->Cmp prog w A s κ kd->(∀ x∈a₀.toList,Gd κ x)->kindOf st=kd->failedOf st=none->pendingOf st=#[]->arrOf st=a₀ ->
 (∀ st',kindOf st'=kd->failedOf st'=none->(arrOf st').Perm a₀->Up κ (arrOf st') 0 a₀.size->Q () st')->wpS (model prog w) A E s sortRuns' Q st
section
variable {prog:Program} {w:World}
theorem l_C {n:Nat} (h64:n < 64):j_o prog w n:=by
 intro A E s κ kd a₀ st Q hn h2 hC gd hk hf hp ha h;rw [sortRuns'_eq];refine wpS_bind (wpS_get ?_);rw [ha];dsimp only;obtain ⟨f,ef⟩:∃ f,a₀.size=f+1:=⟨a₀.size - 1,by omega⟩;have hmr:minRun' a₀.size a₀.size 0=a₀.size:=by
  have:minRun' (f+1) a₀.size 0=a₀.size:=by rw [minRun'_succ,if_pos (by omega)]; rfl
  rw [← ef] at this;exact this
 rw [hmr];have hz:(arrOf st).size=a₀.size:=by rw [ha]
 have gd':∀ x∈(arrOf st).toList,Gd κ x:=by rw [ha]; exact gd
 refine wpS_bind (wpS_mono (wpS_forRange (I:=λ x c st'=>(x=0/\c=(none,0)/\st'=st)\/(1<=x/\c=(none,a₀.size)/\kindOf st'=kd/\failedOf st'=none/\(arrOf st').Perm a₀/\Up κ (arrOf st') 0 a₀.size/\(pendingOf st').size<=1))
  (Q:=λ c st'=>c=(none,a₀.size)/\kindOf st'=kd/\failedOf st'=none/\(arrOf st').Perm a₀/\Up κ (arrOf st') 0 a₀.size/\(pendingOf st').size<=1) ?step ?fin (.inl ⟨rfl,rfl,rfl⟩)) ?post)
 case fin =>
  rintro c st' (⟨z,_⟩ | ⟨_,r⟩)
  ·omega
  ·exact r
 case step =>
  rintro x c st' hx1 hx2 (⟨rfl,rfl,rfl⟩ | ⟨h1,rfl,r⟩)
  ·dsimp only;refine e_l (λ z=>by omega) λ z=>?_;have e0:a₀.size - 0=a₀.size:=Nat.sub_zero _;refine wpS_bind (j_Y hC hk gd' (by omega) (by omega) λ m st1 n1 n2 c1 u1=>?_);dsimp only;have p1:pendingOf st1=#[]:=c1.p.trans hp;refine e_l (λ y=>?_) λ y=>?_
   ·refine wpS_bind (wpS_lift (wpAny_rule ⟨rfl,?_⟩));have z1:=c1.z;refine wpS_bind (l_B hC (c1.k.trans hk) (c1.good gd') (by omega) n1 (by omega) u1 λ st2 c2 u2=>?_);rw [if_neg (by simp)];refine wpS_bind (wpS_get ?_);have p2:pendingOf st2=#[]:=c2.p.trans p1;rw [p2];show wpS _ _ _ _ (do
     modify λ s=>setPending s ((pendingOf s).push (0,min (a₀.size - 0) a₀.size,0))
     pure (ForInStep.yield (none,0+min (a₀.size - 0) a₀.size))) _ _
    have em:min (a₀.size - 0) a₀.size=a₀.size:=by omega
    rw [em] at u2 ⊢;rw [Nat.zero_add] at u2 ⊢;refine wpS_bind (wpS_modify (wpS_pure (.inr ⟨by omega,rfl,c2.k.trans (c1.k.trans hk),c2.f.trans (c1.f.trans hf),c2.m.trans (by rw [← ha]; exact c1.m),u2,?_⟩)));show ((pendingOf st2).push _).size<=1;rw [p2];exact zL _
   ·refine wpS_bind (wpS_get ?_);rw [p1];have em:m=a₀.size:=by omega
    subst em;show wpS _ _ _ _ (do
     modify λ s=>setPending s ((pendingOf s).push (0,a₀.size,0))
     pure (ForInStep.yield (none,0+a₀.size))) _ _
    rw [Nat.zero_add] at u1 ⊢;refine wpS_bind (wpS_modify (wpS_pure (.inr ⟨by omega,rfl,c1.k.trans hk,c1.f.trans hf,by rw [← ha]; exact c1.m,u1,?_⟩)));show ((pendingOf st1).push _).size<=1;rw [p1];exact zL _
  ·dsimp only;refine e_l (λ z=>wpS_pure ⟨rfl,r⟩) λ z=>yJ (zL _) z
 case post =>
  rintro c st' ⟨rfl,h1,h2,h3,h4,h5⟩;dsimp only;refine wpS_bind (wpS_mono (wpS_forRange (I:=λ x c st2=>c=(none,())/\st2=st') (Q:=λ c st2=>c=(none,())/\st2=st') ?fstep (λ c st2 hh=>hh) ⟨rfl,rfl⟩) ?fpost)
  case fstep =>
   rintro x c st3 _ _ ⟨rfl,rfl⟩;refine wpS_bind (wpS_get ?_);exact e_l (λ q=>wpS_pure ⟨rfl,rfl⟩) λ q=>yJ h5 q
  case fpost =>
   rintro c st3 ⟨rfl,rfl⟩;exact wpS_pure (h st3 h1 h2 h3 h4)
end
mutual
noncomputable def fl:PyData->List Int
 | .int i=>[i]
 | .tuple xs=>flA xs
 | _=>[]
noncomputable def flA:List PyData->List Int
 | []=>[]
 | d :: ds=>fl d++flA ds
end
mutual
noncomputable def sm:PyData->PyData->Bool
 | .int _,.int _=>true
 | .tuple xs,.tuple ys=>smA xs ys
 | _,_=>false
noncomputable def smA:List PyData->List PyData->Bool
 | [],[]=>true
 | x :: xs,y :: ys=>sm x y && smA xs ys
 | _,_=>false
end
mutual
theorem j_Z:∀ (x y:PyData),sm x y=true->(fl x).length=(fl y).length
 | .int _,y,h=>by cases y <;> simp [sm] at h <;> simp [fl]
 | .tuple xs,y,h=>by cases y <;> simp [sm] at h <;> simp [fl]; exact o_A _ _ h
 | .none,y,h=>by simp [sm] at h
 | .bool _,y,h=>by simp [sm] at h
 | .str _,y,h=>by simp [sm] at h
 | .list _,y,h=>by simp [sm] at h
 | .dict _,y,h=>by simp [sm] at h
theorem o_A:∀ (xs ys:List PyData),smA xs ys=true->(flA xs).length=(flA ys).length
 | [],ys,h=>by cases ys <;> simp [smA] at h <;> rfl
 | x :: xs,ys,h=>by
  cases ys <;> simp [smA] at h;simp only [flA,List.length_append];rw [j_Z _ _ h.1,o_A _ _ h.2]
end
mutual
theorem m_Y:∀ (x y:PyData),sm x y=true->fl x=fl y->x=y
 | .int _,y,h,e=>by cases y <;> simp [sm] at h; simp [fl] at e; rw [e]
 | .tuple xs,y,h,e=>by cases y <;> simp [sm] at h; simp only [fl] at e; rw [o_B _ _ h e]
 | .none,y,h,e=>by simp [sm] at h
 | .bool _,y,h,e=>by simp [sm] at h
 | .str _,y,h,e=>by simp [sm] at h
 | .list _,y,h,e=>by simp [sm] at h
 | .dict _,y,h,e=>by simp [sm] at h
theorem o_B:∀ (xs ys:List PyData),smA xs ys=true->flA xs=flA ys->xs=ys
 | [],ys,h,e=>by cases ys <;> simp [smA] at h; rfl
 | x :: xs,ys,h,e=>by
  cases ys <;> simp [smA] at h;simp only [flA] at e;obtain ⟨e1,e2⟩:=List.append_inj e (j_Z _ _ h.1);rw [m_Y _ _ h.1 e1,o_B _ _ h.2 e2]
end
noncomputable def lx (a b:List Int):Bool:=decide (a < b)
theorem i_p:∀ (a l1 l2:List Int),lx (a++l1) (a++l2)=lx l1 l2
 | [],_,_=>rfl
 | x :: a,l1,l2=>by
  rw [← i_p a l1 l2]
  apply decide_eq_decide.mpr
  simp [List.cons_lt_cons_iff]
theorem m_Z:∀ (a b l1 l2:List Int),a.length=b.length->a≠b->lx (a++l1) (b++l2)=lx a b
 | [],[],_,_,_,h=>yJ rfl h
 | [],_ :: _,_,_,h,_=>by simp at h
 | _ :: _,[],_,_,h,_=>by simp at h
 | x :: a,y :: b,l1,l2,h,hn=>by
  apply decide_eq_decide.mpr
  simp only [List.cons_append,List.cons_lt_cons_iff]
  by_cases e:x=y
  ·subst e;have:=decide_eq_decide.mp (m_Z a b l1 l2 (by simpa using h) (by simpa using hn));rw [this]
  ·simp [e]
section
variable {prog:Program} {w:World} {E:Value->Shared->Prop}
theorem eqT {n:Nat} (hn:n<=4) {A:Around} {s:Shared} {v u:Value} {x y:PyData} {as bs:List Addr} {Q:Bool->Shared->Prop} (t1:tT n x=true) (t2:tT n y=true) (r1:Reads s.heap v x as) (r2:Reads s.heap u y bs) (hu:A.units+8 < cLine) (h:Q (decide (x=y)) s):wpAny (model prog w) A (eqBool v u) Q E s:=by
 have i1:=e_h n _ t1;have i2:=e_h n _ t2;have l1:=e_q n _ i1;have l2:=e_q n _ i2;refine PySem.SeqAt.eqBoolOverData _ _ _ _ _ _ _ _ _ _ _ _ r1 r2 l1.1 l2.1 (by omega) ?_;rw [← SeqAt.same_eq_eqv _ _ (j_U n _ _ i1 i2)];have e:=h_J n _ _ i1 i2
 by_cases z:x=y
 ·rw [zW z] at h;rw [e.mpr z];exact h
 ·rw [zX z] at h;have:same x y=false:=by
   cases q:same x y with
   | false=>rfl
   | true=>exact yJ (e.mp q) z
  rw [this];exact h
theorem ltT:∀ (n:Nat),n<=4->∀ {A:Around} {s:Shared} {v u:Value} {x y:PyData} {as bs:List Addr} {Q:Value->Shared->Prop},tT n x=true->tT n y=true->sm x y=true->Reads s.heap v x as->Reads s.heap u y bs->A.units+8+n < cLine->Q (.bool (lx (fl x) (fl y))) s->wpAny (model prog w) A (richCompare .Lt v u) Q E s:=by
 intro n
 induction n with
 | zero =>
  intro hn A s v u x y as bs Q t1 t2 hs r1 r2 hu h;cases r1 <;> simp [tT] at t1;cases r2 <;> simp [tT] at t2;refine wpAny_lt_int ?_;simpa [fl,lx,List.cons_lt_cons_iff] using h
 | succ n ih =>
  intro hn A s v u x y as bs Q t1 t2 hs r1 r2 hu h;cases r1 <;> simp only [tT,Bool.false_eq_true] at t1
  case int =>
   cases r2 <;> simp only [sm,Bool.false_eq_true] at hs;refine wpAny_lt_int ?_;simpa [fl,lx,List.cons_lt_cons_iff] using h
  case tuple a o vs m xs hg hc hd hr =>
   cases r2 <;> simp only [sm,Bool.false_eq_true] at hs;rename_i b o2 us m2 ys hg2 hc2 hd2 hr2;simp only [tT] at t2;have T1:s.TypeIs (.ref a) "tuple" := ⟨o,hg,hc⟩;have T2:s.TypeIs (.ref b) "tuple" := ⟨o2,hg2,hc2⟩;refine wpAny_richCompare_same_room (op:=.Lt) T1 T2 PySem.F.slot_tuple_lt (wpAny_call_entry PySem.F.slot_tuple_lt T1 PySem.F.entry_tuple_lt ?_ (PySem.F.args_tuple_lt_2 _ _)) (by omega);show wpAny _ _ (isInstance (.ref b) (.type "tuple") >>= _) _ _ s;refine zA (wpAny_isInstance T2 isSubtype_tuple_tuple ?_);simp only [Bool.not_true,Bool.false_eq_true,if_false];refine zA (wpAny_tupleItemsOf hg hd ?_);refine zA (wpAny_tupleItemsOf hg2 hd2 ?_);refine zA ?_;refine wpAny_forIn_list _
    (λ rest r s'=>r.1=none/\s'=s/\∃ x' y' vs' us' as' bs',rest=List.zip vs' us'/\ReadsAll s.heap vs' x' as'/\ReadsAll s.heap us' y' bs'/\x'.all (tT n)=true/\y'.all (tT n)=true/\smA x' y'=true/\lx (flA x') (flA y')=lx (flA xs) (flA ys)/\(vs'.length+us.size=us'.length+vs.size))
    _ ?_ ?_ _ _ ⟨rfl,rfl,xs,ys,vs.toList,us.toList,_,_,rfl,hr,hr2,t1,t2,hs,rfl,by simp; omega⟩
   ·rintro ⟨p,q⟩ rest r s' ⟨hq,rfl,x',y',vs',us',as',bs',hz,ra,rb,ta,tb,hsm,hdec,hlen⟩;cases ra with
    | nil=>simp at hz
    | @cons p' vs'' d' x'' a1 as'' r1 ra' =>
     cases rb with
     | nil=>simp [smA] at hsm
     | @cons q' us'' e' y'' b1 bs'' r2 rb' =>
      simp only [List.zip_cons_cons,List.cons.injEq,Prod.mk.injEq] at hz;obtain ⟨⟨rfl,rfl⟩,rfl⟩:=hz;rw [List.all_cons,Bool.and_eq_true] at ta tb;simp only [smA,Bool.and_eq_true] at hsm;refine zA (eqT (n:=n) (by omega) ta.1 tb.1 r1 r2 (by show A.units+1+8 < cLine; omega) ?_)
      by_cases e:d'=e'
      ·subst e;rw [zW rfl];simp only [Bool.not_true,Bool.false_eq_true,if_false];refine zB ⟨rfl,rfl,x'',y'',vs'',us'',_,_,rfl,ra',rb',ta.2,tb.2,hsm.2,?_,by simp at hlen; omega⟩;rw [← hdec];simp only [flA];rw [i_p]
      ·rw [zX e];simp only [Bool.not_false,if_true];have hne:fl d'≠fl e':=λ q=>e (m_Y _ _ hsm.1 q);simp only [flA] at hdec;rw [m_Z _ _ _ _ (j_Z _ _ hsm.1) hne] at hdec;refine zA (wpAny_rule ?_);refine zA (ih (by omega) ta.1 tb.1 hsm.1 r1 r2 (by show A.units+1+8+n < cLine; omega) ?_);rw [hdec];exact zA (zB (zB (zB ⟨_,rfl,(λ e=>nomatch e),h⟩)))
   ·rintro ⟨r1,r2⟩ s' ⟨hq,rfl,x',y',vs',us',as',bs',hz,ra,rb,ta,tb,hsm,hdec,hlen⟩;simp only at hq;subst hq;cases ra with
    | cons ra1 ra2 =>
     cases rb with
     | nil=>simp [smA] at hsm
     | cons rb1 rb2=>simp at hz
    | nil =>
     cases rb with
     | cons rb1 rb2=>simp [smA] at hsm
     | nil =>
      have ez:vs.size=us.size:=by simp at hlen; omega
      have e0:lx (flA xs) (flA ys)=false:=by rw [← hdec]; simp [flA,lx]
      refine zB ⟨_,rfl,(λ e=>nomatch e),?_⟩;show Q (.bool (decide (vs.size < us.size))) s';have h':Q (.bool (lx (flA xs) (flA ys))) s':=h;rw [e0] at h';rw [ez,zX (Nat.lt_irrefl _)];exact h'
end
mutual
theorem r_G:∀ (d x y:PyData),sm d x=true->sm d y=true->sm x y=true
 | .int _,x,y,h1,h2=>by cases x <;> simp [sm] at h1; cases y <;> simp [sm] at h2; simp [sm]
 | .tuple xs,x,y,h1,h2=>by cases x <;> simp [sm] at h1; cases y <;> simp [sm] at h2; simp only [sm]; exact o_C _ _ _ h1 h2
 | .none,x,y,h1,h2=>by simp [sm] at h1
 | .bool _,x,y,h1,h2=>by simp [sm] at h1
 | .str _,x,y,h1,h2=>by simp [sm] at h1
 | .list _,x,y,h1,h2=>by simp [sm] at h1
 | .dict _,x,y,h1,h2=>by simp [sm] at h1
theorem o_C:∀ (d x y:List PyData),smA d x=true->smA d y=true->smA x y=true
 | [],x,y,h1,h2=>by cases x <;> simp [smA] at h1; cases y <;> simp [smA] at h2; simp [smA]
 | d :: ds,x,y,h1,h2=>by
  cases x <;> simp [smA] at h1;cases y <;> simp [smA] at h2;simp only [smA,Bool.and_eq_true];exact ⟨r_G _ _ _ h1.1 h2.1,o_C _ _ _ h1.2 h2.2⟩
end
theorem p_D (a:List Int):lx a a=false:=zX (List.lt_irrefl a)
theorem r_H (a b c:List Int) (h1:lx a b=true) (h2:lx b c=true):lx a c=true:=zW (List.lt_trans (zY h1) (zY h2))
theorem r_I (a b:List Int) (h1:lx a b=false) (h2:lx b a=false):a=b:=List.le_antisymm (List.not_lt.mp (of_decide_eq_false h2)) (List.not_lt.mp (of_decide_eq_false h1))
theorem v_O (a b c:List Int) (h:lx a c=true):lx a b=true\/lx b c=true:=by
 cases h1:lx a b with
 | true=>exact .inl rfl
 | false =>
  refine .inr ?_;cases h2:lx b c with
  | true=>rfl
  | false =>
   have e1:b<=a:=List.not_lt.mp (of_decide_eq_false h1);have e2:c<=b:=List.not_lt.mp (of_decide_eq_false h2);exact yJ (zY h) (List.not_lt.mpr (List.le_trans e2 e1))
open Classical in
noncomputable def keyT (h:Heap) (d0:PyData) (v:Value):Option (List Int):=if q:∃ d,tT 4 d=true/\sm d0 d=true/\∃ as,Reads h v d as then some (fl q.choose) else none
theorem o_D {h:Heap} {d0 d:PyData} {v:Value} {as:List Addr} (t:tT 4 d=true) (z:sm d0 d=true) (r:Reads h v d as):keyT h d0 v=some (fl d):=by
 have q:∃ d,tT 4 d=true/\sm d0 d=true/\∃ as,Reads h v d as:=⟨d,t,z,as,r⟩;unfold keyT;rw [dif_pos q];obtain ⟨t',z',as',r'⟩:=q.choose_spec;rw [PySem.SeqAt.Reads.unique _ _ _ _ _ (e_q 4 _ (e_h 4 _ t')).1 r' r]
theorem l_D {h:Heap} {d0:PyData} {v:Value} {a:List Int} (e:keyT h d0 v=some a):∃ d as,tT 4 d=true/\sm d0 d=true/\Reads h v d as/\a=fl d:=by
 unfold keyT at e
 by_cases q:∃ d,tT 4 d=true/\sm d0 d=true/\∃ as,Reads h v d as
 ·rw [dif_pos q] at e;obtain ⟨t',z',as',r'⟩:=q.choose_spec;exact ⟨_,as',t',z',r',by cases e; rfl⟩
 ·rw [dif_neg q] at e;cases e
noncomputable def j_p (h:Heap) (d0:PyData):PyProof.Rows.KeyKind where
 α:=List Int
 blt:=lx
 irrefl:=p_D
 trans:=r_H
 negTrans:=v_O
 total:=r_I
 keyOf:=keyT h d0
 dflt:=[]
section
variable {prog:Program} {w:World} {A:Around} {s:Shared}
theorem katT (hu:A.units+16 < cLine) {Q:Bool->Shared->Prop}:∀ (x' y':List PyData) (vs' us':List Value) (as' bs':List Addr) (i:Nat),ReadsAll s.heap vs' x' as'->ReadsAll s.heap us' y' bs'->x'.all (tT 3)=true->y'.all (tT 3)=true->smA x' y'=true->Q (lx (flA x') (flA y')) s->PySem.W.KatLex prog w A false false Q (vs'.zip us') i s
 | [],y',vs',us',as',bs',i,ra,rb,_,_,hs,h=>by
  cases ra;cases y' with
  | cons _ _=>simp [smA] at hs
  | nil =>
   cases rb;refine PySem.W.kat_nil ?_;simpa [flA,lx] using h
 | d :: x',y',vs',us',as',bs',i,ra,rb,ta,tb,hs,h=>by
  cases y' with
  | nil=>simp [smA] at hs
  | cons e y' =>
   cases ra with
   | cons r1 ra' =>
    cases rb with
    | cons r2 rb' =>
     rw [List.all_cons,Bool.and_eq_true] at ta tb;simp only [smA,Bool.and_eq_true] at hs;rw [List.zip_cons_cons];refine PySem.W.kat_cons (eqT (n:=3) (by omega) ta.1 tb.1 r1 r2 (by omega) ?_);simp only [flA] at h
     by_cases z:d=e
     ·subst z;rw [zW rfl];rw [i_p] at h;exact PySem.W.kat_yes (katT hu x' y' _ _ _ _ (i+1) ra' rb' ta.2 tb.2 hs.2 h)
     ·rw [zX z];rw [m_Z _ _ _ _ (j_Z _ _ hs.1) λ q=>z (m_Y _ _ hs.1 q)] at h;refine PySem.W.kat_no ?_;show wpAny (model prog w) A (oneLt' false _ _) Q _ s;exact PySem.W.kat_one _ _ (ltT 3 (by omega) ta.1 tb.1 hs.1 r1 r2 (by omega) h)
theorem cmpT (hu:A.units+16 < cLine) {d0:PyData} (hd:∃ l,d0=.tuple l):Cmp prog w A s (j_p s.heap d0) (tuples' false):=by
 intro E x y a b Q hx hy h;obtain ⟨l,rfl⟩:=hd;obtain ⟨d,as,t1,z1,r1,rfl⟩:=l_D hx;obtain ⟨e,bs,t2,z2,r2,rfl⟩:=l_D hy;have z:=r_G _ _ _ z1 z2;cases r1 <;> simp only [sm,Bool.false_eq_true] at z1
 case tuple a o vs m xs hg hc hd hr =>
  cases r2 <;> simp only [sm,Bool.false_eq_true] at z2;rename_i b o2 us m2 ys hg2 hc2 hd2 hr2;simp only [tT] at t1 t2;simp only [sm] at z;have hl:vs.size=us.size:=by
   have e1:∀ {h:Heap} {vs:List Value} {xs:List PyData} {as:List Addr},ReadsAll h vs xs as->vs.length=xs.length:=by
    intro h vs xs as r
    induction xs generalizing vs as with
    | nil=>cases r; rfl
    | cons x xs ih=>cases r with | cons r1 r2=>simp [ih r2]
   have e2:∀ {xs ys:List PyData},smA xs ys=true->xs.length=ys.length:=by
    intro xs
    induction xs with
    | nil=>intro ys h; cases ys <;> simp [smA] at h; rfl
    | cons x xs ih=>intro ys h; cases ys <;> simp [smA] at h; simp [ih h.2]
   have:=e1 hr;have:=e1 hr2;have:=e2 z;simp only [Array.length_toList] at *
   omega
  refine PySem.W.kat_lt hg hd hg2 hd2 ?_;rw [zX (by omega)];exact katT hu xs ys _ _ _ _ 0 hr hr2 t1 t2 z h
end
theorem n_A {h h':Heap} (hk:∀ b o,h.get? b=some o->o.cls=.type "tuple" -> h'.get? b=some o):∀ (n:Nat) {v:Value} {d:PyData} {as:List Addr},tT n d=true->Reads h v d as->Reads h' v d as:=by
 intro n
 induction n with
 | zero =>
  intro v d as ht r;cases r <;> simp [tT] at ht;exact .int _ _
 | succ n ih =>
  have all:∀ (xs:List PyData) (vs:List Value) (as:List Addr),xs.all (tT n)=true->ReadsAll h vs xs as->ReadsAll h' vs xs as:=by
   intro xs
   induction xs with
   | nil=>intro vs as _ r; cases r; exact .nil
   | cons d ds ihr =>
    intro vs as ht r;cases r with
    | cons r1 r2 =>
     rw [List.all_cons,Bool.and_eq_true] at ht;exact .cons (ih ht.1 r1) (ihr _ _ ht.2 r2)
  intro v d as ht r;cases r <;> simp only [tT,Bool.false_eq_true] at ht
  case int=>exact .int _ _
  case tuple a o vs k xs hg hc hdd hr=>exact .tuple (hk _ _ hg hc) hc hdd (all _ _ _ ht hr)
theorem Paired.perm {α β:Type} {F:α->β->Prop} {ys ys':List β} (p:ys.Perm ys'):∀ {xs:List α},Paired F xs ys->∃ xs',xs'.Perm xs/\Paired F xs' ys':=by
 induction p with
 | nil=>intro xs h; exact ⟨xs,List.Perm.refl _,h⟩
 | cons x p ih =>
  intro xs h;cases h with
  | @cons a b l1 l2 h1 h2 =>
   obtain ⟨xs',p',h'⟩:=ih h2;exact ⟨a :: xs',p'.cons _,.cons h1 h'⟩
 | swap x y l =>
  intro xs h;cases h with
  | @cons a b l1 l2 h1 h2 =>
   cases h2 with
   | @cons a' b' l1' l2' h1' h2'=>exact ⟨a' :: a :: l1',List.Perm.swap ..,.cons h1' (.cons h1 h2')⟩
 | trans p1 p2 ih1 ih2 =>
  intro xs h;obtain ⟨xs1,q1,h1⟩:=ih1 h;obtain ⟨xs2,q2,h2⟩:=ih2 h1;exact ⟨xs2,q2.trans q1,h2⟩
theorem Paired.mem {α β:Type} {F:α->β->Prop} {xs:List α} {ys:List β} (h:Paired F xs ys):∀ x∈xs,∃ y∈ys,F x y:=by
 induction h with
 | nil=>intro x hx; cases hx
 | cons h1 h2 ih =>
  intro x hx;rcases List.mem_cons.mp hx with e | hx
  ·subst e; exact ⟨_,.head _,h1⟩
  ·obtain ⟨y,hy,q⟩:=ih x hx; exact ⟨y,.tail _ hy,q⟩
theorem ord_of {κ:PyProof.Rows.KeyKind} {α:Type} {F:α->Value->Prop} {k:α->κ.α} (hF:∀ p v,F p v->κ.keyOf v=some (k p)):∀ (L:List Keyed) (ps:List α),(∀ e∈L,e.1=e.2)->L.Pairwise (le' κ)->Paired F ps (L.map (·.2))->ps.Pairwise λ p q=>κ.blt (k q) (k p)=false
 | [],ps,_,_,h=>by cases h; exact .nil
 | e :: L,ps,he,hs,h=>by
  cases h with
  | @cons p b l1 l2 h1 h2 =>
   rw [List.pairwise_cons] at hs;refine .cons (λ q hq=>?_) (ord_of hF L l1 (λ x hx=>he x (.tail _ hx)) hs.2 h2);obtain ⟨v,hv,fv⟩:=Paired.mem h2 q hq;obtain ⟨y,hy,rfl⟩:=List.mem_map.mp hv;have l:=hs.1 y hy;have k1:ky κ e=k p:=by unfold ky; rw [he e (.head _),hF _ _ h1]; rfl
   have k2:ky κ y=k q:=by unfold ky; rw [he y (.tail _ hy),hF _ _ fv]; rfl
   have l':κ.blt (ky κ y) (ky κ e)=false:=l;rw [k1,k2] at l';exact l'
structure TV (K:Frag) (H:Hp) (d0:PyData) (p:V × PyData) (v:Value):Prop where
 r:RelV p.1 v
 t:tT 4 p.2=true
 z:sm d0 p.2=true
 d:Dt K H p.1 p.2
theorem TV.vals {K:Frag} {H:Hp} {d0:PyData} {ps:List (V × PyData)} {vs:List Value} (h:Paired (TV K H d0) ps vs):Vals (ps.map (·.1)) vs:=by
 induction h with
 | nil=>exact .nil
 | cons h1 _ ih=>exact .cons h1.r ih
theorem j_q {K:Frag} {H:Hp} {d0:PyData}:∀ {ps:List (V × PyData)} {vs:List Value},Vals (ps.map (·.1)) vs->(∀ p∈ps,tT 4 p.2=true/\sm d0 p.2=true/\Dt K H p.1 p.2)->Paired (TV K H d0) ps vs
 | [],vs,h,_=>by cases h; exact .nil
 | p :: ps,vs,h,q=>by
  cases h with
  | cons h1 h2=>exact .cons ⟨h1,(q p (.head _)).1,(q p (.head _)).2.1,(q p (.head _)).2.2⟩ (j_q h2 λ x hx=>q x (.tail _ hx))
theorem i_q:∀ {vs:List Value} {e:Keyed},e∈vs.zip vs->e.1=e.2
 | [],e,h=>by cases h
 | v :: vs,e,h=>by
  rw [List.zip_cons_cons] at h;rcases List.mem_cons.mp h with h | h
  ·rw [h]
  ·exact i_q h
theorem a_Q {α β:Type} {F:α->β->Prop} {xs:List α} {ys:List β} (h:Paired F xs ys):xs.length=ys.length:=by
 induction h with
 | nil=>rfl
 | cons _ _ ih=>simp [ih]
theorem g_f {α β:Type} {F:α->β->Prop} {xs:List α} {ys:List β} (h:Paired F xs ys):∀ y∈ys,∃ x∈xs,F x y:=by
 induction h with
 | nil=>intro x hx; cases hx
 | cons h1 h2 ih =>
  intro x hx;rcases List.mem_cons.mp hx with e | hx
  ·subst e; exact ⟨_,.head _,h1⟩
  ·obtain ⟨y,hy,q⟩:=ih x hx; exact ⟨y,.tail _ hy,q⟩
theorem r_J {l:List Keyed} {n:Nat} (h:l.length=n):seg l 0 n=l:=by
 unfold seg;rw [List.drop_zero,Nat.sub_zero,List.take_of_length_le (by omega)]
section
variable {X:Cx} {pins:List (Addr × Obj)} {σ:St} {H:Hp} {s:Shared} {a:Addr} {A:Around} {E:Value->Shared->Prop} {vs:List Value} {ps:List (V × PyData)} {n0:Nat} {R:Value->Shared->Prop} {d0:PyData} {l0 l1:List PyData}
theorem n_B (hS:j_o X.prog X.w vs.length) (hu:A.units+16 < cLine) (I:Inv X pins σ H s) (fa:FpOk X pins H a) (ho:s.heap.get? a=some (seqObj "list" vs.toArray n0)) (hz:vs.length<=sizeLine) (e0:d0=.tuple (.tuple l1 :: l0)) (hp:Paired (TV X.K H d0) ps vs)
  (h:∀ (ps':List (V × PyData)) H' s',Inv X pins σ H' s'->Same H H'->H' a=some (.lst (ps'.map (·.1)))->ps'.Perm ps->ps'.Pairwise (λ p q=>lx (fl q.2) (fl p.2)=false)->R .none s') :
  wpAny (model X.prog X.w) A (Builtin.«list.sort» ⟨[.ref a],[]⟩) (λ fin s'=>∃ v,fin=.done (.ret v)/\R v s') E s:=by
 obtain ⟨f0,f1,f2,f3,f4,f5⟩:=fa;rw [list_sort_plain];have ha:a < s.heap.objs.size:=zE ho;refine zA (listItems_at ho rfl ?_);refine zA (listUpdate_at ho rfl ?_ (by rw [zJ]; exact hz) (Nat.zero_le _));obtain ⟨e1,ho1⟩:∃ e1,(s.heap.update a (Obj.mapSeq λ _=>(#[]:Array Value))).get? a=some (seqObj "list" #[] e1):=⟨_,get?_update_seq ho (λ _=>#[])⟩;have s1:=Heap.SameBut.update s.heap a (Obj.mapSeq λ _=>(#[]:Array Value));have I1:Inv X pins σ H { s with heap:=s.heap.update a (Obj.mapSeq λ _=>(#[]:Array Value)),toks:=s.toks }:=I.turned (λ b o hb q=>(s1.2 b hb).trans q) f0 f1 f3 f4 f5;refine zA (seqEpoch_at ho1 rfl ?_);refine zA (wpAny_newTuple ?_ hz);refine zA (wpAny_newList ?_ (Nat.zero_le _));refine wpAny_holding ?_;have ho6:(((s.heap.update a (Obj.mapSeq λ _=>(#[]:Array Value))).push (seqObj "tuple" vs.toArray 0)).push (seqObj "list" #[] 0)).get? a=some (seqObj "list" #[] e1):=zD _ (zD _ ho1);have I6:Inv X pins σ H { s with heap:=((s.heap.update a (Obj.mapSeq λ _=>(#[]:Array Value))).push (seqObj "tuple" vs.toArray 0)).push (seqObj "list" #[] 0),toks:=s.toks }:=I1.kept λ b o q=>zD _ (zD _ q);show wpAny (model X.prog X.w) A _ _ E { s with heap:=((s.heap.update a (Obj.mapSeq λ _=>(#[]:Array Value))).push (seqObj "tuple" vs.toArray 0)).push (seqObj "list" #[] 0),toks:=s.toks };generalize ((s.heap.update a (Obj.mapSeq λ _=>(#[]:Array Value))).push (seqObj "tuple" vs.toArray 0)).push (seqObj "list" #[] 0)=h6 at *
 dsimp only;have fin:∀ st':SortSt,(arrOf st').Perm (pairsOf vs)->Srt (j_p h6 d0) (arrOf st').toList->R .none { s with heap:=h6.update a (Obj.mapSeq λ _=>(arrOf st').map (·.2)) }:=by
  intro st' pm so;have pl:(arrOf st').toList.Perm (vs.zip vs):=by rw [← pairsOf_toList]; exact Array.perm_iff_toList_perm.mp pm
  have he:∀ e∈(arrOf st').toList,e.1=e.2:=λ e he=>i_q (pl.mem_iff.mp he);have po:vs.Perm ((arrOf st').toList.map (·.2)):=by
   have:=(pl.map (·.2)).symm;rw [List.map_snd_zip (zL _)] at this;exact this
  obtain ⟨ps',pp,hp'⟩:=Paired.perm po hp;have hF:∀ p v,TV X.K H d0 p v->(j_p h6 d0).keyOf v=some (fl p.2):=λ p v tv=>by
   obtain ⟨as,r⟩:=tv.d.reads I6 tv.r;exact o_D tv.t tv.z r
  have ord:=ord_of (κ:=j_p h6 d0) (k:=λ p:V × PyData=>fl p.2) hF _ ps' he so hp';have lenO:((arrOf st').map (·.2)).toList=(arrOf st').toList.map (·.2):=Array.toList_map ..;generalize (arrOf st').map (·.2)=out at *
  have sb2:=Heap.SameBut.update h6 a (Obj.mapSeq λ _=>out);obtain ⟨c2,hc2⟩:∃ c2,(h6.update a (Obj.mapSeq λ _=>out)).get? a=some (seqObj "list" (out) c2):=⟨_,get?_update_seq ho6 λ _=>out⟩;generalize h6.update a (Obj.mapSeq λ _=>out)=h7 at *
  refine h ps' (upd H a (.lst (ps'.map (·.1)))) _ ?_ ?_ a_F pp ord
  ·have nit:∀ b u,H b=some u->b≠a:=λ b u e z=>by rw [z,f0] at e; cases e
   refine Inv.step (s:={ s with heap:=h6,toks:=s.toks }) (h':=h7) (H':=upd H a (.lst (ps'.map (·.1)))) (I:=I6) (g':=s.gens) (d':=s.drawn) (t':=s.toks) (ch:=[a]) (λ b hb=>?_) (λ b o _ _ hc e _=>(sb2.2 b (λ z=>hc (by simp [z]))).trans e) (λ b o _ _ hc e _=>⟨o.slots,(sb2.2 b (λ z=>hc (by simp [z]))).trans e⟩)
    (λ b o hc e q=>by rw [a_I (λ z=>hc (by simp [z]))]; exact q) (λ b o hc e=>⟨o,(sb2.2 b (λ z=>hc (by simp [z]))).trans e⟩) (λ b xs e=>by rw [a_I (nit _ _ e)]; exact e) (λ b o u e=>by rw [a_I (nit _ _ e)]; exact e)
    (λ b ps e=>⟨#[],by rw [a_I (nit _ _ e),e]; simp⟩) (λ m hm=>?_) (λ b u e=>?_) I6.bare
   ·have e:b=a:=by simpa using hb
    subst e;exact ⟨f3,f1,f4,f5⟩
   ·obtain ⟨o,es,ep,ho,r⟩:=hm;exact ⟨o,es,ep,(sb2.2 _ (Ne.symm f1)).trans ho,r⟩
   ·by_cases hb:b=a
    ·subst hb;rw [a_F] at e;cases e;refine ⟨?_,(arrOf st').toList.map (·.2),c2,TV.vals hp',by rw [hc2,← lenO]⟩;rw [yI,pp.length_eq,a_Q hp];exact hz
    ·rw [a_I hb] at e;refine (I6.hok b u e).stay (λ c v hc q=>(sb2.2 c ?_).trans q) (λ c q=>by rw [a_I (nit _ _ q)]; exact q) λ c xs q=>by rw [a_I (nit _ _ q)]; exact q
     rcases hc with z | z
     ·rw [z]; exact hb
     ·exact nit c _ z
  ·intro b u q;rw [a_I (λ z=>by rw [z,f0] at q; cases q)];exact q
 have hsz:vs.toArray.size=vs.length:=by simp
 by_cases h2:vs.toArray.size < 2
 ·rw [if_pos h2,if_pos h2];refine zA (zB ?_);rw [StateT.run_pure];refine zA (zB ?_);dsimp only;refine zA (seqEpoch_at ho6 rfl ?_);refine zA (listUpdate_at ho6 rfl ?_ (Nat.zero_le _) (by rw [Array.size_map]; show (pairsOf vs).size<=_; rw [pairsOf_size]; omega));simp only [bne_self_eq_false,Bool.false_eq_true,if_false];refine zB ⟨_,rfl,fin (SortSt.mk' general' (vs.toArray.zip vs.toArray) #[] 7 none) (Array.Perm.refl _) ?_⟩;show Srt _ (pairsOf vs).toList;rw [pairsOf_toList]
  match vs,hsz,h2 with
  | [],_,_=>exact .nil
  | [_],_,_=>exact .cons (λ _ h=>nomatch h) .nil
  | _ :: _ :: _,_,h2=>simp at h2; omega
 ·rw [if_neg h2,if_neg h2];have kp:∀ {ps:List (V × PyData)} {vs:List Value},Paired (TV X.K H d0) ps vs->∃ fs,PySem.W.KatTups h6 vs fs/\fs.length=vs.length/\∀ v∈fs,∃ b o,v=.ref b/\h6.get? b=some o/\o.cls=.type "tuple" := by
   intro ps vs hp
   induction hp with
   | nil=>exact ⟨[],PySem.W.KatTups.nil,rfl,λ _ h=>nomatch h⟩
   | @cons p v ps vs tv _ ih =>
    obtain ⟨fs,k,l,t⟩:=ih;obtain ⟨as,r⟩:=tv.d.reads I6 tv.r;have z:=tv.z;rw [e0] at z;generalize p.2=dd at *
    cases r <;> simp only [sm,Bool.false_eq_true] at z
    case tuple b o us m xs hg hc hd hr =>
     cases xs with
     | nil=>simp [smA] at z
     | cons x xs =>
      simp only [smA,Bool.and_eq_true] at z;cases hr0:us.toList with
      | nil=>rw [hr0] at hr; cases hr
      | cons u ur =>
       rw [hr0] at hr;cases hr with
       | cons r1 r2 =>
        have z1:=z.1;cases r1 <;> simp only [sm,Bool.false_eq_true] at z1
        case tuple b2 o2 us2 m2 xs2 hg2 hc2 hd2 hr2 =>
         refine ⟨.ref b2 :: fs,PySem.W.KatTups.cons hg hc hd ?_ k,by simp [l],λ v hv=>?_⟩
         ·rw [← Array.getElem?_toList,hr0]; rfl
         ·rcases List.mem_cons.mp hv with e | hv
          ·exact ⟨b2,o2,e,hg2,hc2⟩
          ·exact t v hv
  obtain ⟨fs,kt,kl,kc⟩:=kp hp;refine zA (PySem.W.kat_kind (s:={ s with heap:=h6,toks:=s.toks }) (T:=.type "tuple") kt (by omega) (λ v hv=>?_) rfl ?_)
  ·obtain ⟨b,o,rfl,hb,hc⟩:=kc v hv;exact λ A Q E s k q=>wpAny_typeOf (T := "tuple") ⟨o,k _ _ hb,hc⟩ q
  have kf:(Value.type "tuple" != Value.type "tuple")=false:=by decide
  rw [kf];refine zA (zC (hS (κ:=j_p h6 d0) (kd:=tuples' false) (a₀:=pairsOf vs) (st:=SortSt.mk' (tuples' false) (vs.toArray.zip vs.toArray) #[] 7 none)
   (Q:=λ _ st'=>(arrOf st').Perm (pairsOf vs)/\failedOf st'=none/\Up (j_p h6 d0) (arrOf st') 0 (pairsOf vs).size) (pairsOf_size _) (by omega) (cmpT (s:={ s with heap:=h6,toks:=s.toks }) hu ⟨_,e0⟩) (λ x hx=>?_) rfl rfl rfl rfl λ st' _ a2 a3 a4=>⟨a3,a2,a4⟩) ?_ λ _ _ e=>e)
  ·rw [pairsOf_toList] at hx;have e:=i_q hx;have hm:x.2∈vs:=(List.of_mem_zip (a:=x.1) (b:=x.2) hx).2;obtain ⟨p,_,tv⟩:=g_f hp x.2 hm;obtain ⟨as,r⟩:=tv.d.reads I6 tv.r;exact ⟨fl p.2,by rw [e]; exact o_D tv.t tv.z r⟩
  rintro ⟨⟨⟩,st'⟩ s' ⟨rfl,pm,hf,up⟩;dsimp only;refine zA (seqEpoch_at ho6 rfl ?_);refine zA (listUpdate_at ho6 rfl ?_ (Nat.zero_le _) (by refine zS (Nat.le_of_eq ((Array.size_map ..).trans (pm.size_eq.trans (pairsOf_size _)))) ?_; omega));rw [hf];simp only [bne_self_eq_false,Bool.false_eq_true,if_false];refine zB ⟨_,rfl,fin st' pm ?_⟩;have:=p_C up
  rwa [r_J (by rw [Array.length_toList]; exact pm.size_eq)] at this
end
noncomputable abbrev Asc (ps:List (V × PyData)):Prop:=ps.Pairwise λ p q=>lx (fl q.2) (fl p.2)=false
noncomputable def v_P (K:Frag) (N:Nat):List V->Hp->VK->Prop:=λ xs H Q=>∃ (p:Addr) (ps:List (V × PyData)) (l0 l1:List PyData),xs=[.ref p]/\ps.length<=N/\SqL K H p (ps.map (·.1))/\(∀ q∈ps,tT 4 q.2=true/\sm (.tuple (.tuple l1 :: l0)) q.2=true/\Dt K H q.1 q.2) /\
 ∀ q (ps':List (V × PyData)) H',Same H H'->H q=none->H' q=some (.lst (ps'.map (·.1)))->ps'.Perm ps->Asc ps'->Q (.ref q) H'
section
variable {X:Cx} {pins:List (Addr × Obj)} {σ:St} {H:Hp} {s:Shared} {d0:PyData} {l0 l1:List PyData}
theorem j_r {N:Nat} (hS:∀ n,n<=N->j_o X.prog X.w n) (hu:X.A.units+64 < cLine) {ps:List (V × PyData)} {its:List Value} {v:Value} {Q:VK} (hz:its.length<=sizeLine) (hN:its.length<=N) (e0:d0=.tuple (.tuple l1 :: l0)) (hp:Paired (TV X.K H d0) ps its)
  (hcol:∀ (Qc:List Value->Shared->Prop) (Ec:Value->Shared->Prop),(∀ s',Inv X pins σ H s'->Qc its s')->wpAny (model X.prog X.w) X.A.in1 (collect v) Qc Ec s)
  (h:∀ q (ps':List (V × PyData)) H',Same H H'->H q=none->H' q=some (.lst (ps'.map (·.1)))->ps'.Perm ps->Asc ps'->Q (.ref q) H') :
  wpAny (model X.prog X.w) X.A (call (.builtin "sorted") [v]) (EP X pins σ Q) X.xe s:=by
 refine Calls.call_function_entry kind_sorted plain_sorted entry_sorted (args_sorted1 _) ?_;unfold Builtin.«sorted»;refine zA (m:=checkCount "sorted" 1 1 _) (zB ?_);refine zA (hcol _ _ λ s' I=>?_);refine zA (wpAny_newList ?_ hz);have hoL:(s'.heap.push (seqObj "list" its.toArray 0)).get? s'.heap.objs.size=some (seqObj "list" its.toArray 0):=zF _ rfl;have hfa:H s'.heap.objs.size=none:=I.hok.fresh (zL _);have fp:=I.fpOk (zL _) hfa;have I2:Inv X pins σ H { s' with heap:=s'.heap.push (seqObj "list" its.toArray 0),toks:=s'.toks }:=I.kept λ b o q=>zD _ q;refine zA (wpAny_holding (wpAny_call_entry slot_list_sort ⟨_,hoL,rfl⟩ entry_list_sort ?body (args_list_sort _)));show wpAny (model X.prog X.w) X.A.in1.in1 (Builtin.«list.sort» ⟨[.ref s'.heap.objs.size],[]⟩) _ _ { s' with heap:=s'.heap.push (seqObj "list" its.toArray 0),toks:=s'.toks };refine n_B (hS _ hN) (A:=X.A.in1.in1) (by show X.A.units+1+1+16 < cLine; omega) I2 fp hoL hz e0 hp λ ps' H' s2 J sm e p o=>?_;exact zB ⟨_,rfl,.ref s'.heap.objs.size,H',J,rfl,h _ ps' H' sm hfa e p o⟩
theorem n_C {N:Nat} (hS:∀ n,n<=N->j_o X.prog X.w n) (hu:X.A.units+64 < cLine):c_O X (.builtin "sorted") (v_P X.K N):=by
 intro pins s σ H xs us Q I r h;obtain ⟨p,ps,l0,l1,rfl,hN,hq,ht,q⟩:=h;obtain ⟨u,rfl,rx⟩:=e_T r;cases rx;obtain ⟨its,rv,pl,hz⟩:=I.list hq;obtain ⟨o,n0,e,c,_,dd⟩:=id pl;have hL:s.heap.IsList p its.toArray:=⟨o,e,c,n0,dd⟩;have hp:=j_q (d0:=.tuple (.tuple l1 :: l0)) rv ht;have hz':its.length<=sizeLine:=by rw [← a_Q hp]; simpa using hz
 refine j_r hS hu hz' (by rw [← a_Q hp]; exact hN) rfl hp (λ Qc Ec hk=>collect_list hL (hk _ ?_) hz') q;refine I.kept (h':=(s.heap.push (seqObj "list" #[] 0)).update s.heap.objs.size (Obj.mapSeq (·++its.toArray))) (t':=s.toks) λ b o q=>?_;have hlt:b < s.heap.objs.size:=zE q;rw [Heap.get?_update_ne _ _ _ _ (Nat.ne_of_lt hlt),Heap.get?_push_ne _ _ _ (Nat.ne_of_lt hlt)];exact q
end
noncomputable def RawD (h:Heap) (d:Addr) (es:Array DictEntry) (ep:Nat):Prop:=∃ o,h.get? d=some o/\o.ExactDict/\o.data=.dict es ep
theorem RawD.at {h h':Heap} {d:Addr} {es:Array DictEntry} {ep:Nat} (x:RawD h d es ep) (e:∀ o,h.get? d=some o->h'.get? d=some o):RawD h' d es ep:=let ⟨o,ho,r⟩:=x; ⟨o,e _ ho,r⟩
section
variable {prog:Program} {w:World} {A:Around} {E:Value->Shared->Prop} {s:Shared} {d it:Addr} {es:Array DictEntry} {ep i:Nat}
theorem RawD.typeIs (x:RawD s.heap d es ep):s.TypeIs (.ref d) "dict" := let ⟨o,ho,hc,_⟩:=x; ⟨o,ho,hc.1⟩
theorem r_K {Q:Value->Shared->Prop} (hd:(d == sysModules)=false) (hm:RawD s.heap d es ep)
  (hQ:Q (.ref s.heap.objs.size) { s with heap:=s.heap.push { cls:=.type "dict_keyiterator",data:=.fields #[.ref d,.int 0 0,.int es.size 0,.int ep 0] } }):wpAny (model prog w) A (pyIter (.ref d)) Q E s:=by
 obtain ⟨o,ho,hc,hdat⟩:=id hm;have hT:=hm.typeIs;refine wpAny_pyIter_slot hT PySem.F.slot_dict_iter (wpAny_call_entry PySem.F.slot_dict_iter hT PySem.F.entry_dict_iter ?_ (PySem.F.args_dict_iter_1 _));unfold Builtin.«dict.__iter__»;refine zA ?_;unfold Builtin.Dict.dictSlotNone;refine zA (wpAny_notOrdered_dict hT ?_);show wpAny _ _ (pure (Value.ref d)) _ _ s;refine zB ?_;show wpAny _ _ (Builtin.Dict.showsAll d >>= _) _ _ s;unfold Builtin.Dict.showsAll;rw [if_neg (by rw [hd]; exact zV)];refine zA (zB ?_);refine zA (wpAny_dictEntries ho hdat ?_);refine zA (wpAny_dictEpoch ho hdat ?_);exact zA (wpAny_newObj_type (zB ⟨_,rfl,"dict_keyiterator",_,⟨_,zF _ rfl,rfl⟩,PySem.F.slot_dict_keyiterator_next.lookup,hQ⟩))
theorem r_L {Q:Option Value->Shared->Prop} (hit:s.heap.IsKeyIter it d i es.size ep) (hm:RawD s.heap d es ep) (hi:i < es.size)
  (hQ:∀ h',h'.IsKeyIter it d (i+1) es.size ep->Heap.SameBut it s.heap h'->Q (some es[i].key) { s with heap:=h' }):wpAny (model prog w) A (pyNext (.ref it)) Q E s:=by
 obtain ⟨o,ho,hc,hd⟩:=id hit;obtain ⟨od,hod,hcd,hdd⟩:=id hm;unfold pyNext;refine zA (wpAny_attempt (wpAny_callSpecial?_slot (name:=Str.ofString "__next__") hit.typeIs PySem.F.slot_dict_keyiterator_next
  (wpAny_call_entry PySem.F.slot_dict_keyiterator_next hit.typeIs PySem.F.entry_dict_keyiterator_next ?_ (PySem.F.args_dict_keyiterator_next_1 _))))
 refine zA (zB ?_);refine zA ?_;refine zA ?_
 first | refine zA (wpAny_typeNameOfWhole_keyiter hit.typeIs (zB ?_)) | refine zA (wpAny_typeNameOf_keyiter hit.typeIs (zB ?_))
 refine zA (wpAny_fieldsOf ho hd ?_);have hown:Builtin.Dict_items.ownsTuple "dict_keyiterator" = false:=by decide
 simp only [hown,Bool.false_eq_true,if_false];show wpAny _ _ (if (Value.ref d == Value.none)=true then _ else _) _ _ s;rw [if_neg (show ¬ ((Value.ref d == Value.none)=true) from zV)];refine zA (zB ?_);refine zA (wpAny_dictEntries hod hdd ?_);rw [if_neg (by simp)];refine zA (zB ?_);refine zA (wpAny_dictEpoch hod hdd ?_);rw [if_neg (by simp)];refine zB ?_;simp only [show ¬ ((i:Int) < 0) from by omega,if_false,zR,Array.getElem?_eq_getElem hi];refine zA ?_
 first | refine zA (wpAny_typeNameOfWhole_keyiter hit.typeIs (zB ?_)) | refine zA (wpAny_typeNameOf_keyiter hit.typeIs (zB ?_))
 refine zA (wpAny_isOneOf_keyiter hit.typeIs ?_);show wpAny _ _ (setField (.ref it) 1 (rawInt ((i:Int)+1)) >>= _) _ _ s;refine zA (wpAny_setField ho hd (by simp) ?_);have hit':(s.heap.update it (Obj.mapFields (·.setIfInBounds 1 (rawInt ((i:Int)+1))))).IsKeyIter it d (i+1) es.size ep :=
  ⟨_,Heap.get?_update_self _ ho (Obj.isFreed_of_fields (Obj.data_mapFields hd _)),(Obj.cls_mapFields ..).trans hc,by rw [Obj.data_mapFields hd]; simp [rawInt]⟩
 refine zA (wpAny_holding ?_);refine zA (wpAny_isOneOf_keyiter (s:={ s with heap:=s.heap.update it (Obj.mapFields (·.setIfInBounds 1 (rawInt ((i:Int)+1)))) }) hit'.typeIs ?_);show wpAny _ _ (pure es[i].key) _ _ _;exact zB (zB ⟨_,rfl,zB (hQ _ hit' (Heap.SameBut.update ..))⟩)
theorem u_i {Q:Option Value->Shared->Prop} (hh:A.handled=none) (hit:s.heap.IsKeyIter it d es.size es.size ep) (hm:RawD s.heap d es ep)
  (hQ:∀ h',Heap.ExtBut it s.heap h'->Q none { s with heap:=h' }):wpAny (model prog w) A (pyNext (.ref it)) Q E s:=by
 obtain ⟨o,ho,hc,hd⟩:=id hit;obtain ⟨od,hod,hcd,hdd⟩:=id hm;unfold pyNext;refine zA (wpAny_attempt (wpAny_callSpecial?_slot (name:=Str.ofString "__next__") hit.typeIs PySem.F.slot_dict_keyiterator_next
  (wpAny_call_entry PySem.F.slot_dict_keyiterator_next hit.typeIs PySem.F.entry_dict_keyiterator_next ?_ (PySem.F.args_dict_keyiterator_next_1 _))))
 refine zA (zB ?_);refine zA ?_;refine zA ?_
 first | refine zA (wpAny_typeNameOfWhole_keyiter hit.typeIs (zB ?_)) | refine zA (wpAny_typeNameOf_keyiter hit.typeIs (zB ?_))
 refine zA (wpAny_fieldsOf ho hd ?_);have hown:Builtin.Dict_items.ownsTuple "dict_keyiterator" = false:=by decide
 simp only [hown,Bool.false_eq_true,if_false];show wpAny _ _ (if (Value.ref d == Value.none)=true then _ else _) _ _ s;rw [if_neg (show ¬ ((Value.ref d == Value.none)=true) from zV)];refine zA (zB ?_);refine zA (wpAny_dictEntries hod hdd ?_);rw [if_neg (by simp)];refine zA (zB ?_);refine zA (wpAny_dictEpoch hod hdd ?_);rw [if_neg (by simp)];refine zB ?_;simp only [show ¬ ((es.size:Int) < 0) from by omega,if_false,zR,Array.getElem?_eq_none (zL _)];refine zA ?_
 first | refine zA (wpAny_typeNameOfWhole_keyiter hit.typeIs (zB ?_)) | refine zA (wpAny_typeNameOf_keyiter hit.typeIs (zB ?_))
 show wpAny _ _ (setField (.ref it) 0 .none >>= _) _ _ s;refine zA (wpAny_setField ho hd (by simp) ?_);show wpAny _ _ (newExc (.type "StopIteration") [] >>= _) _ _ _;refine zA ?_;simp only [newExc,newTuple];refine zA (wpAny_newObj_type ?_ (by size_fits));refine zA (m:=firstArgMember _ _) (wpAny_of_eq (a:=Value.none) (by first | rfl | (simp only [firstArgMember]; rfl)) ?_);refine wpAny_newObj_type ?_ (by size_fits);simp only [raiseNew];refine zA (wpAny_handled ?_);rw [show A.in1.handled=none from hh];refine zA (zB (wpAny_throw ?_));refine zA (wpAny_isInstance (T := "StopIteration") (b:=true) ⟨_,zF _ rfl,rfl⟩ isSubtype_stop ?_);exact zB (hQ _ (((Heap.SameBut.update ..).extBut.push _).push _))
theorem p_E (hh:A.handled=none) (I d:Addr) (hne:d≠I) (es:Array DictEntry) (ep:Nat) :
  Walks prog w A I [I,d] [I] es.size (λ i v=>(es[i]?).map (·.key)=some v) (λ i h=>h.IsKeyIter I d i es.size ep/\RawD h d es ep) where
 sub:=λ b hb=>by simp at hb; simp [hb]
 frame:=λ _ _ _ st hk=>⟨st.1.at λ o e=>hk I (by simp) o e,st.2.at λ o e=>hk d (by simp) o e⟩
 item:=λ i s Q E hi st hQ=>by
  refine r_L st.1 st.2 hi λ h' hit' hs'=>?_;exact hQ _ h' s.toks (by simp [hi]) ⟨hit',st.2.at λ o e=>(hs'.2 d hne).trans e⟩ λ b o hb e=>(hs'.2 b (λ h=>hb (by simp [h]))).trans e
 done:=λ s Q E st hQ=>u_i hh st.1 st.2 λ h' he'=>hQ h' s.toks λ b o hb e=>he' b o (λ h=>hb (by simp [h])) e
 self:=λ _ _ _ _ st hQ=>wpAny_pyIter_keyiter st.1 hQ
end
section
variable {prog:Program} {w:World} {A:Around} {E:Value->Shared->Prop} {s:Shared} {d it:Addr} {es:Array DictEntry} {ep i:Nat}
theorem h_F:typeLookup (.type "dict") "__len__" = pure (some (.builtin "dict.__len__")):=PySem.F.slot_dict_len.lookup
theorem l_E {Q:List Value->Shared->Prop} (hh:A.handled=none) (hd:(d == sysModules)=false) (hm:RawD s.heap d es ep) (hz:es.size<=sizeLine)
  (h:∀ h' tk,(∀ b o,s.heap.get? b=some o->h'.get? b=some o)->Q (es.toList.map (·.key)) { s with heap:=h',toks:=tk }):wpAny (model prog w) A (collect (.ref d)) Q E s:=by
 obtain ⟨o,ho,hc,hdat⟩:=id hm;have hdl:@LT.lt Nat _ d s.heap.objs.size:=zE ho;unfold collect;refine zA (wpAny_runValue (codeAny_builtin PySem.F.entry_proto_collect ?_));rw [Around.under_plainId PySem.F.plain_proto_collect _];show wpAny _ A.in1 (newList [] >>= λ l=>again (.builtin "list.__iadd__" ⟨[l,.ref d],[]⟩)) _ _ s;refine zA (wpAny_newObj_type ?_);refine zB ⟨plainId_quiet PySem.F.plain_list_iadd _,codeAny_builtin PySem.F.entry_list_iadd ?_⟩;rw [Around.under_plainId PySem.F.plain_list_iadd _];have hS₁:(s.heap.push { cls:=.type "list",data:=.seq ([]:List Value).toArray }).get? s.heap.objs.size=some { cls:=.type "list",data:=.seq ([]:List Value).toArray }:=zF _ rfl;have m1:RawD (s.heap.push { cls:=.type "list",data:=.seq ([]:List Value).toArray }) d es ep:=hm.at λ o e=>zD _ e;have k1:∀ b o,s.heap.get? b=some o->(s.heap.push { cls:=.type "list",data:=.seq ([]:List Value).toArray }).get? b=some o:=λ b o e=>zD _ e;have z1:(s.heap.push { cls:=.type "list",data:=.seq ([]:List Value).toArray }).objs.size=s.heap.objs.size+1:=size_push' _ _;show wpAny _ A.in1 (Builtin.List.listExtendWith (.ref s.heap.objs.size) (.ref d) (.ref s.heap.objs.size)) _ _ { s with heap:=s.heap.push { cls:=.type "list",data:=.seq ([]:List Value).toArray } };generalize s.heap.push { cls:=.type "list",data:=.seq ([]:List Value).toArray }=h1 at *
 unfold Builtin.List.listExtendWith;refine zA (wpAny_typeOf (s:={ s with heap:=h1 }) (T := "dict") (RawD.typeIs (s:={ s with heap:=h1 }) m1) ?_);have e1:Builtin.List.listSameRef (.ref s.heap.objs.size) (.ref d)=false:=by simp only [Builtin.List.listSameRef,beq_eq_false_iff_ne]; exact Ne.symm (Nat.ne_of_lt hdl)
 rw [if_neg (by rw [e1]; decide)];refine zA (r_K (s:={ s with heap:=h1 }) hd m1 ?_);have m2:RawD (h1.push { cls:=.type "dict_keyiterator",data:=.fields #[.ref d,.int 0 0,.int es.size 0,.int ep 0] }) d es ep:=m1.at λ o e=>zD _ e;have i2:(h1.push { cls:=.type "dict_keyiterator",data:=.fields #[.ref d,.int 0 0,.int es.size 0,.int ep 0] }).IsKeyIter h1.objs.size d 0 es.size ep:=⟨_,zF _ rfl,rfl,rfl⟩;have hS₂:(h1.push { cls:=.type "dict_keyiterator",data:=.fields #[.ref d,.int 0 0,.int es.size 0,.int ep 0] }).get? s.heap.objs.size=_:=zD _ hS₁;have k2:∀ b o,h1.get? b=some o->(h1.push { cls:=.type "dict_keyiterator",data:=.fields #[.ref d,.int 0 0,.int es.size 0,.int ep 0] }).get? b=some o:=λ b o e=>zD _ e;generalize h1.push { cls:=.type "dict_keyiterator",data:=.fields #[.ref d,.int 0 0,.int es.size 0,.int ep 0] }=h2 at *
 refine zA (wpAny_holding ?_);unfold Builtin.List.listLengthHint;refine zA (wpAny_specialOf (s:={ s with heap:=h2 }) (RawD.typeIs (s:={ s with heap:=h2 }) m2) h_F ?_);generalize hid:("dict.__len__" : String)=id0
 (fail_if_success (clear hid id0))
 wp_delta
 rw [show splitId id0=some ("dict","__len__") from by subst hid; decide +kernel];subst hid;refine zA (wpAny_isInstance (b:=true) (RawD.typeIs (s:={ s with heap:=h2 }) m2) (by rw [isSubtype_type]; kernel_rfl) ?_);refine zA (wpAny_typeOf (s:={ s with heap:=h2 }) (T := "dict") (RawD.typeIs (s:={ s with heap:=h2 }) m2) ?_);refine zB ?_;rw [if_pos (by decide)];refine zA (wpAny_rule ?_);refine zA ?_;show wpAny _ A.in1 (updateSeq s.heap.objs.size (·.push .none) >>= λ _=>updateSeq s.heap.objs.size (·.pop)) _ _ _;refine zA (wpAny_updateSeq hS₂ rfl ?_);have hS₃:=Heap.get?_update_self (Obj.mapSeq (·.push Value.none)) hS₂ rfl;refine wpAny_updateSeq hS₃ rfl ?_;have hS₄:=Heap.get?_update_self (Obj.mapSeq (·.pop)) hS₃ rfl;have hne:d≠h1.objs.size:=Nat.ne_of_lt (by rw [z1]; exact Nat.lt_succ_of_lt hdl);have hSn:s.heap.objs.size≠h1.objs.size:=by rw [z1]; exact Nat.ne_of_lt (Nat.lt_succ_self _)
 have hSd:s.heap.objs.size≠d:=Ne.symm (Nat.ne_of_lt hdl);have oth:∀ b o,b≠s.heap.objs.size->h2.get? b=some o->((h2.update s.heap.objs.size (Obj.mapSeq (·.push Value.none))).update s.heap.objs.size (Obj.mapSeq (·.pop))).get? b=some o :=
  λ b o hb e=>(Heap.get?_update_other _ _ (Ne.symm hb)).trans ((Heap.get?_update_other _ _ (Ne.symm hb)).trans e)
 have W:=(p_E (prog:=prog) (w:=w) (A:=A.in1) hh h1.objs.size d hne es ep).toS;refine zB ⟨plainId_quiet PySem.F.plain_extend_loop _,codeAny_extend_loopS W hz s.heap.objs.size (λ hm=>by rcases List.mem_cons.mp hm with z | z; exact hSn z; exact hSd (List.mem_singleton.mp z)) _ es.size 0 _ _ _ rfl (Nat.zero_le _)
  ⟨i2.at λ o e=>oth _ _ (Ne.symm hSn) e,m2.at λ o e=>oth _ _ (Ne.symm hSd) e⟩ hS₄ (ItemsOf.nil _) λ s' acc' c' hm hS' hacc=>?_⟩
 show wpAny _ A (load s.heap.objs.size >>= _) _ _ s';refine zA (wpAny_load hS' ?_);have ea:acc'.toList=es.toList.map (·.key):=by
  apply List.ext_getElem?
  intro j;rw [zH,Array.getElem?_toList,Array.getElem?_toList];cases hj:acc'[j]? with
  | some v=>exact (hacc.2 j v hj).symm
  | none =>
   have:acc'.size<=j:=Array.getElem?_eq_none_iff.mp hj;rw [Array.getElem?_eq_none (by rw [← hacc.1]; exact this)];rfl
 show wpAny _ _ (pure acc'.toList) Q E s';rw [ea];have es':s'={ s with heap:=s'.heap,toks:=s'.toks }:=by
  obtain ⟨_,g,dr,os,_⟩:=hm;cases s';cases g;cases dr;cases os;rfl
 rw [es'];refine zB (h _ _ λ b o e=>hm.heap b o ?_ (oth b o ?_ (k2 _ _ (k1 _ _ e))))
 ·have hb:@LT.lt Nat _ b s.heap.objs.size:=zE e;intro hm;rcases List.mem_cons.mp hm with z | z
  ·exact yJ z (Nat.ne_of_lt hb)
  ·rw [List.mem_singleton.mp z,z1] at hb;exact yJ hb (Nat.not_lt.mpr (Nat.le_succ _))
 ·exact Nat.ne_of_lt (zE e)
end
noncomputable def v_Q (K:Frag) (N:Nat):List V->Hp->VK->Prop:=λ xs H Q=>∃ (a:Addr) (kvs:List (PyData × V)) (l0 l1:List PyData),xs=[.ref a]/\kvs.length<=N/\DTr K H a kvs/\(∀ kv∈kvs,sm (.tuple (.tuple l1 :: l0)) kv.1=true) /\
 ∀ q (ps':List (V × PyData)) H',Same H H'->H q=none->H' q=some (.lst (ps'.map (·.1)))->(∀ p∈ps',tT 4 p.2=true/\Dt K H p.1 p.2)->(ps'.map (·.2)).Perm (kvs.map (·.1))->Asc ps'->Q (.ref q) H'
section
variable {X:Cx}
theorem n_D {N:Nat} (hS:∀ n,n<=N->j_o X.prog X.w n) (hu:X.A.units+64 < cLine) (hc:X.calm=true):c_O X (.builtin "sorted") (v_Q X.K N):=by
 intro pins s σ H xs us Q I r h;obtain ⟨a,kvs,l0,l1,rfl,hN,g,hs,q⟩:=h;obtain ⟨u,rfl,rx⟩:=e_T r;cases rx;obtain ⟨xs,e,kp,dd⟩:=g_e I g;obtain ⟨o,es,ep,h1,h2,h3,h4,_⟩:=id dd;have hlen:=g.len;have raw:RawD s.heap a es ep:=⟨o,h1,h2,h3⟩;have hk:es.toList.map (·.key)=xs.map λ x=>Value.ref x.2.1:=by rw [h4,List.map_map]; rfl
 have pr:∀ {kvs:List (PyData × V)} {xs:List (PyData × Addr × Value)},KP X.K H kvs xs->(∀ kv∈kvs,sm (.tuple (.tuple l1 :: l0)) kv.1=true)->Paired (TV X.K H (.tuple (.tuple l1 :: l0))) (xs.map λ x=>(V.ref x.2.1,x.1)) (xs.map λ x=>Value.ref x.2.1)/\(xs.map (·.1))=kvs.map (·.1):=by
  intro kvs xs kp
  induction kp with
  | nil=>intro _; exact ⟨.nil,rfl⟩
  | @cons p q ps qs hq t ih =>
   intro hs;obtain ⟨i1,i2⟩:=ih λ kv hkv=>hs kv (.tail _ hkv);have z:=hs p (.head _);rw [hq.1] at z;have t1:=hq.2.1.1;have t2:=hq.2.1.2;rw [hq.1] at t1 t2;refine ⟨.cons ⟨rfl,t1,z,t2⟩ i1,?_⟩;rw [List.map_cons,List.map_cons,i2,hq.1]
 obtain ⟨p1,p2⟩:=pr kp hs;have lx':xs.length=kvs.length:=by have:=congrArg List.length p2; simpa using this
 have le:es.size=xs.length:=by have:=congrArg List.length h4; simpa using this
 refine j_r hS hu (d0:=.tuple (.tuple l1 :: l0)) (its:=xs.map λ x=>Value.ref x.2.1) (ps:=xs.map λ x=>(V.ref x.2.1,x.1)) (by rw [yI]; omega) (by rw [yI]; omega) rfl p1 (λ Qc Ec hk'=>?_) λ q' ps' H' sm' hn e' pm as=>?_
 ·refine l_E (I.ok.hd hc) g.sys raw (by omega) λ h' tk kk=>?_;rw [hk];exact hk' _ (I.kept (t':=tk) kk)
 ·refine q q' ps' H' sm' hn e' (λ p hp=>?_) ?_ as
  ·obtain ⟨v,_,tv⟩:=Paired.mem p1 p (pm.mem_iff.mp hp);exact ⟨tv.t,tv.d⟩
  ·have:=pm.map (·.2);rw [List.map_map] at this;rw [← p2];exact this
end
open Sem (wp)
theorem i_r:typeLookup (.type "list") (Str.ofString "keys")=pure none:=am_miss_of_fast (by kernel_rfl)
theorem g_x:typeLookup (.type "list") "__getattr__" = pure none:=by rw [typeLookup_type,builtinLookup_eq_fast]; kernel_rfl
section
variable {prog:Program} {w:World} {A:Around} {E:Value->Shared->Prop} {h:Heap} {g:Array GenState} {d:Drawn} {t:Nat} {os:OsState} {a:Addr} {o:Obj}
theorem n_E {tk:Tok} {Q:PySem.Fin->Shared->Prop} (hh:A.handled=none) (hx:h.get? a=some o) (hc:o.cls=.type "list") (hd:o.dict=none) {xs:Array Value} {n:Nat} (hdt:o.data=.seq xs n) (hq:∀ h' tk e,Heap.NewAttrErr h h' e (.ref a) (Str.ofString "keys")->E (.ref e) ⟨h',g,d,tk,os⟩) :
  wpAny (model prog w) A (Builtin.«object.__getattribute__» ⟨[.ref a,.str (Str.ofString "keys") tk],[]⟩) Q E ⟨h,g,d,t,os⟩:=by
 have hT:(⟨h,g,d,t,os⟩:Shared).TypeIs (.ref a) "list" := ⟨_,hx,hc⟩;have f4:=i_r;unfold Builtin.«object.__getattribute__»
 repeat (any_goals (first | assumption | wp_step))
 rw [hdt];dsimp only;unfold instanceDict
 repeat (any_goals (first | assumption | wp_step))
 rw [hc,hd];dsimp only;simp only [Bool.not_false,Bool.true_or,if_true]
 repeat (any_goals (first | assumption | wp_step))
 exact wpAny_raiseAttrError hh hq (attrMsg_fits (by decide +kernel) (by size_fits))
theorem p_F {Q:Option Value->Shared->Prop} (hh:A.handled=none) (hx:h.get? a=some o) (hc:o.cls=.type "list") (hd:o.dict=none) {xs:Array Value} {n:Nat} (hdt:o.data=.seq xs n) (hq:∀ h' tk,(∀ b ob,h.get? b=some ob->h'.get? b=some ob)->Q none ⟨h',g,d,tk,os⟩) :
  wpAny (model prog w) A (getAttr? (.ref a) (Str.ofString "keys")) Q E ⟨h,g,d,t,os⟩:=by
 have hT:∀ t,(⟨h,g,d,t,os⟩:Shared).TypeIs (.ref a) "list" := λ t=>⟨_,hx,hc⟩;have hT':(⟨h,g,d,t+1,os⟩:Shared).TypeIs (.ref a) "list" := ⟨_,hx,hc⟩;have f1:=sub_AttributeError;have f3:=PySem.F.slot_list_getattribute.lookup;have f4:=PySem.F.slot_list_getattribute.bind (.ref a);have f5:=g_x;unfold getAttr? getAttrBy?;refine zA (wpAny_mkText ?_);refine zA (wpAny_attempt ?_);unfold getAttrBy
 repeat (any_goals (first | assumption | ((with_reducible show wpAny _ _ (call (Value.builtin "list.__getattribute__") _ _) _ _ _); refine wpAny_call_entry PySem.F.slot_list_getattribute (hT _) PySem.F.entry_list_ga (n_E hh hx hc hd hdt λ h' tk' e hx=>?_) (PySem.F.args_list_getattribute_2 _ _)) | wp_step))
 obtain ⟨t',u',he⟩:=hx.there
 repeat (any_goals (first | assumption | wp_step))
 exact hq _ _ hx.keeps
end
theorem c_W:plainId "dict.update.loop" = true:=by decide +kernel
theorem e_V:entryFor table "dict.update.loop" = some Builtin.«dict.update.loop»:=entryFor_of_fast (by kernel_rfl)
structure Ent where
 p:Addr
 k:PyData
 b:Addr
 v:Value
noncomputable def Ent.ok (h:Heap) (t:Ent):Prop:=(∃ o n,h.get? t.p=some o/\o.cls=.type "tuple" /\ o.data=.seq #[.ref t.b,t.v] n)/\isT h t.k t.b
theorem Ent.up {h h':Heap} {t:Ent} (x:t.ok h) (hk:∀ b o,h.get? b=some o->o.cls=.type "tuple" -> h'.get? b=some o):t.ok h':=by
 obtain ⟨⟨o,n,h1,h2,h3⟩,h4,as,h5⟩:=x;exact ⟨⟨o,n,hk _ _ h1 h2,h2,h3⟩,h4,as,n_A hk 4 h4 h5⟩
noncomputable def putP (xs:List (PyData × Addr × Value)) (t:Ent):List (PyData × Addr × Value):=storedH xs t.k t.b t.v
theorem l_F (xs:List (PyData × Addr × Value)) (k:PyData) (b:Addr) (v:Value):(storedH xs k b v).length<=xs.length+1:=by
 unfold storedH;split <;> simp
section
variable {prog:Program} {w:World} {A:Around} {R:Result->Shared->Prop} {d it l:Addr} {items:Array Value}
theorem i_s (hh:A.handled=none) (hu:A.units+32 < cLine) (hdi:d≠it) (hdl:d≠l) (hli:l≠it) :
  ∀ (rest:List Ent) (i:Nat) (xs:List (PyData × Addr × Value)) (s:Shared),(∀ j,items[i+j]?=rest[j]?.map λ t=>Value.ref t.p)->s.heap.IsListIter it l i->s.heap.IsList l items->s.heap.DictOfH (c_D prog w) d xs->(∀ t∈rest,t.ok s.heap)->xs.length+rest.length<=sizeLine ->
  (∀ h' tk,(∀ b o,b≠it->b≠d->s.heap.get? b=some o->h'.get? b=some o)->h'.DictOfH (c_D prog w) d (rest.foldl putP xs)->R (.ok (.ret .none)) { s with heap:=h',toks:=tk }) ->
  codeAny (model prog w) A (.builtin "dict.update.loop" ⟨[.ref d,.ref it,.int i 0,.none],[]⟩) R s
 | [],i,xs,s,hj,hit,hl,hd,_,_,hR=>by
  refine codeAny_builtin e_V ?_;rw [Around.under_plainId c_W _];show wpAny _ A.in1 (pyNext (.ref it) >>= _) _ _ s;refine zA (wpAny_pyNext_list_end (i:=i) hh hit hl (by simpa using hj 0) λ h' he=>?_);show wpAny _ _ (Builtin.Dict.addKeywords d [] >>= _) _ _ _;refine zA (zB (zB ?_));obtain ⟨o,es,ep,h1,h2⟩:=hd;exact hR h' s.toks (λ b o hb _ e=>he b o hb e) ⟨o,es,ep,he d o hdi h1,by
   obtain ⟨g1,g2,g3,g4,g5⟩:=h2;refine ⟨g1,g2,g3,λ x hx=>?_,g5⟩;obtain ⟨t,as,r⟩:=g4 x hx;refine ⟨t,as,n_A (λ b o e hc=>he b o (λ z=>?_) e) 4 t r⟩;obtain ⟨oi,e1,e2,_⟩:=hit;rw [z,e1] at e;cases e;rw [e2] at hc;simp at hc⟩
 | t :: rest,i,xs,s,hj,hit,hl,hd,hok,hz,hR=>by
  refine codeAny_builtin e_V ?_;rw [Around.under_plainId c_W _];show wpAny _ A.in1 (pyNext (.ref it) >>= _) _ _ s;have h0:items[i]?=some (.ref t.p):=by simpa using hj 0
  refine zA (wpAny_pyNext_list_item (i:=i) hit hl h0 λ h1 hit1 hs1=>?_);obtain ⟨oi,ei1,ei2,_⟩:=id hit;have kT:∀ b o,s.heap.get? b=some o->o.cls=.type "tuple" -> h1.get? b=some o:=λ b o e hc=>(hs1.2 b (λ z=>by rw [z,ei1] at e; cases e; rw [ei2] at hc; simp at hc)).trans e;have hd1:h1.DictOfH (c_D prog w) d xs:=by
   obtain ⟨o,es,ep,g0,g1,g2,g3,g4,g5⟩:=hd;exact ⟨o,es,ep,(hs1.2 d hdi).trans g0,g1,g2,g3,λ x hx=>let ⟨t,as,r⟩:=g4 x hx; ⟨t,as,n_A kT 4 t r⟩,g5⟩
  have hl1:h1.IsList l items:=by
   obtain ⟨o,g0,g1⟩:=hl;exact ⟨o,(hs1.2 l hli).trans g0,g1⟩
  have hok1:∀ t'∈t :: rest,t'.ok h1:=λ t' ht'=>Ent.up (hok t' ht') kT;obtain ⟨⟨op,np,p1,p2,p3⟩,pk⟩:=hok1 t (.head _);refine zA (wpAny_holding ?_);have hz':xs.length<=sizeLine:=by
   have:=hz;simp only [List.length_cons] at this;omega
  refine zA (wpAny_tryCatch ?_);unfold Builtin.Dict.pairItems;refine zA (wpAny_typeOf (s:={ s with heap:=h1 }) (T := "tuple") ⟨op,p1,p2⟩ ?_);rw [if_pos (by decide)];refine zA (wpAny_seqItems (s:={ s with heap:=h1 }) p1 p3 (zB ?_));show wpAny _ A.in1 (holding [.ref t.b,t.v] (dictSet d (.ref t.b) t.v)) _ _ _;refine wpAny_holding ?_;refine wpAny_dictSet_heap (knd:=c_D prog w) (s:={ s with heap:=h1 }) (hsz:=hz') (show A.units+1+8 < cLine by omega) pk hd1 λ h2 hd2 hs2=>?_;obtain ⟨oD,esD,epD,d1,d2,d3,_⟩:=id hd1;have kT2:∀ b o,h1.get? b=some o->o.cls=.type "tuple" -> h2.get? b=some o:=λ b o e hc=>(hs2.2 b (λ z=>by rw [z,d1] at e; cases e; rw [d2.1] at hc; simp at hc)).trans e;refine zB ⟨plainId_quiet c_W _,?_⟩;have eR:(rawInt ((i:Int)+1))=.int ((i+1:Nat):Int) 0:=rfl;rw [eR];refine i_s hh hu hdi hdl hli rest (i+1) (storedH xs t.k t.b t.v) _ (λ j=>?_) ?_ ?_ hd2 (λ t' ht'=>Ent.up (hok1 t' (.tail _ ht')) kT2) ?_ λ h3 tk3 k3 D3=>?_
  ·have:=hj (j+1);rw [List.getElem?_cons_succ] at this;rw [← this];congr 1;omega
  ·obtain ⟨o,g0,g1⟩:=hit1;exact ⟨o,(hs2.2 it (Ne.symm hdi)).trans g0,g1⟩
  ·obtain ⟨o,g0,g1⟩:=hl1;exact ⟨o,(hs2.2 l (Ne.symm hdl)).trans g0,g1⟩
  ·have:=l_F xs t.k t.b t.v;have:=hz;simp only [List.length_cons] at this;omega
  ·exact hR h3 tk3 (λ b o b1 b2 e=>k3 b o b1 b2 ((hs2.2 b b2).trans ((hs1.2 b b1).trans e))) D3
end
section
variable {prog:Program} {w:World} {A:Around} {E:Value->Shared->Prop} {s:Shared} {l:Addr}
theorem n_F {Q:Value->Shared->Prop} {es:List Ent} {o:Obj} {n:Nat} (hh:A.handled=none) (hu:A.units+48 < cLine) (hl0:s.heap.get? l=some o) (hlc:o.cls=.type "list") (hld:o.dict=none) (hldt:o.data=.seq (es.map λ t=>Value.ref t.p).toArray n) (hok:∀ t∈es,t.ok s.heap) (hz:es.length<=sizeLine)
  (h:∀ h' tk,(∀ b o,s.heap.get? b=some o->h'.get? b=some o)->h'.DictOfH (c_D prog w) s.heap.objs.size (es.foldl putP [])->Q (.ref s.heap.objs.size) { s with heap:=h',toks:=tk }) :
  wpAny (model prog w) A (call (.type "dict") [.ref l]) Q E s:=by
 have hll:@LT.lt Nat _ l s.heap.objs.size:=zE hl0;refine callType_codes (Q₁:=λ obj s₁=>obj=.ref s.heap.objs.size/\s₁={ s with heap:=s.heap.push { cls:=.type "dict",data:=.dict #[] } }) PySem.F.kt_called_dict (PySem.F.kt_typeCall_dict_1 _) PySem.F.entry_dict_init (kt_code_dict_new _ ⟨rfl,rfl⟩) ?_;rintro obj s₁ ⟨rfl,rfl⟩;have hnew:(s.heap.push { cls:=.type "dict",data:=.dict #[] }).DictOfH (c_D prog w) s.heap.objs.size []:=Heap.DictOfH.new s.heap;have k1:∀ b o,s.heap.get? b=some o->(s.heap.push { cls:=.type "dict",data:=.dict #[] }).get? b=some o:=λ b o e=>zD _ e;have z1:(s.heap.push { cls:=.type "dict",data:=.dict #[] }).objs.size=s.heap.objs.size+1:=size_push' _ _;generalize s.heap.push { cls:=.type "dict",data:=.dict #[] }=h1 at *
 have hT1:=Heap.DictOfH.typeIs (s:={ s with heap:=h1 }) hnew;refine ⟨hT1,PySem.F.args_dict_init_2 _ _,?_⟩;unfold Builtin.«dict.__init__»;refine zA ?_;unfold Builtin.Dict.selfAndRest;refine zA (wpAny_notOrdered_dict hT1 ?_);show wpAny _ _ (pure (s.heap.objs.size,[Value.ref l])) _ _ _;refine zB ?_;show wpAny _ _ (Builtin.Dict.updateFrom "dict.__init__" s.heap.objs.size (.ref l) [] .none) _ _ { s with heap:=h1 };unfold Builtin.Dict.updateFrom;refine zA (wpAny_typeOf (s:={ s with heap:=h1 }) (T := "list") ⟨o,k1 _ _ hl0,hlc⟩ ?_);rw [if_pos (by decide)];refine zA (p_F (A:=A.in1.in1) hh (k1 _ _ hl0) hlc hld hldt λ h2 tk2 k2=>?_);rw [if_pos (by rfl)];refine zA (wpAny_rule ?_);have hL2:h2.IsList l (es.map λ t=>Value.ref t.p).toArray:=⟨o,k2 _ _ (k1 _ _ hl0),hlc,n,hldt⟩;refine zA (wpAny_pyIter_list (s:={ s with heap:=h2,toks:=tk2 }) hL2 ?_);have z2:s.heap.objs.size+1<=h2.objs.size:=by
  obtain ⟨od,_,_,e,_⟩:=id hnew;exact (show @LT.lt Nat _ s.heap.objs.size h2.objs.size from zE (k2 _ _ e))
 have k3:∀ b o,h2.get? b=some o->(h2.push { cls:=.type "list_iterator",data:=.fields #[.ref l,.int 0 0] }).get? b=some o:=λ b o e=>zD _ e;have i3:(h2.push { cls:=.type "list_iterator",data:=.fields #[.ref l,.int 0 0] }).IsListIter h2.objs.size l 0:=⟨_,zF _ rfl,rfl,rfl⟩;show wpAny _ _ _ _ _ { s with heap:=h2.push { cls:=.type "list_iterator",data:=.fields #[.ref l,.int 0 0] },toks:=tk2 };generalize h2.push { cls:=.type "list_iterator",data:=.fields #[.ref l,.int 0 0] }=h3 at *
 have kk:∀ b o,s.heap.get? b=some o->h3.get? b=some o:=λ b o e=>k3 _ _ (k2 _ _ (k1 _ _ e));refine zA (zB ?_);refine zB ⟨plainId_quiet c_W _,?_⟩;refine i_s (A:=A.in1) (items:=(es.map λ t=>Value.ref t.p).toArray) hh (by show A.units+1+32 < cLine; omega) (Nat.ne_of_lt (zI (Nat.lt_succ_self _) z2)) (Ne.symm (Nat.ne_of_lt hll)) (Nat.ne_of_lt (zI (Nat.lt_succ_of_lt hll) z2)) es 0 [] _ (λ j=>by simp) i3
  ⟨o,kk _ _ hl0,hlc,n,hldt⟩ ?_ (λ t ht=>Ent.up (hok t ht) λ b o e _=>kk b o e) (by simpa using hz) λ h4 tk4 k4 D4=>?_
 ·obtain ⟨od,es',ep,e,r⟩:=id hnew;obtain ⟨r1,r2,r3,_,r5⟩:=r;exact ⟨od,es',ep,k3 _ _ (k2 _ _ e),r1,r2,r3,λ x hx=>(nomatch hx),r5⟩
 ·refine ⟨rfl,h h4 tk4 (λ b o e=>?_) D4⟩;have hb:@LT.lt Nat _ b s.heap.objs.size:=zE e;exact k4 b o (Nat.ne_of_lt (zI (Nat.lt_succ_of_lt hb) z2)) (Nat.ne_of_lt hb) (kk _ _ e)
end
noncomputable def v_R (K:Frag):List V->Hp->VK->Prop:=λ xs H Q=>∃ (l:Addr) (ts:List (Addr × PyData × Addr × V)),xs=[.ref l]/\SqL K H l (ts.map λ t=>V.ref t.1)/\(∀ t∈ts,SqT K H t.1 [.ref t.2.2.1,t.2.2.2]/\tT 4 t.2.1=true/\Dt K H (.ref t.2.2.1) t.2.1)/\(ts.map (·.2.1)).Nodup /\
 ∀ D H',Same H H'->H D=none->DTr K H' D (ts.map λ t=>(t.2.1,t.2.2.2))->Q (.ref D) H'
theorem u_j {kvs:List (PyData × V)} {k:PyData} (h:k ∉ kvs.map (·.1)):vT kvs k=none:=by
 induction kvs with
 | nil=>rfl
 | cons p r ih =>
  rw [List.map_cons,List.mem_cons,not_or] at h;rw [g_S (λ e=>h.1 e.symm)];exact ih h.2
section
variable {X:Cx}
theorem n_G (hu:X.A.units+64 < cLine) (hc:X.calm=true):c_O X (.type "dict") (v_R X.K):=by
 intro pins s σ H xs us Q I r h;obtain ⟨l,ts,rfl,hq,ht,hn,q⟩:=h;obtain ⟨u,rfl,rx⟩:=e_T r;cases rx;obtain ⟨its,rv,⟨o,n0,e,c,od,dd⟩,hz⟩:=I.list hq;have mk:∀ (ts:List (Addr × PyData × Addr × V)) (its:List Value),Vals (ts.map λ t=>V.ref t.1) its->(∀ t∈ts,SqT X.K H t.1 [.ref t.2.2.1,t.2.2.2]/\tT 4 t.2.1=true/\Dt X.K H (.ref t.2.2.1) t.2.1) ->
   ∃ es:List Ent,its=es.map (λ t=>Value.ref t.p)/\Paired (λ t (e:Ent)=>e.k=t.2.1/\e.b=t.2.2.1/\RelV t.2.2.2 e.v/\e.ok s.heap) ts es:=by
  intro ts
  induction ts with
  | nil=>intro its r _; cases r; exact ⟨[],rfl,.nil⟩
  | cons t ts ih =>
   intro its r ht;cases r with
   | cons r1 r2 =>
    obtain ⟨es,e1,e2⟩:=ih _ r2 λ x hx=>ht x (.tail _ hx);obtain ⟨h1,h2,h3⟩:=ht t (.head _);obtain ⟨it2,rv2,⟨op,g1,g2,gn,g3⟩,_⟩:=I.tuple h1;cases rv2 with
    | cons ra rb =>
     cases rb with
     | cons rb rc =>
      cases rc;cases ra;cases r1;rename_i v2;refine ⟨⟨t.1,t.2.1,t.2.2.1,v2⟩ :: es,by rw [List.map_cons,← e1],.cons ⟨rfl,rfl,rb,⟨op,gn,g1,g2,g3⟩,e_N I h2 h3⟩ e2⟩
 obtain ⟨es,e1,e2⟩:=mk ts its rv ht;subst e1;have hlen:ts.length=es.length:=a_Q e2;refine n_F (es:=es) (I.ok.hd hc) (by omega) e c od (by rw [dd]) (λ t ht'=>?_) (by rw [← hlen]; simpa using hz) λ h' tk kk D=>?_
 ·obtain ⟨_,_,z⟩:=g_f e2 t ht';exact z.2.2.2
 have fold:∀ (ts:List (Addr × PyData × Addr × V)) (es:List Ent),Paired (λ t (e:Ent)=>e.k=t.2.1/\e.b=t.2.2.1/\RelV t.2.2.2 e.v/\e.ok s.heap) ts es->(∀ t∈ts,tT 4 t.2.1=true/\Dt X.K H (.ref t.2.2.1) t.2.1)->∀ (kvs:List (PyData × V)) (xs:List (PyData × Addr × Value)),KP X.K H kvs xs->(kvs.map (·.1)++ts.map (·.2.1)).Nodup->KP X.K H (kvs++ts.map λ t=>(t.2.1,t.2.2.2)) (es.foldl putP xs):=by
  intro ts es pr
  induction pr with
  | nil=>intro _ kvs xs kp _; rw [List.map_nil,List.append_nil]; exact kp
  | @cons t e ts es he _ ih =>
   intro ht kvs xs kp nd;obtain ⟨h1,h2,h3,_⟩:=he;have st:=kp.put t.2.1 (ht t (.head _)).1 (ht t (.head _)).2 h3;have nk:t.2.1 ∉ kvs.map (·.1):=λ hm=>by
    have:=(List.nodup_append.mp nd).2.2 _ hm t.2.1 (by simp);exact this rfl
   have ep:pT kvs t.2.1 t.2.2.2=kvs++[(t.2.1,t.2.2.2)]:=by
    unfold pT;rw [u_j nk];rfl
   rw [ep,← h1,← h2] at st;have:=ih (λ x hx=>ht x (.tail _ hx)) _ _ st (by rw [List.map_append,List.append_assoc]; simpa [h1] using nd);rw [List.append_assoc] at this;rw [h1] at this;show KP X.K H _ (List.foldl putP (storedH xs e.k e.b e.v) es);rw [h1];exact this
 have kp:=fold ts es e2 (λ t ht'=>(ht t ht').2) [] [] .nil (by simpa using hn);rw [List.nil_append] at kp;obtain ⟨oD,eD,pD,d1,d2,d3,d4,_,d6⟩:=D;have hf:H s.heap.objs.size=none:=I.hok.fresh (zL _);have sm:Same H (upd H s.heap.objs.size (d_Q s.heap.objs.size (es.foldl putP []))):=Same.new hf;refine ⟨.ref s.heap.objs.size,_,I.laid (a:=s.heap.objs.size) (o:=d_Q s.heap.objs.size (es.foldl putP [])) (t':=tk) kk (zL _) (g_w d1 d2 d3 d4),rfl,?_⟩;refine q _ _ sm hf ⟨by rw [yI]; simpa using hz,beq_eq_false_iff_ne.mpr (Ne.symm (Nat.ne_of_lt (o_w I))),_,a_F,d6,kp.keeps (b_U sm)⟩
end
open Classical in
noncomputable def rdT (h:Heap) (v:Value):Option PyData:=if q:∃ d,tT 4 d=true/\∃ as,Reads h v d as then some q.choose else none
theorem r_M {h:Heap} {d:PyData} {v:Value} {as:List Addr} (t:tT 4 d=true) (r:Reads h v d as):rdT h v=some d:=by
 have q:∃ d,tT 4 d=true/\∃ as,Reads h v d as:=⟨d,t,as,r⟩;unfold rdT;rw [dif_pos q];obtain ⟨t',as',r'⟩:=q.choose_spec;rw [PySem.SeqAt.Reads.unique _ _ _ _ _ (e_q 4 _ (e_h 4 _ t')).1 r' r]
noncomputable def rInD (K:Frag) (neg:Bool):R2:=λ x y H Q=>∃ (p:Addr) (ps:List (V × PyData)) (d:PyData),y=.ref p/\(SqL K H p (ps.map (·.1))\/SqT K H p (ps.map (·.1)))/\(∀ q∈ps,tT 4 q.2=true/\Dt K H q.1 q.2)/\tT 4 d=true/\Dt K H x d/\Q (.bl (if neg=true then !(ps.any λ q=>decide (q.2=d)) else ps.any λ q=>decide (q.2=d))) H
section
variable {X:Cx}
theorem n_H {pins:List (Addr × Obj)} {σ:St} {H:Hp} {s:Shared} (I:Inv X pins σ H s) (d:PyData):∀ {ps:List (V × PyData)} {us:List Value},Vals (ps.map (·.1)) us->(∀ q∈ps,tT 4 q.2=true/\Dt X.K H q.1 q.2)->us.any (λ u=>decide (rdT s.heap u=some d))=ps.any λ q=>decide (q.2=d)
 | [],_,.nil,_=>rfl
 | p :: ps,u :: us,.cons r t,h=>by
  rw [List.any_cons,List.any_cons,n_H I d t λ q hq=>h q (.tail _ hq)];obtain ⟨as,rd⟩:=(h p (.head _)).2.reads I r;rw [r_M (h p (.head _)).1 rd];congr 1;exact decide_eq_decide.mpr ⟨λ e=>by cases e; rfl,λ e=>by rw [e]⟩
theorem n_I {pins:List (Addr × Obj)} {σ:St} {H:Hp} {s:Shared} (I:Inv X pins σ H s) {A:Around} (hu:A.units+8 < cLine) {x:V} {v:Value} {d:PyData} (rx:RelV x v) (td:tT 4 d=true) (hd:Dt X.K H x d):∀ {ps:List (V × PyData)} {us:List Value},Vals (ps.map (·.1)) us->(∀ q∈ps,tT 4 q.2=true/\Dt X.K H q.1 q.2)->∀ u∈us,SeqAt.EqAt A s u v (decide (rdT s.heap u=some d))
 | [],_,.nil,_=>λ u hu=>by cases hu
 | p :: ps,u :: us,.cons r t,h=>λ u' hu'=>by
  rcases List.mem_cons.mp hu' with rfl | hu'
  ·obtain ⟨as,rd⟩:=(h p (.head _)).2.reads I r;obtain ⟨bs,rd2⟩:=hd.reads I rx;have e:decide (rdT s.heap u'=some d)=decide (p.2=d):=by
    rw [r_M (h p (.head _)).1 rd];exact decide_eq_decide.mpr ⟨λ e=>by cases e; rfl,λ e=>by rw [e]⟩
   rw [e];intro prog w E Q hQ;exact eqT (n:=4) (zL _) (h p (.head _)).1 td rd rd2 hu hQ
  ·exact n_I I hu rx td hd t (λ q hq=>h q (.tail _ hq)) u' hu'
theorem j_s (hu:X.A.units+64 < cLine):OpR X (compareOp .NotIn) (rInD X.K true):=by
 intro pins s σ H x y v u Q I rx ry h;obtain ⟨p,ps,d,rfl,hq,ht,td,hd,q⟩:=h;cases ry;rcases hq with hq | hq
 ·obtain ⟨its,r,pl,hz⟩:=I.list hq;refine SeqAt.notIn_listAt (λ u=>decide (rdT s.heap u=some d)) pl.isList (λ w hw=>n_I I ?_ rx td hd r ht w (by simpa using hw)) ⟨.bl _,H,I,rfl,?_⟩
  ·show X.A.units+1+8 < cLine;omega
  rw [show its.toArray.any (λ u=>decide (rdT s.heap u=some d))=its.any (λ u=>decide (rdT s.heap u=some d)) by simp,n_H I d r ht];exact q
 ·obtain ⟨its,r,pl,hz⟩:=I.tuple hq;refine SeqAt.notIn_tupleAt (λ u=>decide (rdT s.heap u=some d)) pl (λ w hw=>n_I I ?_ rx td hd r ht w (by simpa using hw)) ⟨.bl _,H,I,rfl,?_⟩
  ·show X.A.units+1+8 < cLine;omega
  rw [show its.toArray.any (λ u=>decide (rdT s.heap u=some d))=its.any (λ u=>decide (rdT s.heap u=some d)) by simp,n_H I d r ht];exact q
end
structure FunD (K:Frag) (x qual:Str) (st:Stmt) (f:Addr) (fd:FuncData) (ds:List Value):Prop where
 ex:∃ (oc:Value) (od:Option Addr) (T:Addr) (kV doc pm:Value) (an:Option Addr) (cdv ct:Value) (osl:Array (Option Value)),
  fd=PySem.W.fnOf x qual (a_L st) (a_H st) (a_B st) (.ref T) kV doc pm an cdv ct/\K.lookup f=some ⟨oc,od,.func fd,osl⟩/\PySem.W.codeIn K cdv qual=true/\∃ (o2:Value) (d2:Option Addr) (n2:Nat) (s2:Array (Option Value)),K.lookup T=some ⟨o2,d2,.seq ds.toArray n2,s2⟩
 kp:PySem.W.keepIn K (.ref f)=true
section
variable {P:Program} {w:World} {K:Frag} {mg:Str->Option Value} {base:Heap}
theorem FunD.ok {x qual:Str} {st:Stmt} {f:Addr} {fd:FuncData} {ds:List Value} {N ps:List Str} {k:Nat} {sp:Sp} (F:FunD K x qual st f fd ds) (S:a_M N ps (a_B st)) (len:∀ vs H Q E,sp vs H Q E->vs.length=ps.length)
  (hbody:∀ (cdv:Value) (A:Around) (outer:List Env) (s:Shared) (H:Hp) (vs:List V) (Q:VK) (E:XK),Room k (A.deeper (envOfC qual (a_B st) s.heap.objs.size f cdv))->sp vs H Q E ->
   ∃ t,PSs (cxOf CX0 P w K mg base N qual (a_B st) f cdv A outer s H E).nox (a_H st) t/\t { nx:=λ _ H'=>Q .non H',rt:=Q } (e_k N vs) H):FnOk P w K mg base CX0 (k+1) f fd ps sp:=by
 obtain ⟨oc,od,T,kV,doc,pm,an,cdv,ct,osl,rfl,lk,hcd,_⟩:=F.ex;refine q_W lk hcd S len λ A outer s H vs Q E hr hsp=>?_;obtain ⟨t,h,q⟩:=hbody cdv A outer s H vs Q E hr hsp;exact ⟨t,h.nox,q⟩
theorem FunD.binds {x qual:Str} {st:Stmt} {f:Addr} {fd:FuncData} {ps:List Str} {ds:List Value} (F:FunD K x qual st f fd ds)
  (h:∀ (T:Addr) (kV doc pm:Value) (an:Option Addr) (cdv ct:Value) (us:List Value),us.length+ds.length=ps.length->∃ k,bindArgs (PySem.W.fnOf x qual (a_L st) (a_H st) (a_B st) (.ref T) kV doc pm an cdv ct) ⟨us,[]⟩=seqItems? (.ref T) >>= k/\k (some ds.toArray)=pure (ps.zip (us++ds))):a_X K fd ps ds:=by
 obtain ⟨oc,od,T,kV,doc,pm,an,cdv,ct,osl,rfl,lk,hcd,o2,d2,n2,s2,lt⟩:=F.ex;intro s us kin hl;obtain ⟨k,e1,e2⟩:=h T kV doc pm an cdv ct us (by simpa using hl);exact BindsTo.of_defaults (T:=T) rfl (kin _ _ lt) rfl e1 e2
theorem FunD.bindsA {x qual:Str} {st:Stmt} {f:Addr} {fd:FuncData} {ps:List Str} {ds:List Value} (F:FunD K x qual st f fd ds)
  (h:∀ (T:Addr) (kV doc pm:Value) (an:Option Addr) (cdv ct:Value) (us:List Value),us.length=ps.length->∃ k,bindArgs (PySem.W.fnOf x qual (a_L st) (a_H st) (a_B st) (.ref T) kV doc pm an cdv ct) ⟨us,[]⟩=seqItems? (.ref T) >>= k/\k (some ds.toArray)=pure (ps.zip us)):a_X K fd ps []:=by
 obtain ⟨oc,od,T,kV,doc,pm,an,cdv,ct,osl,rfl,lk,hcd,o2,d2,n2,s2,lt⟩:=F.ex;intro s us kin hl;rw [List.append_nil] at hl ⊢;obtain ⟨k,e1,e2⟩:=h T kV doc pm an cdv ct us hl;exact BindsTo.of_defaults (T:=T) rfl (kin _ _ lt) rfl e1 e2
theorem u_k {x qual:Str} {st:Stmt} {f T:Addr} {oc o2:Value} {od d2 an:Option Addr} {osl s2:Array (Option Value)} {kV doc pm cdv ct:Value} {ds:List Value} {n2:Nat} (l:K.lookup f=some ⟨oc,od,.func (PySem.W.fnOf x qual (a_L st) (a_H st) (a_B st) (.ref T) kV doc pm an cdv ct),osl⟩)
  (c:PySem.W.codeIn K cdv qual=true) (k:PySem.W.keepIn K (.ref f)=true) (l2:K.lookup T=some ⟨o2,d2,.seq ds.toArray n2,s2⟩):FunD K x qual st f (PySem.W.fnOf x qual (a_L st) (a_H st) (a_B st) (.ref T) kV doc pm an cdv ct) ds:=⟨⟨oc,od,T,kV,doc,pm,an,cdv,ct,osl,rfl,l,c,o2,d2,n2,s2,l2⟩,k⟩
end
noncomputable def e_y:List Value->List Str->Bool
 | [],[]=>true
 | .str x _ :: vs,y :: ys=>decide (x=y) && e_y vs ys
 | _,_=>false
noncomputable def o_E (K:Frag) (b:Addr) (row:List Str):Bool:=match K.lookup b with
 | some o=>match o.data with
  | .seq its _=>(o.cls == Value.type "tuple") && e_y its.toList row
  | _=>false
 | none=>false
noncomputable def f_Q (K:Frag):List Value->List (List Str)->Bool
 | [],[]=>true
 | .ref b :: vs,r :: rs=>o_E K b r && f_Q K vs rs
 | _,_=>false
noncomputable def rowsIs (K:Frag) (a:Addr) (rows:List (List Str)):Bool:=match K.lookup a with
 | some o=>match o.data with
  | .seq its _=>(o.cls == Value.type "tuple") && f_Q K its.toList rows
  | _=>false
 | none=>false
theorem e_r:∀ {vs:List Value} {ys:List Str},e_y vs ys=true->Vals (ys.map V.str) vs
 | [],[],_=>.nil
 | [],_ :: _,h=>by simp [e_y] at h
 | v :: vs,[],h=>by cases v <;> simp [e_y] at h
 | v :: vs,y :: ys,h=>by
  cases v <;> simp only [e_y,Bool.false_eq_true,Bool.and_eq_true,decide_eq_true_eq] at h;rename_i x tk;refine .cons ?_ (e_r h.2);rw [h.1];exact ⟨tk,rfl⟩
theorem r_N {K:Frag} {b:Addr} {row:List Str} (h:o_E K b row=true) (hz:row.length<=sizeLine) (H:Hp):SqT K H b (row.map V.str):=by
 unfold o_E at h;split at h
 ·next o ho =>
  split at h
  ·next its n hd =>
   rw [Bool.and_eq_true] at h;exact .inr ⟨o,its,n,ho,eq_of_beq h.1,hd,by
    have e:row.length=its.size:=by simpa using (e_r h.2).length
    rw [← e];exact hz,e_r h.2⟩
  ·cases h
 ·cases h
theorem i_t {K:Frag}:∀ {vs:List Value} {rows:List (List Str)},f_Q K vs rows=true->∃ bs:List Addr,vs=bs.map Value.ref/\bs.length=rows.length/\∀ (i:Nat) (b:Addr) (r:List Str),bs[i]?=some b->rows[i]?=some r->o_E K b r=true
 | [],[],_=>⟨[],rfl,rfl,λ i b r e=>by simp at e⟩
 | [],_ :: _,h=>by simp [f_Q] at h
 | v :: vs,[],h=>by cases v <;> simp [f_Q] at h
 | v :: vs,r :: rows,h=>by
  cases v <;> simp only [f_Q,Bool.false_eq_true,Bool.and_eq_true] at h;rename_i b;obtain ⟨bs,e1,e2,e3⟩:=i_t h.2;refine ⟨b :: bs,by rw [e1]; rfl,by simp [e2],λ i b' r' eb er=>?_⟩;cases i with
  | zero=>cases eb; cases er; exact h.1
  | succ i=>exact e3 i b' r' (by simpa using eb) (by simpa using er)
theorem j_t:∀ (bs:List Addr),Vals (bs.map V.ref) (bs.map Value.ref)
 | []=>.nil
 | b :: bs=>.cons rfl (j_t bs)
theorem p_G {K:Frag} {a:Addr} {rows:List (List Str)} (h:rowsIs K a rows=true) (hz:rows.length<=sizeLine) (hr:∀ r∈rows,r.length<=sizeLine):∃ bs:List Addr,(∀ H,SqT K H a (bs.map V.ref))/\bs.length=rows.length/\∀ (i:Nat) (b:Addr) (r:List Str),bs[i]?=some b->rows[i]?=some r->∀ H,SqT K H b (r.map V.str):=by
 unfold rowsIs at h;split at h
 ·next o ho =>
  split at h
  ·next its n hd =>
   rw [Bool.and_eq_true] at h;obtain ⟨bs,e1,e2,e3⟩:=i_t h.2;refine ⟨bs,λ H=>.inr ⟨o,its,n,ho,eq_of_beq h.1,hd,by
    have:=congrArg List.length e1;rw [yI,Array.length_toList] at this;omega,by rw [e1]; exact j_t bs⟩,e2,λ i b r eb er H=>r_N (e3 i b r eb er) (hr r (List.mem_of_getElem? er)) H⟩
  ·cases h
 ·cases h
noncomputable def addI (hs:List Int) (ix:Array Nat) (t:SetTable) (k:Nat):Option (Array Nat × SetTable) :=
 if t.gaveWay=true\/1000<=ix.size then none else
 match t.probe (λ i=>((ix[i]?).map λ j=>hs.getD j 0).getD 0) (hs.getD k 0) (t.probeStart (hs.getD k 0)) with
 | some (.empty j none) =>
  if (t.put j).1.fits (SetTable.insertAt ix (t.put j).2 k).size=false then none else
  if (t.put j).1.tooFull=true then
   if SetTable.sizeAbove (SetTable.grown (ix.size+1)) > sizeLine then none else
   match (t.put j).1.relaid ((SetTable.insertAt ix (t.put j).2 k).map λ j=>hs.getD j 0) (SetTable.grown (ix.size+1)) with
   | some (t2,order) =>
    if (order.filterMap λ i=>(SetTable.insertAt ix (t.put j).2 k)[i]?).size=(SetTable.insertAt ix (t.put j).2 k).size/\t2.fits (order.filterMap λ i=>(SetTable.insertAt ix (t.put j).2 k)[i]?).size=true then
     some (order.filterMap λ i=>(SetTable.insertAt ix (t.put j).2 k)[i]?,t2) else none
   | none=>none
  else some (SetTable.insertAt ix (t.put j).2 k,(t.put j).1)
 | _=>none
theorem r_O {hs:List Int} {ix ix':Array Nat} {t t':SetTable} {k:Nat} (e:addI hs ix t k=some (ix',t')):(t.gaveWay=false/\ix.size < 1000)/\∃ j,t.probe (λ i=>((ix[i]?).map λ j=>hs.getD j 0).getD 0) (hs.getD k 0) (t.probeStart (hs.getD k 0))=some (.empty j none) /\
  (t.put j).1.fits (SetTable.insertAt ix (t.put j).2 k).size=true/\(((t.put j).1.tooFull=false/\ix'=SetTable.insertAt ix (t.put j).2 k/\t'=(t.put j).1) \/
   ((t.put j).1.tooFull=true/\SetTable.sizeAbove (SetTable.grown (ix.size+1))<=sizeLine/\∃ order,(t.put j).1.relaid ((SetTable.insertAt ix (t.put j).2 k).map λ j=>hs.getD j 0) (SetTable.grown (ix.size+1))=some (t',order) /\
    ix'=(order.filterMap λ i=>(SetTable.insertAt ix (t.put j).2 k)[i]?)/\ix'.size=(SetTable.insertAt ix (t.put j).2 k).size/\t'.fits ix'.size=true)):=by
 unfold addI at e;split at e
 ·cases e
 ·next h0 =>
  refine ⟨⟨by simpa using λ z=>h0 (.inl z),by omega⟩,?_⟩;split at e
  ·next j hp =>
   refine ⟨j,hp,?_⟩;split at e
   ·cases e
   ·next h1 =>
    refine ⟨by simpa using h1,?_⟩;split at e
    ·next h2 =>
     split at e
     ·cases e
     ·next h3 =>
      split at e
      ·next t2 order hr =>
       split at e
       ·next h4 =>
        cases e;exact .inr ⟨h2,by omega,order,hr,rfl,h4.1,h4.2⟩
       ·cases e
      ·cases e
    ·next h2 =>
     cases e;exact .inl ⟨by simpa using h2,rfl,rfl⟩
  ·cases e
noncomputable def g_T (hs:List Int):Nat->Array Nat->SetTable->Nat->Option (Array Nat × SetTable)
 | 0,ix,t,_=>some (ix,t)
 | m+1,ix,t,k=>match addI hs ix t k with
  | some r=>g_T hs m r.1 r.2 (k+1)
  | none=>none
noncomputable def l_G (hs:List Int):Bool:=[true,false].all λ led=>match g_T hs hs.length #[] (.fresh 0 0 led) 0 with
 | some r=>decide (r.1.size=hs.length)
 | none=>false
noncomputable def esOf (hs:List Int) (vs:List Value) (ix:Array Nat):Array (Int × Value):=ix.map λ k=>(hs.getD k 0,vs.getD k .none)
theorem v_S (hs:List Int) (vs:List Value) (ix:Array Nat) (i:Nat):(esOf hs vs ix)[i]?=(ix[i]?).map λ k=>(hs.getD k 0,vs.getD k .none):=by
 unfold esOf;rw [Array.getElem?_map]
theorem e_m (hs:List Int) (vs:List Value) (ix:Array Nat):(esOf hs vs ix).size=ix.size:=by unfold esOf; simp
theorem v_T (hs:List Int) (vs:List Value) (ix:Array Nat) (p k:Nat):SetTable.insertAt (esOf hs vs ix) p (hs.getD k 0,vs.getD k .none)=esOf hs vs (SetTable.insertAt ix p k):=by
 unfold esOf SetTable.insertAt;simp [Array.map_append,Array.map_push,Array.map_extract]
theorem p_H (hs:List Int) (vs:List Value) (ix:Array Nat) (order:Array Nat):order.filterMap (λ i=>(esOf hs vs ix)[i]?)=esOf hs vs (order.filterMap λ i=>ix[i]?):=by
 unfold esOf;rw [Array.map_filterMap];congr 1
 funext i
 rw [Array.getElem?_map]
theorem u_l (hs:List Int) (vs:List Value) (ix:Array Nat):(esOf hs vs ix).map (·.1)=ix.map λ j=>hs.getD j 0:=by
 unfold esOf;rw [Array.map_map];rfl
noncomputable def e_W (h:Heap) (S:Addr) (es:Array (Int × Value)) (t:SetTable):Prop:=∃ o ep,h.get? S=some o/\o.ExactSet/\o.data=.set es ep t/\t.fits es.size=true
section
variable {prog:Program} {w:World} {E:Value->Shared->Prop}
theorem w_J:∀ (n m:Nat),n < m->∀ {A:Around} {s:Shared} {v:Value} {d:PyData} {as:List Addr} {Q:Bool->Shared->Prop},tT n d=true->Reads s.heap v d as->Q true s->wpAny (model prog w) A (hashByValue m v) Q E s:=by
 intro n
 induction n with
 | zero =>
  intro m _ A s v d as Q ht r h;cases r <;> simp [tT] at ht;cases m <;> exact zB h
 | succ n ih =>
  intro m hm A s v d as Q ht r h;cases r <;> simp only [tT,Bool.false_eq_true] at ht
  case int=>cases m <;> exact zB h
  case tuple a o vs k xs hg hc hd hr =>
   obtain ⟨m,rfl⟩:∃ j,m=j+1:=⟨m - 1,by omega⟩;have hT:s.TypeIs (.ref a) "tuple" := ⟨o,hg,hc⟩;unfold hashByValue;refine zA (wpAny_specialOf hT PySem.F.slot_tuple_hash.lookup ?_);show wpAny _ _ (seqItems? (.ref a) >>= _) _ _ s;refine zA (wpAny_seqItems hg hd ?_);refine zA ?_;show wpAny _ _ (forIn vs _ _) _ _ s;rw [← Array.forIn_toList];refine wpAny_forIn_list _ (λ rest q s'=>q.1=none/\s'=s/\∃ ys bs,ys.all (tT n)=true/\ReadsAll s.heap rest ys bs) _ ?_ ?_ _ _ ⟨rfl,rfl,xs,_,ht,hr⟩
   ·rintro u rest q s' ⟨hq,rfl,ys,bs,hy,hrs⟩;cases hrs with
    | cons r1 r2 =>
     rw [List.all_cons,Bool.and_eq_true] at hy;refine zA (ih m (by omega) hy.1 r1 ?_);simp only [Bool.not_true,Bool.false_eq_true,if_false];exact zB ⟨rfl,rfl,_,_,hy.2,r2⟩
   ·rintro ⟨r1,r2⟩ s' ⟨hq,rfl,_⟩;simp only at hq;subst hq;exact zB h
theorem l_H {h:Heap} {S:Addr} {o:Obj} {es:Array (Int × Value)} {ep:Nat} {t:SetTable} (ho:h.get? S=some o) (hex:o.ExactSet) (hd:o.data=.set es ep t) {es':Array (Int × Value)} {t':SetTable} (hf:t'.fits es'.size=true) :
  (h.update S (Obj.putSet es' t')).get? S=some { o with data:=.set es' (ep+1) t' }/\e_W (h.update S (Obj.putSet es' t')) S es' t':=by
 have hg:(h.update S (Obj.putSet es' t')).get? S=some { o with data:=.set es' (ep+1) t' }:=by
  have:=Heap.get?_update_self (Obj.putSet es' t') ho (by rw [putSet_of es' t' hd]; rfl);rw [putSet_of es' t' hd] at this; exact this
 exact ⟨hg,_,ep+1,hg,hex,rfl,hf⟩
theorem u_m {A:Around} {s:Shared} {S:Addr} {hs:List Int} {vs:List Value} {ix ix':Array Nat} {t t':SetTable} {k:Nat} {a:Addr} {d:PyData} {as:List Addr} {Q:Bool->Shared->Prop} (hS:e_W s.heap S (esOf hs vs ix) t) (hx:vs.getD k .none=.ref a) (td:tT 4 d=true) (rd:Reads s.heap (.ref a) d as) (hh:hs.getD k 0=c_S d) (hu:A.units+8 < cLine)
  (e:addI hs ix t k=some (ix',t')) (h:∀ h',Heap.SameBut S s.heap h'->e_W h' S (esOf hs vs ix') t'->Q true { s with heap:=h',toks:=s.toks+c_H d }):wpAny (model prog w) A (setAdd S (.ref a)) Q E s:=by
 unfold setAdd;refine wpAny_holding ?_;refine zA (v_a 4 td rd (by omega) ?_);rw [← hh];obtain ⟨o,ep,ho,hex,hd,hf⟩:=hS;unfold setAddHashed setAddHashedIn;refine wpAny_holding (zA (wpAny_setState_of (s:={ s with toks:=s.toks+c_H d }) ho hd hf ?_));dsimp only;rw [show byScan (.ref a) (esOf hs vs ix)=false from rfl];simp only [Bool.false_eq_true,if_false];obtain ⟨⟨i1,hz⟩,j,i2,i3,i4⟩:=r_O e;have hz1:(SetTable.insertAt ix (t.put j).2 k).size<=sizeLine:=by
  have:(SetTable.insertAt ix (t.put j).2 k).size<=2*ix.size+1:=by
   unfold SetTable.insertAt;simp;omega
  exact zS (show _<=2001 by omega) (by decide)
 refine zA ?_;unfold setSearch setSearchFrom;refine zA (wpAny_setState_of (s:={ s with toks:=s.toks+c_H d }) ho hd hf ?_);dsimp only;rw [i1];simp only [Bool.false_eq_true,if_false];have hp:∀ f:Nat->Int,(∀ i,f i=((ix[i]?).map λ j=>hs.getD j 0).getD 0)->t.probe f (hs.getD k 0) (t.probeStart (hs.getD k 0))=some (.empty j none):=λ f hf=>by rw [funext hf]; exact i2
 generalize hX:t.probe _ (hs.getD k 0) (none.getD (t.probeStart (hs.getD k 0)))=X;have eX:X=some (.empty j none):=by
  rw [← hX];refine hp _ λ i=>?_;show (((esOf hs vs ix)[i]?).map (·.1)).getD 0=_;rw [v_S];cases ix[i]? <;> rfl
 subst eX;dsimp only;refine zB ?_;dsimp only;refine zA (wpAny_setState_of (s:={ s with toks:=s.toks+c_H d }) ho hd hf ?_);dsimp only;have tail:∀ {P:Bool->Shared->Prop},(∀ h',Heap.SameBut S s.heap h'->e_W h' S (esOf hs vs ix') t'->P true { s with heap:=h',toks:=s.toks+c_H d })->wpAny (model prog w) A (do
   storeSet S (SetTable.insertAt (esOf hs vs ix) (t.put j).2 (hs.getD k 0,Value.ref a)) (t.put j).1
   if (!false && (t.put j).1.tooFull)=true then do
    setRelay S (SetTable.grown ((esOf hs vs ix).size+1))
    pure true
   else pure true) P E { s with toks:=s.toks+c_H d }:=by
  intro P hP;have e1:SetTable.insertAt (esOf hs vs ix) (t.put j).2 (hs.getD k 0,Value.ref a)=esOf hs vs (SetTable.insertAt ix (t.put j).2 k):=by rw [← hx]; exact v_T ..
  rw [e1,e_m];have hf1:(t.put j).1.fits (esOf hs vs (SetTable.insertAt ix (t.put j).2 k)).size=true:=by rw [e_m]; exact i3
  refine zA (wpAny_storeSet_of (s:={ s with toks:=s.toks+c_H d }) ho hd ?_ (by rw [e_m]; exact hz1));obtain ⟨ho1,hS1⟩:=l_H (es':=esOf hs vs (SetTable.insertAt ix (t.put j).2 k)) (t':=(t.put j).1) ho hex hd hf1;have hsb1:=Heap.SameBut.update s.heap S (Obj.putSet (esOf hs vs (SetTable.insertAt ix (t.put j).2 k)) (t.put j).1);rcases i4 with ⟨f1,f2,f3⟩ | ⟨f1,f2,order,f3,f4,f5,f6⟩
  ·rw [f1];simp only [Bool.not_false,Bool.and_false,Bool.false_eq_true,if_false];subst f2 f3;exact zB (hP _ hsb1 hS1)
  ·rw [f1];simp only [Bool.not_false,Bool.and_self,if_true];refine zA ?_;unfold setRelay;refine zA (wpAny_setState_of (s:={ s with heap:=s.heap.update S (Obj.putSet (esOf hs vs (SetTable.insertAt ix (t.put j).2 k)) (t.put j).1),toks:=s.toks+c_H d }) ho1 rfl hf1 ?_);dsimp only;rw [if_neg (by omega),u_l,f3];refine zA ?_;show wpAny _ _ (if ((order.filterMap λ i=>(esOf hs vs (SetTable.insertAt ix (t.put j).2 k))[i]?).size != (esOf hs vs (SetTable.insertAt ix (t.put j).2 k)).size)=true then _ else _) _ _ _;have e2:(order.filterMap λ i=>(esOf hs vs (SetTable.insertAt ix (t.put j).2 k))[i]?)=esOf hs vs ix':=by rw [p_H,← f4]
   rw [if_neg (by rw [e2,e_m,e_m,f5]; simp)];refine zB ?_;dsimp only;rw [e2];have hz2:(esOf hs vs ix').size<=sizeLine:=by rw [e_m,f5]; exact hz1
   refine wpAny_storeSet_of (s:={ s with heap:=s.heap.update S (Obj.putSet (esOf hs vs (SetTable.insertAt ix (t.put j).2 k)) (t.put j).1),toks:=s.toks+c_H d }) ho1 rfl ?_ hz2;obtain ⟨ho2,hS2⟩:=l_H (es':=esOf hs vs ix') (t':=t') ho1 hex rfl (by rw [e_m]; exact f6);exact zB (hP _ (hsb1.trans (Heap.SameBut.update _ S _)) hS2)
 split
 ·refine zA (w_J 4 8 (by decide) (s:={ s with toks:=s.toks+c_H d }) td rd ?_);exact tail h
 ·refine zA (zB ?_);exact tail h
end
theorem p_I {h h':Heap} (hk:∀ b o,h.get? b=some o->o.cls=.type "tuple" -> h'.get? b=some o):∀ (n:Nat) {v:Value} {d:PyData} {as:List Addr},tT n d=true->Reads h v d as->Reads h' v d as:=by
 intro n
 induction n with
 | zero =>
  intro v d as ht r;cases r <;> simp [tT] at ht;exact .int _ _
 | succ n ih =>
  have all:∀ (xs:List PyData) (vs:List Value) (as:List Addr),xs.all (tT n)=true->ReadsAll h vs xs as->ReadsAll h' vs xs as:=by
   intro xs
   induction xs with
   | nil=>intro vs as _ r; cases r; exact .nil
   | cons d ds ihr =>
    intro vs as ht r;cases r with
    | cons r1 r2 =>
     rw [List.all_cons,Bool.and_eq_true] at ht;exact .cons (ih ht.1 r1) (ihr _ _ ht.2 r2)
  intro v d as ht r;cases r <;> simp only [tT,Bool.false_eq_true] at ht
  case int=>exact .int _ _
  case tuple a o vs k xs hg hc hdd hr=>exact .tuple (hk a o hg hc) hc hdd (all _ _ _ ht hr)
noncomputable def i_u (h:Heap) (vs:List Value) (ds:List PyData):Prop:=vs.length=ds.length/\∀ (k:Nat) (d:PyData),ds[k]?=some d->tT 4 d=true/\∃ a as,vs[k]?=some (.ref a)/\Reads h (.ref a) d as
theorem i_u.off {h h':Heap} {vs:List Value} {ds:List PyData} (x:i_u h vs ds) (hk:∀ b o,h.get? b=some o->o.cls=.type "tuple" -> h'.get? b=some o):i_u h' vs ds :=
 ⟨x.1,λ k d e=>let ⟨t,a,as,e1,r⟩:=x.2 k d e; ⟨t,a,as,e1,p_I hk 4 t r⟩⟩
section
variable {prog:Program} {w:World} {A:Around} {R:Result->Shared->Prop} {I:Addr} {fp wr:List Addr} {G:Array GenState->Array GenState->Prop} {n:Nat} {P:Nat->Value->Prop} {St:Nat->Shared->Prop}
theorem e_W.cls {h:Heap} {S:Addr} {es:Array (Int × Value)} {t:SetTable} (x:e_W h S es t):∃ o,h.get? S=some o/\o.cls≠.type "tuple" := by
 obtain ⟨o,ep,ho,hex,_⟩:=x;exact ⟨o,ho,by rw [hex.1]; decide⟩
theorem v_U (W:WalksS prog w A.in1 I fp wr G n P St) (S:Addr) (hSf:S ∉ fp) {vs:List Value} {ds:List PyData} (hval:∀ i v,P i v->vs[i]?=some v) (hn:ds.length=n) (hu:A.units+24 < cLine)
  (hwr:∀ b∈wr,b=I) (hI:∀ i s,St i s->∃ o,s.heap.get? I=some o/\o.cls≠.type "tuple") (zs:Array Nat × SetTable) :
  ∀ (k i:Nat) (s:Shared) (ix:Array Nat) (t:SetTable),n - i=k->i<=n->St i s->e_W s.heap S (esOf (ds.map c_S) vs ix) t->i_u s.heap vs ds->g_T (ds.map c_S) (n - i) ix t i=some zs ->
   (∀ s',Moved (S :: wr) G s s'->e_W s'.heap S (esOf (ds.map c_S) vs zs.1) zs.2->R (.ok (.ret .none)) s') ->
   codeAny (model prog w) A (.builtin "set.update.loop" ⟨[.ref S,.ref I],[]⟩) R s:=by
 have hSw:S ∉ wr:=λ h=>hSf (W.sub _ h);have hsub:∀ b∈wr,b∈S :: wr:=λ b hb=>zN _ hb;intro k
 induction k with
 | zero =>
  intro i s ix t hk hi hst hS hT ha hR;have hin:i=n:=by omega
  subst hin;rw [Nat.sub_self] at ha;cases ha;refine codeAny_builtin PyProof.Rows.F.entry_set_update_loop ?_;rw [Around.under_plainId PyProof.Rows.F.plain_set_update_loop _];show wpAny _ A.in1 (pyNext (.ref I) >>= _) _ _ s;refine zA (W.done s _ _ hst λ s' hm=>?_);show wpAny _ A.in1 (ret Value.none) _ _ s';exact zB (hR s' (hm.mono hsub) (by
   obtain ⟨o,ep,ho,rest⟩:=hS;exact ⟨o,ep,hm.heap S _ hSw ho,rest⟩))
 | succ k ih =>
  intro i s ix t hk hi hst hS hT ha hR;have hlt:i < n:=by omega
  obtain ⟨oI,hoI,hcI⟩:=hI i s hst;rw [show n - i=(n - (i+1))+1 by omega] at ha;unfold g_T at ha;split at ha
  case h_2=>cases ha
  next r hr =>
  refine codeAny_builtin PyProof.Rows.F.entry_set_update_loop ?_;rw [Around.under_plainId PyProof.Rows.F.plain_set_update_loop _];show wpAny _ A.in1 (pyNext (.ref I) >>= _) _ _ s;refine zA (W.item i s _ _ hlt hst λ v s' hP hst' hm=>?_);obtain ⟨d,ed⟩:∃ d,ds[i]?=some d:=⟨_,List.getElem?_eq_getElem (by omega)⟩;have hT':i_u s'.heap vs ds:=hT.off λ b o e c=>hm.heap b o (λ hb=>by rw [hwr b hb,hoI] at e; cases e; exact hcI c) e;obtain ⟨td,a,as,ea,rd⟩:=hT'.2 i d ed;have ev:=hval i v hP;rw [ea] at ev;cases ev;have hS':e_W s'.heap S (esOf (ds.map c_S) vs ix) t:=by
   obtain ⟨o,ep,ho,rest⟩:=hS;exact ⟨o,ep,hm.heap S _ hSw ho,rest⟩
  obtain ⟨oS,hoS,hcS⟩:=hS'.cls;show wpAny _ A.in1 (holding [Value.ref a] (setAdd S (.ref a)) >>= _) _ _ s';refine zA (wpAny_holding ?_);refine u_m (A:=A.in1) (hs:=ds.map c_S) (vs:=vs) (ix:=ix) (t:=t) (k:=i) (d:=d) (as:=as) (ix':=r.1) (t':=r.2) hS' (by rw [List.getD_eq_getElem?_getD,ea]; rfl) td rd (by rw [List.getD_eq_getElem?_getD,zH,ed]; rfl) (by show A.units+1+8 < cLine; omega) hr λ h' hsb hS2=>?_;refine zB ⟨plainId_quiet PyProof.Rows.F.plain_set_update_loop _,ih (i+1) _ r.1 r.2 (by omega) hlt (W.frame _ s' _ _ hst' ?_ λ b hb o e=>?_) hS2 ?_ ha λ s'' hm'' hS''=>?_⟩
  ·exact Nat.le_add_right _ _
  ·rw [hsb.2 b (λ h:b=S=>hSf (by rw [← h]; exact hb))]; exact e
  ·exact hT'.off λ b o e c=>by rw [hsb.2 b λ z=>by rw [z,hoS] at e; cases e; exact hcS c]; exact e
  ·refine hR s'' (Moved.trans W.gtrans ((hm.mono hsub).then_heap ?_ λ b o hb e=>?_) hm'') hS''
   ·exact Nat.le_add_right _ _
   ·rw [hsb.2 b (λ h:b=S=>hb (by rw [h]; exact zU))]; exact e
end
theorem v_V {hs:List Int} {vs:List Value}:esOf hs vs #[]=#[]:=by unfold esOf; simp
section
variable {prog:Program} {w:World} {A:Around} {E:Value->Shared->Prop} {s:Shared}
set_option maxRecDepth 100000 in
set_option maxHeartbeats 3200000 in
theorem i_v {l:Addr} {items:Array Value} {ds:List PyData} {Q:Value->Shared->Prop} (hh:A.handled=none) (hu:A.units+48 < cLine) (hl:s.heap.IsList l items) (hT0:i_u s.heap items.toList ds) (hok:l_G (ds.map c_S)=true)
  (h:∀ (h':Heap) (tk:Nat) es t,e_W h' s.heap.objs.size es t->es.size=ds.length->(∀ b o,b < s.heap.objs.size->s.heap.get? b=some o->h'.get? b=some o)->Q (.ref s.heap.objs.size) { s with heap:=h',toks:=tk }) :
  wpAny (model prog w) A (call (.type "set") [.ref l]) Q E s:=by
 obtain ⟨c,tl,hmro⟩:=PySem.F.called_set.mro;have hmade:=PySem.F.called_set.made;have hsub:=PySem.F.called_set.sub;refine wpAny_call (codeAny_of_tree ?_);show wpAny _ _ (callAny (.type "set") _) _ _ _;refine zB ⟨Code.quiet_builtin _ (by decide +kernel),codeAny_builtin PySem.F.entry_type_call ?_⟩;rw [Around.under_plain (weight_type_call_type "set" [.ref l] []) rfl];have h1:=PySem.F.called_set.notType;have h2:=PySem.F.called_set.canCreate;have hct:=PySem.F.typeCall_set_1 (.ref l)
 repeat (any_goals (first | assumption | wp_step))
 refine codeAny_mono (code_set_new_1 (.ref l) (E:=E) (Q₁:=λ obj s₁=>∃ led:Bool,obj=.ref s.heap.objs.size/\s₁={ s with heap:=s.heap.push { cls:=.type "set",dict:=none,data:=.set #[] 0 (.fresh 0 0 led) } }) λ led=>⟨led,rfl,rfl⟩) λ r s₁ hr=>?_;cases r with
 | error e=>exact hr
 | ok fl =>
  cases fl with
  | ret obj =>
   obtain ⟨led,rfl,rfl⟩:=hr;have hS:(s.heap.push { cls:=.type "set",dict:=none,data:=.set #[] 0 (.fresh 0 0 led) }).get? s.heap.objs.size=some { cls:=.type "set",dict:=none,data:=.set #[] 0 (.fresh 0 0 led) }:=zF _ rfl;have hT:Shared.TypeIs { s with heap:=s.heap.push { cls:=.type "set",dict:=none,data:=.set #[] 0 (.fresh 0 0 led) } } (.ref s.heap.objs.size) "set" := ⟨_,hS,rfl⟩;have hli:=PySem.F.called_set.init.lookup;have hbi:=PySem.F.called_set.init.bind (.ref s.heap.objs.size)
   repeat (any_goals (first | assumption | wp_step))
   refine codeAny_mono (codeAny_call_builtin (R:=wants (λ r s₂=>r=.none/\∃ h' tk es t,s₂={ s with heap:=h',toks:=tk }/\e_W h' s.heap.objs.size es t/\es.size=ds.length /\
     (∀ b o,b < s.heap.objs.size->s.heap.get? b=some o->h'.get? b=some o)) E) PySem.F.called_set.init.plain PySem.F.entry_set_init (check_set_init_1 hT ?_)) λ r₂ s₂ hr₂=>?_
   ·obtain ⟨ol,hol,hcl,nl,hdl⟩:=hl;obtain ⟨ocls,odict,odata,oslots⟩:=ol;simp only at hcl hdl;subst hcl; subst hdl;have hol':(s.heap.push { cls:=.type "set",dict:=none,data:=.set #[] 0 (.fresh 0 0 led) }).get? l=some { cls:=.type "list",dict:=odict,data:=.seq items nl,slots:=oslots }:=zD _ hol;have hsls:=PySem.F.sub_list_set;have hslf:=PySem.F.sub_list_frozenset;have hne:(Value.type "list" == Value.type "dict")=false:=by decide
    have hl1:(s.heap.push { cls:=.type "set",dict:=none,data:=.set #[] 0 (.fresh 0 0 led) }).IsList l items:=⟨_,hol',rfl,nl,rfl⟩;have ⟨zs,hzs,hzn⟩:∃ zs,g_T (ds.map c_S) ds.length #[] (.fresh 0 0 led) 0=some zs/\zs.1.size=ds.length:=by
     simp only [l_G,List.all_cons,List.all_nil,Bool.and_true,Bool.and_eq_true,yI] at hok;have:∀ led:Bool,(match g_T (ds.map c_S) ds.length #[] (.fresh 0 0 led) 0 with | some r=>decide (r.1.size=ds.length) | none=>false)=true:=λ led=>match led with | true=>hok.1 | false=>hok.2
     have:=this led;split at this
     ·next r hr=>exact ⟨r,hr,by simpa using this⟩
     ·cases this
    have hil:items.size=ds.length:=by rw [← Array.length_toList]; exact hT0.1
    unfold Builtin.«set.__init__» noKeywords Builtin.Frozenset.updateFrom;generalize hPI:pyIter=PI
    wp_walk
    subst hPI;refine wpAny_pyIter_list hl1 ?_;refine zA (wpAny_runValue ?_);have hlS:l < s.heap.objs.size:=zE hol;have hh3:A.in1.in1.in1.handled=none:=by simp [hh]
    have hneI:l≠(s.heap.push { cls:=.type "set",dict:=none,data:=.set #[] 0 (.fresh 0 0 led) }).objs.size:=by
     rw [Heap.size_push]; exact Nat.ne_of_lt (Nat.lt_succ_of_lt hlS)
    have hSf:s.heap.objs.size ∉ [(s.heap.push { cls:=.type "set",dict:=none,data:=.set #[] 0 (.fresh 0 0 led) }).objs.size,l]:=by
     rw [Heap.size_push]; simp only [List.mem_cons,List.mem_singleton,List.not_mem_nil,or_false,not_or];exact ⟨Nat.ne_of_lt (Nat.lt_succ_self _),Nat.ne_of_gt hlS⟩
    refine v_U ((Walks.list hh3 _ l hneI items).toS) s.heap.objs.size hSf (vs:=items.toList) (ds:=ds) (λ i v hv=>?hv) hil.symm ?hu ?hwr ?hI zs (items.size - 0) 0 _ #[] (.fresh 0 0 led) (by omega) (Nat.zero_le _) ⟨⟨_,zF _ rfl,rfl,rfl⟩,(hl1.push _)⟩ ?hS0 ?hT1 ?hA ?hR
    case hv=>rw [Array.getElem?_toList]; exact hv
    case hu=>show A.units+1+1+24 < cLine; omega
    case hwr=>exact λ b hb=>List.mem_singleton.mp hb
    case hI =>
     rintro i s1 ⟨⟨o,e,c,_⟩,_⟩;exact ⟨o,e,by rw [c]; decide⟩
    case hS0=>rw [v_V]; exact ⟨_,0,zD _ hS,⟨rfl,rfl,rfl⟩,rfl,rfl⟩
    case hT1=>exact hT0.off λ b o e _=>zD _ (zD _ e)
    case hA=>rw [Nat.sub_zero,hil]; exact hzs
    case hR =>
     intro s' hm hS';obtain ⟨h',g',d',tk',os'⟩:=s';have eg:g'=s.gens:=hm.gens;have ed:d'=s.drawn:=hm.drawn;have eo:os'=s.os:=hm.os;subst eg; subst ed; subst eo;show wpAny _ _ _ _ _ _;refine zB ?_;show wpAny _ _ (ret Value.none) _ _ _;refine zB ⟨rfl,h',tk',_,_,rfl,hS',by rw [e_m]; exact hzn,λ b o hb e=>?_⟩;have hb1:b≠s.heap.objs.size:=Nat.ne_of_lt hb;have hb2:b≠(s.heap.push { cls:=.type "set",dict:=none,data:=.set #[] 0 (.fresh 0 0 led) }).objs.size:=by
      rw [Heap.size_push]; exact Nat.ne_of_lt (Nat.lt_succ_of_lt hb)
     exact hm.heap b o (by simp only [List.mem_cons,List.mem_singleton,List.not_mem_nil,or_false,not_or]; exact ⟨hb1,hb2⟩) (zD _ (zD _ e))
   ·cases r₂ with
    | error e=>exact hr₂
    | ok fl₂ =>
     cases fl₂ with
     | ret r =>
      obtain ⟨rfl,h',tk,es,t,rfl,hS',hn',hk'⟩:=hr₂
      repeat (any_goals (first | assumption | wp_step))
      exact h _ _ es t hS' hn' hk'
     | _=>exact hr₂.elim
  | _=>exact hr.elim
end
noncomputable def setO (a:Addr) (n:Nat):HO:=.ext λ h=>∃ es t,e_W h a es t/\es.size=n
noncomputable def w_K (K:Frag):List V->Hp->VK->Prop:=λ xs H Q=>∃ (l:Addr) (ps:List (V × PyData)),xs=[.ref l]/\SqL K H l (ps.map (·.1))/\(∀ p∈ps,tT 4 p.2=true/\Dt K H p.1 p.2/\∃ q,p.1=V.ref q)/\l_G ((ps.map (·.2)).map c_S)=true/\∀ r H',Same H H'->H r=none->H' r=some (setO r ps.length)->Q (.ref r) H'
noncomputable def w_L:List V->Hp->VK->Prop:=λ xs H Q=>∃ r n,xs=[.ref r]/\H r=some (setO r n)/\n<=1000/\Q (.int n) H
section
variable {X:Cx}
theorem r_P {pins:List (Addr × Obj)} {σ:St} {H:Hp} {s:Shared} (I:Inv X pins σ H s):∀ {ps:List (V × PyData)} {its:List Value},Vals (ps.map (·.1)) its->(∀ p∈ps,tT 4 p.2=true/\Dt X.K H p.1 p.2/\∃ q,p.1=V.ref q)->i_u s.heap its (ps.map (·.2))
 | [],_,.nil,_=>⟨rfl,λ k d e=>by simp at e⟩
 | p :: ps,u :: us,.cons r1 r2,h=>by
  obtain ⟨i1,i2⟩:=r_P I r2 λ x hx=>h x (.tail _ hx);refine ⟨by simp only [List.length_cons,List.map_cons,i1],λ k d e=>?_⟩;cases k with
  | zero =>
   obtain ⟨t1,t2,q,eq⟩:=h p (.head _);cases e;obtain ⟨as,rd⟩:=t2.reads I r1;have r1':RelV p.1 u:=r1;rw [eq] at r1';cases r1';exact ⟨t1,q,as,rfl,rd⟩
  | succ k=>simpa using i2 k d (by simpa using e)
theorem p_J (hu:X.A.units+64 < cLine) (hc:X.calm=true):c_O X (.type "set") (w_K X.K):=by
 intro pins s σ H xs us Q I r h;obtain ⟨l,ps,rfl,hq,ht,hok,q⟩:=h;obtain ⟨u,rfl,rx⟩:=e_T r;cases rx;obtain ⟨its,rv,⟨o,n0,e,c,od,dd⟩,hz⟩:=I.list hq;refine i_v (items:=its.toArray) (ds:=ps.map (·.2)) (I.ok.hd hc) (by omega) ⟨o,e,c,n0,dd⟩ (by simpa using r_P I rv ht) hok λ h' tk es t hS hn hk=>?_;rw [yI] at hn;have hf:H s.heap.objs.size=none:=I.hok.fresh (zL _);have sm:Same H (upd H s.heap.objs.size (setO s.heap.objs.size ps.length)):=Same.new hf;obtain ⟨oS,ep,ho,hx⟩:=id hS;refine ⟨.ref s.heap.objs.size,_,I.laid (a:=s.heap.objs.size) (o:=setO s.heap.objs.size ps.length) (t':=tk) (λ b o e=>hk b o (zE e) e) (zL _) ⟨⟨es,t,hS,hn⟩,⟨oS,ho⟩,λ g1 g2 ⟨es',t',⟨o',ep',z1,z2⟩,z3⟩ k=>⟨es',t',⟨o',ep',k o' z1,z2⟩,z3⟩⟩,rfl,?_⟩;exact q _ _ sm hf a_F
theorem p_K:c_O X (.builtin "len") w_L:=by
 intro pins s σ H xs us Q I rv h;obtain ⟨r,n,rfl,e,hn,q⟩:=h;obtain ⟨u,rfl,ru⟩:=rv.one;cases ru;obtain ⟨⟨es,t,⟨o,ep,ho,hex,hd,hf⟩,hz⟩,_⟩:=(show c_A X.prog X.w H s.heap r (setO r n) from I.hok r _ e);refine call_len_set ho hex hd hf (by omega) ?_;rw [hz];exact ⟨.int n,H,I.tok _,⟨_,rfl⟩,q⟩
end
end L2
namespace Cw
open PySem L2
abbrev pa':List Str:=["_law_group","_law_makers","_law_members"]
abbrev pb':List Str:=["self","d","makers","most"]
abbrev pc':List Str:=["_law_one","_law_other"]
abbrev pd':List Str:=["_law_script","_law_k"]
abbrev pe':List Str:=["rows","tops","under"]
abbrev pf':List Str:=["d","makers","most"]
abbrev pg':List Str:=["_law_number_here"]
abbrev ph':List Str:=["part","letters"]
abbrev pi':List Str:=["tops","under"]
abbrev pj':List Str:=["rows","i","k"]
abbrev pk':List Str:=["one","other"]
abbrev pl':List Str:=["rows","spot"]
abbrev pm':List Str:=["_law_script"]
abbrev pn':List Str:=["one","spot"]
abbrev pp':List Str:=["d","makers"]
abbrev pq':List Str:=["self","one"]
abbrev pr':List Str:=["_law_found"]
abbrev pt':List Str:=["_law_one"]
abbrev pu':List Str:=["_law_e"]
abbrev pv':List Str:=["rows"]
abbrev pw':List Str:=["self"]
abbrev px':List Str:=["text"]
abbrev py':List Str:=["one"]
open PySem.W (nsIn keepIn codeIn findIn fnOf mg_of kitOne)
open PyProof.Rows (mulOk_of_bits)
theorem zqe {α β:Type} {l:List α} {f:α->β}:(l.map f).length=l.length:=yI ..
theorem zqa {α:Type} {l:List α} {i:Nat} {a:α} (h:l[i]?=some a):∃ h:i < l.length,l[i]=a:=List.getElem?_eq_some_iff.mp h
theorem zqb {α:Type} {l:List α} {i:Nat} {a:α} (h:l[i]?=some a):a∈l:=List.mem_of_getElem? h
theorem zqc {α:Type} {l:List α} {i:Nat} {a:α}:l.getD i a=l[i]?.getD a:=List.getD_eq_getElem?_getD
theorem zqd {α:Type} {l:List α} {i:Nat} (h:i < l.length):l[i]?=some l[i]:=List.getElem?_eq_getElem h
open PySem.W (Frag)
abbrev LM:=List (List Int)
noncomputable def top (i:Nat):Stmt:=PySem.Challenge.pw_crystalwords_k71_the_seventeen.main.body.getD i (.Pass ⟨0,0,0,0⟩)
noncomputable abbrev s_v:Stmt:=top 10
noncomputable abbrev N_v:List Str:=["one","other","greater","lesser","remainder"]
noncomputable abbrev s_12:Stmt:=top 12
noncomputable abbrev N_12:List Str:=["tops","under","common","top"]
noncomputable abbrev s_h:Stmt:=top 13
noncomputable abbrev N_h:List Str:=["one","under"]
noncomputable abbrev s_i:Stmt:=top 15
noncomputable abbrev N_i:List Str:=["size"]
noncomputable abbrev s_1a:Stmt:=top 16
noncomputable abbrev N_1a:List Str:=pk'
noncomputable abbrev s_11:Stmt:=top 17
noncomputable abbrev N_11:List Str:=pv'
noncomputable abbrev s_w:Stmt:=top 18
noncomputable abbrev N_w:List Str:=pj'
noncomputable abbrev s_2:Stmt:=top 19
noncomputable abbrev N_2:List Str:=["rows","total","sign","k","number"]
noncomputable abbrev s_x:Stmt:=top 21
noncomputable abbrev N_x:List Str:=pl'
noncomputable abbrev s_18:Stmt:=top 22
noncomputable abbrev N_18:List Str:=["rows","tops","under","axes"]
noncomputable abbrev s_14:Stmt:=top 23
noncomputable abbrev N_14:List Str:=["d"]
noncomputable abbrev s_13:Stmt:=top 24
noncomputable abbrev N_13:List Str:=["one","spot","tops"]
noncomputable abbrev s_10:Stmt:=top 25
noncomputable abbrev N_10:List Str:=["one","other","columns","rows"]
noncomputable abbrev s_16:Stmt:=top 26
noncomputable abbrev N_16:List Str:=py'
noncomputable abbrev s_k:Stmt:=top 29
noncomputable abbrev N_k:List Str:=["most"]
noncomputable abbrev s_j:Stmt:=top 30
noncomputable abbrev N_j:List Str:=["d","makers","maker"]
noncomputable abbrev s_y:Stmt:=top 31
noncomputable abbrev N_y:List Str:=["d","makers","most","steps","found","words","at","number","step","reached"]
noncomputable abbrev s_0:Stmt:=f_M (top 32) 0
noncomputable abbrev N_0:List Str:=["self","d","makers","most","words"]
noncomputable abbrev s_m:Stmt:=f_M (top 32) 1
noncomputable abbrev N_m:List Str:=pw'
noncomputable abbrev s_7:Stmt:=f_M (top 32) 2
noncomputable abbrev N_7:List Str:=pw'
noncomputable abbrev s_3:Stmt:=f_M (top 32) 3
noncomputable abbrev N_3:List Str:=pw'
noncomputable abbrev s_d:Stmt:=f_M (top 32) 4
noncomputable abbrev N_d:List Str:=pw'
noncomputable abbrev s_s:Stmt:=f_M (top 32) 5
noncomputable abbrev N_s:List Str:=pq'
noncomputable abbrev s_9:Stmt:=top 37
noncomputable abbrev N_9:List Str:=["text","sign"]
noncomputable abbrev s_1:Stmt:=top 38
noncomputable abbrev N_1:List Str:=["text","pieces","top","bottom"]
noncomputable abbrev s_c:Stmt:=top 39
noncomputable abbrev N_c:List Str:=["text","pair"]
noncomputable abbrev s_8:Stmt:=top 40
noncomputable abbrev N_8:List Str:=px'
noncomputable abbrev s_u:Stmt:=top 41
noncomputable abbrev N_u:List Str:=["part","terms"]
noncomputable abbrev s_o:Stmt:=top 42
noncomputable abbrev N_o:List Str:=["part","letters","row","alone","term","at"]
noncomputable abbrev s_t:Stmt:=top 43
noncomputable abbrev N_t:List Str:=["text","parts"]
noncomputable abbrev s_4:Stmt:=top 44
noncomputable abbrev N_4:List Str:=["pairs","under","pair"]
noncomputable abbrev s_17:Stmt:=top 45
noncomputable abbrev N_17:List Str:=["text","parts","told","spot"]
noncomputable abbrev s_e:Stmt:=top 48
noncomputable abbrev N_e:List Str:=["number"]
noncomputable abbrev s_f:Stmt:=top 50
noncomputable abbrev N_f:List Str:=pd'
noncomputable abbrev s_p:Stmt:=top 51
noncomputable abbrev N_p:List Str:=pr'
noncomputable abbrev s_g:Stmt:=top 52
noncomputable abbrev N_g:List Str:=pc'
noncomputable abbrev s_n:Stmt:=top 53
noncomputable abbrev N_n:List Str:=["_law_number_here","_law_half","_law_side","_law_swap","_law_slant","_law_quarter","_law_third","_law_sixth","_law_some"]
noncomputable abbrev s_5:Stmt:=top 54
noncomputable abbrev N_5:List Str:=["_law_one","_law_other","_law_put","_law_tops","_law_row","_law_top","_law_far","_law_under","_law_by"]
noncomputable abbrev s_q:Stmt:=top 55
noncomputable abbrev N_q:List Str:=pt'
noncomputable abbrev s_b:Stmt:=top 56
noncomputable abbrev N_b:List Str:=["_law_one","_law_some","_law_number_here"]
noncomputable abbrev s_a:Stmt:=top 57
noncomputable abbrev N_a:List Str:=["_law_group","_law_makers","_law_members","_law_told_here","_law_one","_law_word","_law_here","_law_k"]
noncomputable abbrev s_r:Stmt:=top 58
noncomputable abbrev N_r:List Str:=pu'
noncomputable abbrev s_6:Stmt:=top 59
noncomputable abbrev N_6:List Str:=["_law_number_here","_law_refused_here","_law_only_here","_law_e"]
noncomputable abbrev s_l:Stmt:=top 60
noncomputable abbrev N_l:List Str:=["_law_script","_law_first"]
noncomputable abbrev s_19:Stmt:=top 61
noncomputable abbrev N_19:List Str:=["_law_script","_law_number_here","_law_makers","_law_group","_law_members","_law_many","_law_one","_law_maker","_law_here","_law_cell"]
local macro_rules | `(tactic| walk_at "s")=>`(tactic| exact ⟨rfl,rfl,rfl,by decide +kernel,rfl,by decide +kernel,by decide +kernel⟩)
local macro_rules | `(tactic| walk_at "v")=>`(tactic| (intro _ _ _ _ h; first | (obtain ⟨_,hh,_⟩:=h; subst hh; rfl) | (obtain ⟨_,_,hh,_⟩:=h; subst hh; rfl) | (obtain ⟨_,_,_,hh,_⟩:=h; subst hh; rfl) | (obtain ⟨_,_,_,_,hh,_⟩:=h; subst hh; rfl) | (obtain ⟨_,_,_,_,_,hh,_⟩:=h; subst hh; rfl) | (obtain ⟨_,_,_,_,_,_,hh,_⟩:=h; subst hh; rfl) | (obtain ⟨_,_,_,_,_,_,_,hh,_⟩:=h; subst hh; rfl) | (obtain ⟨_,_,_,_,_,_,_,_,hh,_⟩:=h; subst hh; rfl) | (obtain ⟨_,_,_,_,_,_,_,_,_,hh,_⟩:=h; subst hh; rfl)))
theorem sc_v:a_M N_v pk' (a_B s_v):=by walk_at "s"
theorem sc_12:a_M N_12 pi' (a_B s_12):=by walk_at "s"
theorem sc_h:a_M N_h py' (a_B s_h):=by walk_at "s"
theorem sc_i:a_M N_i ["size"] (a_B s_i):=by walk_at "s"
theorem sc_1a:a_M N_1a pk' (a_B s_1a):=by walk_at "s"
theorem sc_11:a_M N_11 pv' (a_B s_11):=by walk_at "s"
theorem sc_w:a_M N_w pj' (a_B s_w):=by walk_at "s"
theorem sc_2:a_M N_2 pv' (a_B s_2):=by walk_at "s"
theorem sc_x:a_M N_x pl' (a_B s_x):=by walk_at "s"
theorem sc_18:a_M N_18 pe' (a_B s_18):=by walk_at "s"
theorem sc_14:a_M N_14 ["d"] (a_B s_14):=by walk_at "s"
theorem sc_13:a_M N_13 pn' (a_B s_13):=by walk_at "s"
theorem sc_10:a_M N_10 pk' (a_B s_10):=by walk_at "s"
theorem sc_16:a_M N_16 py' (a_B s_16):=by walk_at "s"
theorem sc_k:a_M N_k ["most"] (a_B s_k):=by walk_at "s"
theorem sc_j:a_M N_j pp' (a_B s_j):=by walk_at "s"
theorem sc_y:a_M N_y pf' (a_B s_y):=by walk_at "s"
theorem sc_0:a_M N_0 pb' (a_B s_0):=by walk_at "s"
theorem sc_m:a_M N_m pw' (a_B s_m):=by walk_at "s"
theorem sc_7:a_M N_7 pw' (a_B s_7):=by walk_at "s"
theorem sc_3:a_M N_3 pw' (a_B s_3):=by walk_at "s"
theorem sc_d:a_M N_d pw' (a_B s_d):=by walk_at "s"
theorem sc_s:a_M N_s pq' (a_B s_s):=by walk_at "s"
theorem sc_9:a_M N_9 px' (a_B s_9):=by walk_at "s"
theorem sc_1:a_M N_1 px' (a_B s_1):=by walk_at "s"
theorem sc_c:a_M N_c px' (a_B s_c):=by walk_at "s"
theorem sc_8:a_M N_8 px' (a_B s_8):=by walk_at "s"
theorem sc_u:a_M N_u ["part"] (a_B s_u):=by walk_at "s"
theorem sc_o:a_M N_o ph' (a_B s_o):=by walk_at "s"
theorem sc_t:a_M N_t px' (a_B s_t):=by walk_at "s"
theorem sc_4:a_M N_4 ["pairs"] (a_B s_4):=by walk_at "s"
theorem sc_17:a_M N_17 px' (a_B s_17):=by walk_at "s"
theorem sc_e:a_M N_e ["number"] (a_B s_e):=by walk_at "s"
theorem sc_f:a_M N_f pd' (a_B s_f):=by walk_at "s"
theorem sc_p:a_M N_p pr' (a_B s_p):=by walk_at "s"
theorem sc_g:a_M N_g pc' (a_B s_g):=by walk_at "s"
theorem sc_n:a_M N_n pg' (a_B s_n):=by walk_at "s"
theorem sc_5:a_M N_5 pc' (a_B s_5):=by walk_at "s"
theorem sc_q:a_M N_q pt' (a_B s_q):=by walk_at "s"
theorem sc_b:a_M N_b pt' (a_B s_b):=by walk_at "s"
theorem sc_a:a_M N_a pa' (a_B s_a):=by walk_at "s"
theorem sc_r:a_M N_r pu' (a_B s_r):=by walk_at "s"
theorem sc_6:a_M N_6 pg' (a_B s_6):=by walk_at "s"
theorem sc_l:a_M N_l pm' (a_B s_l):=by walk_at "s"
theorem sc_19:a_M N_19 pm' (a_B s_19):=by walk_at "s"
set_option genInjectivity false in
structure Adr where
 a_v:Addr
 d_v:FuncData
 a_12:Addr
 d_12:FuncData
 a_h:Addr
 d_h:FuncData
 a_i:Addr
 d_i:FuncData
 a_1a:Addr
 d_1a:FuncData
 a_11:Addr
 d_11:FuncData
 a_w:Addr
 d_w:FuncData
 a_2:Addr
 d_2:FuncData
 a_x:Addr
 d_x:FuncData
 a_18:Addr
 d_18:FuncData
 a_14:Addr
 d_14:FuncData
 a_13:Addr
 d_13:FuncData
 a_10:Addr
 d_10:FuncData
 a_16:Addr
 d_16:FuncData
 a_k:Addr
 d_k:FuncData
 a_j:Addr
 d_j:FuncData
 a_y:Addr
 d_y:FuncData
 a_0:Addr
 d_0:FuncData
 a_m:Addr
 d_m:FuncData
 a_7:Addr
 d_7:FuncData
 a_3:Addr
 d_3:FuncData
 a_d:Addr
 d_d:FuncData
 a_s:Addr
 d_s:FuncData
 a_9:Addr
 d_9:FuncData
 a_1:Addr
 d_1:FuncData
 a_c:Addr
 d_c:FuncData
 a_8:Addr
 d_8:FuncData
 a_u:Addr
 d_u:FuncData
 a_o:Addr
 d_o:FuncData
 a_t:Addr
 d_t:FuncData
 a_4:Addr
 d_4:FuncData
 a_17:Addr
 d_17:FuncData
 a_e:Addr
 d_e:FuncData
 a_f:Addr
 d_f:FuncData
 a_p:Addr
 d_p:FuncData
 a_g:Addr
 d_g:FuncData
 a_n:Addr
 d_n:FuncData
 a_5:Addr
 d_5:FuncData
 a_q:Addr
 d_q:FuncData
 a_b:Addr
 d_b:FuncData
 a_a:Addr
 d_a:FuncData
 a_r:Addr
 d_r:FuncData
 a_6:Addr
 d_6:FuncData
 a_l:Addr
 d_l:FuncData
 a_19:Addr
 d_19:FuncData
 a_1d:Addr
 a_1e:Addr
 a_1c:Addr
 a_15:Addr
 a_1b:Addr
 a_1f:Addr
 a_z:Addr
 a_MAKERS:Addr
 k_0:Tok
structure Txt (K:Frag) (mg:Str->Option Value) (t:Adr):Prop where
 F_v:Fun K "divisor" "divisor" s_v t.a_v t.d_v
 m_v:mg "divisor" = some (.ref t.a_v)
 b_v:a_X K t.d_v pk' []
 F_12:Fun K "place" "place" s_12 t.a_12 t.d_12
 m_12:mg "place" = some (.ref t.a_12)
 b_12:a_X K t.d_12 pi' []
 F_h:Fun K "rest_place" "rest_place" s_h t.a_h t.d_h
 m_h:mg "rest_place" = some (.ref t.a_h)
 b_h:a_X K t.d_h py' []
 F_i:Fun K "still_rows" "still_rows" s_i t.a_i t.d_i
 m_i:mg "still_rows" = some (.ref t.a_i)
 b_i:a_X K t.d_i ["size"] []
 F_1a:Fun K "dot" "dot" s_1a t.a_1a t.d_1a
 m_1a:mg "dot" = some (.ref t.a_1a)
 b_1a:a_X K t.d_1a pk' []
 F_11:Fun K "turned" "turned" s_11 t.a_11 t.d_11
 m_11:mg "turned" = some (.ref t.a_11)
 b_11:a_X K t.d_11 pv' []
 F_w:Fun K "without" "without" s_w t.a_w t.d_w
 m_w:mg "without" = some (.ref t.a_w)
 b_w:a_X K t.d_w pj' []
 F_2:Fun K "determinant" "determinant" s_2 t.a_2 t.d_2
 m_2:mg "determinant" = some (.ref t.a_2)
 b_2:a_X K t.d_2 pv' []
 F_x:Fun K "joined" "joined" s_x t.a_x t.d_x
 m_x:mg "joined" = some (.ref t.a_x)
 b_x:a_X K t.d_x pl' []
 F_18:Fun K "deed" "deed" s_18 t.a_18 t.d_18
 m_18:mg "deed" = some (.ref t.a_18)
 b_18:a_X K t.d_18 pe' []
 F_14:Fun K "still" "still" s_14 t.a_14 t.d_14
 m_14:mg "still" = some (.ref t.a_14)
 b_14:a_X K t.d_14 ["d"] []
 F_13:Fun K "moved" "moved" s_13 t.a_13 t.d_13
 m_13:mg "moved" = some (.ref t.a_13)
 b_13:a_X K t.d_13 pn' []
 F_10:Fun K "behind" "behind" s_10 t.a_10 t.d_10
 m_10:mg "behind" = some (.ref t.a_10)
 b_10:a_X K t.d_10 pk' []
 F_16:Fun K "rest" "rest" s_16 t.a_16 t.d_16
 m_16:mg "rest" = some (.ref t.a_16)
 b_16:a_X K t.d_16 py' []
 F_k:Fun K "check_most" "check_most" s_k t.a_k t.d_k
 m_k:mg "check_most" = some (.ref t.a_k)
 b_k:a_X K t.d_k ["most"] []
 F_j:Fun K "check_axes" "check_axes" s_j t.a_j t.d_j
 m_j:mg "check_axes" = some (.ref t.a_j)
 b_j:a_X K t.d_j pp' []
 F_y:Fun K "closed" "closed" s_y t.a_y t.d_y
 m_y:mg "closed" = some (.ref t.a_y)
 b_y:a_X K t.d_y pf' []
 F_0:FunD K "__init__" "Group.__init__" s_0 t.a_0 t.d_0 [.int 200 t.k_0]
 bd_Group___init__:a_X K t.d_0 pb' [.int 200 t.k_0]
 b_0:a_X K t.d_0 pb' []
 F_m:Fun K "axes" "Group.axes" s_m t.a_m t.d_m
 b_m:a_X K t.d_m pw' []
 F_7:Fun K "makers" "Group.makers" s_7 t.a_7 t.d_7
 b_7:a_X K t.d_7 pw' []
 F_3:Fun K "members" "Group.members" s_3 t.a_3 t.d_3
 b_3:a_X K t.d_3 pw' []
 F_d:Fun K "words" "Group.words" s_d t.a_d t.d_d
 b_d:a_X K t.d_d pw' []
 F_s:Fun K "at" "Group.at" s_s t.a_s t.d_s
 b_s:a_X K t.d_s pq' []
 F_9:Fun K "read_whole" "read_whole" s_9 t.a_9 t.d_9
 m_9:mg "read_whole" = some (.ref t.a_9)
 b_9:a_X K t.d_9 px' []
 F_1:Fun K "read_fraction" "read_fraction" s_1 t.a_1 t.d_1
 m_1:mg "read_fraction" = some (.ref t.a_1)
 b_1:a_X K t.d_1 px' []
 F_c:Fun K "read_signed" "read_signed" s_c t.a_c t.d_c
 m_c:mg "read_signed" = some (.ref t.a_c)
 b_c:a_X K t.d_c px' []
 F_8:Fun K "read_amount" "read_amount" s_8 t.a_8 t.d_8
 m_8:mg "read_amount" = some (.ref t.a_8)
 b_8:a_X K t.d_8 px' []
 F_u:Fun K "terms_of" "terms_of" s_u t.a_u t.d_u
 m_u:mg "terms_of" = some (.ref t.a_u)
 b_u:a_X K t.d_u ["part"] []
 F_o:Fun K "read_part" "read_part" s_o t.a_o t.d_o
 m_o:mg "read_part" = some (.ref t.a_o)
 b_o:a_X K t.d_o ph' []
 F_t:Fun K "parts_of" "parts_of" s_t t.a_t t.d_t
 m_t:mg "parts_of" = some (.ref t.a_t)
 b_t:a_X K t.d_t px' []
 F_4:Fun K "common_under" "common_under" s_4 t.a_4 t.d_4
 m_4:mg "common_under" = some (.ref t.a_4)
 b_4:a_X K t.d_4 ["pairs"] []
 F_17:Fun K "read" "read" s_17 t.a_17 t.d_17
 m_17:mg "read" = some (.ref t.a_17)
 b_17:a_X K t.d_17 px' []
 F_e:Fun K "told_group" "told_group" s_e t.a_e t.d_e
 m_e:mg "told_group" = some (.ref t.a_e)
 b_e:a_X K t.d_e ["number"] []
 F_f:Fun K "_law_cell_at" "_law_cell_at" s_f t.a_f t.d_f
 m_f:mg "_law_cell_at" = some (.ref t.a_f)
 b_f:a_X K t.d_f pd' []
 F_p:Fun K "_law_whole" "_law_whole" s_p t.a_p t.d_p
 m_p:mg "_law_whole" = some (.ref t.a_p)
 b_p:a_X K t.d_p pr' []
 F_g:Fun K "_law_common" "_law_common" s_g t.a_g t.d_g
 m_g:mg "_law_common" = some (.ref t.a_g)
 b_g:a_X K t.d_g pc' []
 F_n:Fun K "_law_told" "_law_told" s_n t.a_n t.d_n
 m_n:mg "_law_told" = some (.ref t.a_n)
 b_n:a_X K t.d_n pg' []
 F_5:Fun K "_law_behind" "_law_behind" s_5 t.a_5 t.d_5
 m_5:mg "_law_behind" = some (.ref t.a_5)
 b_5:a_X K t.d_5 pc' []
 F_q:Fun K "_law_rest" "_law_rest" s_q t.a_q t.d_q
 m_q:mg "_law_rest" = some (.ref t.a_q)
 b_q:a_X K t.d_q pt' []
 F_b:Fun K "_law_numbers" "_law_numbers" s_b t.a_b t.d_b
 m_b:mg "_law_numbers" = some (.ref t.a_b)
 b_b:a_X K t.d_b pt' []
 F_a:Fun K "_law_words" "_law_words" s_a t.a_a t.d_a
 m_a:mg "_law_words" = some (.ref t.a_a)
 b_a:a_X K t.d_a pa' []
 F_r:Fun K "_law_only" "_law_only" s_r t.a_r t.d_r
 m_r:mg "_law_only" = some (.ref t.a_r)
 b_r:a_X K t.d_r pu' []
 F_6:Fun K "_law_refused" "_law_refused" s_6 t.a_6 t.d_6
 m_6:mg "_law_refused" = some (.ref t.a_6)
 b_6:a_X K t.d_6 pg' []
 F_l:Fun K "_law_number" "_law_number" s_l t.a_l t.d_l
 m_l:mg "_law_number" = some (.ref t.a_l)
 b_l:a_X K t.d_l pm' []
 F_19:Fun K "law" "law" s_19 t.a_19 t.d_19
 m_19:mg "law" = some (.ref t.a_19)
 b_19:a_X K t.d_19 pm' []
 z_any:mg "any" = none
 z_sum:mg "sum" = none
 z_zip:mg "zip" = none
 z_enumerate:mg "enumerate" = none
 z_range:mg "range" = none
 z_len:mg "len" = none
 z_abs:mg "abs" = none
 z_isinstance:mg "isinstance" = none
 z_int:mg "int" = none
 z_bool:mg "bool" = none
 z_list:mg "list" = none
 z_tuple:mg "tuple" = none
 z_max:mg "max" = none
 z_str:mg "str" = none
 z_sorted:mg "sorted" = none
 z_dict:mg "dict" = none
 z_set:mg "set" = none
 m_1d:mg "CrystalError" = some (.ref t.a_1d)
 m_1e:mg "NoPlace" = some (.ref t.a_1e)
 m_1c:mg "NoDeed" = some (.ref t.a_1c)
 m_15:mg "NoNumber" = some (.ref t.a_15)
 m_1b:mg "NoText" = some (.ref t.a_1b)
 m_1f:mg "TooMany" = some (.ref t.a_1f)
 m_z:mg "Group" = some (.ref t.a_z)
 m_MAKERS:mg "MAKERS" = some (.ref t.a_MAKERS)
 g_MOST_MEMBERS:∃ u,mg "MOST_MEMBERS" = some u/\RelV (.int 200) u
 g_LETTERS:∃ u,mg "LETTERS" = some u/\RelV (.str "xyz") u
 g_FIGURES:∃ u,mg "FIGURES" = some u/\RelV (.str "0123456789") u
 g_MOST_FIGURES:∃ u,mg "MOST_FIGURES" = some u/\RelV (.int 100) u
 h_k:kitOne K (.type "int") (.type "int")=some true
 h_l:kitOne K (.type "int") (.type "bool")=some false
 h_m:kitOne K (.type "tuple") (.type "tuple")=some true
 h_n:kitOne K (.type "list") (.type "list")=some true
 x_1e:PySem.W.excIn K t.a_1e [.type "ValueError",.type "Exception",.type "BaseException",.type "object"] "ValueError.__new__" = true
 x_1c:PySem.W.excIn K t.a_1c [.type "ValueError",.type "Exception",.type "BaseException",.type "object"] "ValueError.__new__" = true
 x_1b:PySem.W.excIn K t.a_1b [.type "ValueError",.type "Exception",.type "BaseException",.type "object"] "ValueError.__new__" = true
 cl_z:L2.Cls K t.a_z
 mk_z:L2.Mk K t.a_z t.a_0
 me_3:L2.Meth K t.a_z "members" t.a_3
 h_4:findIn K (.ref t.a_z) "dimension" = some none
 h_h:findIn K (.ref t.a_z) "given" = some none
 h_7:findIn K (.ref t.a_z) "ordered" = some none
 h_5:findIn K (.ref t.a_z) "shortest" = some none
 h_8:findIn K (.ref t.a_z) "numbers" = some none
 xm:PySem.W.exmOne K (.ref t.a_15) (.ref t.a_1d)=some true
 h_o:findIn K (.ref t.a_15) "__getattribute__" = some (some (.builtin "BaseException.__getattribute__"))
 h_p:findIn K (.ref t.a_15) "__getattr__" = some none
 h_q:findIn K (.ref t.a_15) "__class__" = some (some (.builtin "object.__class__"))
 h_r:PySem.W.specialIn K (.builtin "object.__class__") "__get__" = some (some (.builtin "getset_descriptor.__get__"))
 h_s:PySem.W.takesIn K (.builtin "object.__class__")=some true
 h_t:PySem.W.mroIn K t.a_15 (.type "object")=some true
 h_u:PySem.W.mroIn K t.a_15 (.type "BaseException")=some true
 h_i:L2.rowsIs K t.a_MAKERS [[],["-x,-y"],["-x,y"],["-x,y+1/2"],["y,x"],["-x,y","x,-y"],["-x,-y","-x+1/2,y"],["-x,-y","-x+1/2,y+1/2"],["-x,-y","y,x"],["-y,x"],["-y,x","-x,y"],["-y,x","-x+1/2,y+1/2"],["-y,x-y"],["-y,x-y","-y,-x"],["-y,x-y","y,x"],["x-y,x"],["x-y,x","y,x"]]=true
 x_15:PySem.W.excIn K t.a_15 [.type "ValueError",.type "Exception",.type "BaseException",.type "object"] "ValueError.__new__" = true
 i_15:kitOne K (.ref t.a_15) (.ref t.a_15)=some true
 i_1c:kitOne K (.ref t.a_15) (.ref t.a_1c)=some false
 i_1f:kitOne K (.ref t.a_15) (.ref t.a_1f)=some false
 me_m:L2.Meth K t.a_z "axes" t.a_m
 me_7:L2.Meth K t.a_z "makers" t.a_7
 me_d:L2.Meth K t.a_z "words" t.a_d
 me_s:L2.Meth K t.a_z "at" t.a_s
 bl:∀ (s:Shared) (u:Value),BindsTo s t.d_19 ⟨[u],[]⟩ [("_law_script",u)]
local macro_rules | `(tactic| walk_at "r")=>`(tactic| simp only [tSeq,tAsg,a_T,tVar,tC,tOp,v_C,w_y,w_z,tUn,k_P,tB,tIfS,tIf,tAnd,tOr,tNot,u_O,tOrV,u_P,tRet,w_v,o_d,u_Q,e_u,r_f,b_X,tNil,tCB,tTup,tLst,tPar,u_S,tBM,tBM0,tSl,k_R,g_m,List.getElem?_cons_zero,List.getElem?_cons_succ,Option.some.injEq,exists_eq_left',exists_eq_left,List.set_cons_zero,List.set_cons_succ,List.cons.injEq,V.int.injEq,V.bl.injEq,V.ref.injEq,and_true,true_and,List.append_nil,ne_eq,exists_and_left,and_assoc,↓reduceIte,Bool.not_true,Bool.not_false,Bool.false_eq_true])
noncomputable def gcdI (a b:Int):Int:=(Int.gcd a b:Int)
noncomputable def absI (u:Int):Int:=if u < 0 then -u else u
noncomputable def gl (u:Int) (ns:List Int):Int:=ns.foldl gcdI (absI u)
theorem l_I (u:Int):0<=absI u:=by unfold absI; split <;> omega
theorem r_Q {d u:Int}:d∣absI u ↔ d∣u:=by
 unfold absI;split
 ·exact Int.dvd_neg
 ·exact Iff.rfl
theorem j_u {d:Int}:∀ (ns:List Int) (c:Int),d∣ns.foldl gcdI c ↔ d∣c/\∀ t∈ns,d∣t
 | [],c=>by simp
 | t :: r,c=>by
  rw [List.foldl_cons,j_u r];unfold gcdI;rw [Int.dvd_coe_gcd_iff];constructor
  ·rintro ⟨⟨h1,h2⟩,h3⟩;refine ⟨h1,λ x hx=>?_⟩;rcases List.mem_cons.mp hx with e | e
   ·rw [e]; exact h2
   ·exact h3 x e
  ·rintro ⟨h1,h2⟩;exact ⟨⟨h1,h2 t zU⟩,λ x hx=>h2 x (zN _ hx)⟩
theorem e_O {d u:Int} {ns:List Int}:d∣gl u ns ↔ d∣u/\∀ t∈ns,d∣t:=by
 unfold gl;rw [j_u,r_Q]
theorem g_y:∀ (ns:List Int) (c:Int),0<=c->0<=ns.foldl gcdI c
 | [],_,h=>h
 | t :: r,c,_=>g_y r _ (Int.natCast_nonneg _)
theorem e_z (u:Int) (ns:List Int):0<=gl u ns:=g_y ns _ (l_I u)
theorem gl_u (u:Int) (ns:List Int):gl u ns∣u:=(e_O.mp (Int.dvd_refl _)).1
theorem g_U {u t:Int} {ns:List Int} (h:t∈ns):gl u ns∣t:=(e_O.mp (Int.dvd_refl _)).2 t h
theorem n_J {u:Int} (ns:List Int) (h:u≠0):0 < gl u ns:=by
 have:=e_z u ns;rcases Int.lt_or_eq_of_le this with q | q
 ·exact q
 ·obtain ⟨k,e⟩:=gl_u u ns;rw [← q,Int.zero_mul] at e;exact yJ e h
theorem r_R {u v:Int} {ns ms:List Int} (h:∀ d:Int,(d∣u/\∀ t∈ns,d∣t) ↔ (d∣v/\∀ t∈ms,d∣t)):gl u ns=gl v ms :=
 Int.dvd_antisymm (e_z _ _) (e_z _ _) (e_O.mpr ((h _).mp (e_O.mp (Int.dvd_refl _)))) (e_O.mpr ((h _).mpr (e_O.mp (Int.dvd_refl _))))
theorem u_n (u:Int) (ns:List Int) (t:Int):gl u (ns++[t])=gcdI (gl u ns) t:=by unfold gl; rw [List.foldl_append]; rfl
noncomputable def cs (u:Int) (ns:List Int):Int:=if u < 0 then -(gl u ns) else gl u ns
theorem g_z {u:Int} (ns:List Int) (h:u≠0):cs u ns≠0:=by
 have:=n_J ns h;unfold cs;split <;> omega
theorem d_U {u x:Int} {ns:List Int} (h:gl u ns∣x):cs u ns∣x:=by
 unfold cs;split
 ·exact Int.neg_dvd.mpr h
 ·exact h
theorem b_Z {c x:Int} (hc:c≠0) (h:c∣x):x.fdiv c*c=x:=by
 obtain ⟨k,e⟩:=h;subst e;rw [Int.mul_comm c k,Int.mul_fdiv_cancel _ hc]
theorem g_V {u:Int} (ns:List Int) (h:u≠0):0 < u.fdiv (cs u ns):=by
 have e:=b_Z (g_z ns h) (d_U (gl_u u ns));have g:=n_J ns h;rcases Int.lt_trichotomy (u.fdiv (cs u ns)) 0 with q | q | q
 ·exfalso;unfold cs at e q;split at e
  ·rename_i hu;rw [if_pos hu] at q;have:=Int.mul_nonneg_of_nonpos_of_nonpos (Int.le_of_lt q) (show -(gl u ns)<=0 by omega);omega
  ·rename_i hu;rw [if_neg hu] at q;have:=Int.mul_neg_of_neg_of_pos q g;omega
 ·rw [q,Int.zero_mul] at e;exact yJ e.symm h
 ·exact q
theorem w_M {u t:Int} {ns:List Int} (h:u≠0) (ht:t∈ns):t*u.fdiv (cs u ns)=t.fdiv (cs u ns)*u:=by
 have e1:=b_Z (g_z ns h) (d_U (gl_u u ns));have e2:=b_Z (g_z ns h) (d_U (g_U (u:=u) ht));generalize u.fdiv (cs u ns)=a at *
 generalize t.fdiv (cs u ns)=b at *;generalize cs u ns=c at *
 rw [← e2,← e1,Int.mul_assoc,Int.mul_comm c a]
theorem v_W {u:Int} {ns:List Int} (h:u≠0):gl (u.fdiv (cs u ns)) (ns.map λ t=>t.fdiv (cs u ns))=1:=by
 have hc:=g_z ns h;have e1:=b_Z hc (d_U (gl_u u ns));have n:=e_z (u.fdiv (cs u ns)) (ns.map λ t=>t.fdiv (cs u ns));have d:=e_O.mp (Int.dvd_refl (gl (u.fdiv (cs u ns)) (ns.map λ t=>t.fdiv (cs u ns))));generalize gl (u.fdiv (cs u ns)) (ns.map λ t=>t.fdiv (cs u ns))=g at *
 have key:g*cs u ns∣gl u ns:=by
  refine e_O.mpr ⟨?_,λ t ht=>?_⟩
  ·have:=Int.mul_dvd_mul d.1 (Int.dvd_refl (cs u ns));rw [e1] at this;exact this
  ·have:=Int.mul_dvd_mul (d.2 _ (List.mem_map.mpr ⟨t,ht,rfl⟩)) (Int.dvd_refl (cs u ns));rw [b_Z hc (d_U (g_U (u:=u) ht))] at this;exact this
 have key2:g*cs u ns∣1*cs u ns:=by
  rw [Int.one_mul];unfold cs at key ⊢;split at key
  ·rename_i hu;rw [if_pos hu];exact Int.dvd_neg.mpr key
  ·rename_i hu;rw [if_neg hu];exact key
 have:g∣1:=Int.dvd_of_mul_dvd_mul_right hc key2;have:=Int.le_of_dvd (by decide) this;rcases (show g=0\/g=1 by omega) with q | q
 ·subst q;have z:=d.1;rw [Int.zero_dvd] at z;rw [z,Int.zero_mul] at e1;exact yJ e1.symm h
 ·exact q
theorem v_X {u:Int} {ns:List Int} (h:0 < u) (g:gl u ns=1):cs u ns=1:=by
 unfold cs;rw [if_neg (by omega),g]
theorem r_S {u:Int} {ns:List Int} (h:0 < u) (g:gl u ns=1):(ns.map λ t=>t.fdiv (cs u ns))=ns/\u.fdiv (cs u ns)=u:=by
 rw [v_X h g];refine ⟨?_,Int.fdiv_one u⟩;rw [show (λ t:Int=>t.fdiv 1)=id from funext λ t=>Int.fdiv_one t,List.map_id]
theorem p_L {u:Int} (hu:0 < u) (t:Int):(t.fmod u - t).fmod u=0:=by
 rw [Int.fmod_eq_emod_of_nonneg t (Int.le_of_lt hu),Int.fmod_eq_emod_of_nonneg _ (Int.le_of_lt hu)];exact Int.emod_eq_zero_of_dvd (by
  have:=Int.emod_add_mul_ediv t u;exact ⟨-(t / u),by rw [Int.mul_neg]; omega⟩)
theorem j_v (g l:Int):Int.gcd l (Int.fmod g l)=Int.gcd g l:=by
 rw [Int.fmod_def,Int.gcd_sub_mul_left_right,Int.gcd_comm]
theorem l_J (a b:Int):Int.gcd (if a < 0 then -a else a) (if b < 0 then -b else b)=Int.gcd a b:=by
 split <;> split <;> simp
theorem h_N (a:Int):0<=(if a < 0 then -a else a):=by split <;> omega
theorem o_F {g l a b:Int} (h:Int.gcd g l=Int.gcd a b) (hg:0<=g) (z:l=0):g=gcdI a b:=by
 rw [z,Int.gcd_zero_right] at h;unfold gcdI;rw [← h];omega
noncomputable def n_K:Sp:=λ vs H Q _=>∃ a b,vs=[.int a,.int b]/\Q (.int (gcdI a b)) H
noncomputable abbrev sp_v:Sp:=n_K
noncomputable abbrev sp_g:Sp:=n_K
noncomputable def c_X (H:Hp) (p:Addr) (ns:List Int) (u:Int):Prop:=∃ q,H p=some (.tup [.ref q,.int u])/\H q=some (.tup (ns.map V.int))
theorem c_X.up {H H':Hp} {p:Addr} {ns:List Int} {u:Int} (h:c_X H p ns u) (s:Same H H'):c_X H' p ns u:=let ⟨q,h1,h2⟩:=h; ⟨q,s _ _ h1,s _ _ h2⟩
noncomputable def small (n:Int):Prop:=n.natAbs < 2 ^ 8990
theorem j_w {c:Int} (h:small c) (z:c≠0):c.natAbs.log2 < 9000:=zI ((Nat.log2_lt (by omega)).mpr h) (by decide)
theorem j_x {c u:Int} (h:small u) (z:u≠0) (d:c∣u):small c:=by
 have:=Int.natAbs_dvd_natAbs.mpr d;have:=Nat.le_of_dvd (by omega) this;unfold small at *
 omega
noncomputable def redT (u:Int) (ns:List Int):List Int:=ns.map λ t=>t.fdiv (cs u ns)
noncomputable def redU (u:Int) (ns:List Int):Int:=u.fdiv (cs u ns)
noncomputable def e_n (u:Int) (ns:List Int):List Int:=ns.map λ t=>t.fmod u
noncomputable def sp_12 (K:Frag) (C:Addr):Sp:=λ vs H Q E=>∃ (b:Bool) (a:Addr) (ns:List Int) (u:Int),vs=[.ref a,.int u]/\SqB b K H a (ns.map V.int)/\ns.length<=100/\small u /\
 ((u=0\/ns=[])->E (.ref C) none H)/\(u≠0->ns≠[]->∀ p H',Same H H'->c_X H' p (redT u ns) (redU u ns)->Q (.ref p) H')
noncomputable def sp_h (K:Frag):Sp:=λ vs H Q _=>∃ (p:Addr) (ns:List Int) (u:Int),vs=[.ref p]/\c_X H p ns u/\ns.length<=100/\0 < u/\∀ p' H',Same H H'->c_X H' p' (e_n u ns) u->Q (.ref p') H'
theorem g_W {α:Type} {ns:List α} {i:Nat} {n:α} (h:ns[i]?=some n):ns.take (i+1)=ns.take i++[n]:=by
 rw [List.take_add_one,h];rfl
noncomputable def sp_1a (K:Frag):Sp:=λ vs H Q _=>∃ (b1 b2:Bool) (p q:Addr) (ms ns:List Int),vs=[.ref p,.ref q]/\SqB b1 K H p (ms.map V.int)/\SqB b2 K H q (ns.map V.int)/\ms.length=ns.length/\ms.length<=1000 /\
 (∀ (i:Nat) m n,ms[i]?=some m->ns[i]?=some n->IntMulOk m n)/\∀ H',Same H H'->Q (.int (dotI ms ns)) H'
noncomputable def sp_11 (K:Frag):Sp:=λ vs H Q _=>∃ (b1 b2:Bool) (a:Addr) (rows:LM) (w:Nat),vs=[.ref a]/\MatB b1 b2 K H a rows/\rows≠[]/\(∀ r∈rows,r.length=w)/\w<=1000/\rows.length<=1000 /\
 ∀ r H',H r=none->Same H H'->MatL H' r (o_q w rows)->Q (.ref r) H'
noncomputable def e_s (i k:Nat) (rows:LM):LM:=(rows.eraseIdx i).map λ r=>r.eraseIdx k
noncomputable def sg (k:Nat):Int:=if k % 2=0 then 1 else -1
noncomputable def altS (f:Nat->Int):Nat->Int
 | 0=>0
 | k+1=>altS f k+sg k*f k
noncomputable def detM:Nat->LM->Int
 | 0,_=>1
 | 1,rows=>(rows.getD 0 []).getD 0 0
 | n+2,rows=>altS (λ k=>(rows.getD 0 []).getD k 0*detM (n+1) (e_s 0 k rows)) (n+2)
noncomputable def Sq (n:Nat) (rows:LM):Prop:=rows.length=n/\∀ r∈rows,r.length=n
noncomputable def d_R (B:Nat) (rows:LM):Prop:=∀ r∈rows,∀ x∈r,x.natAbs < 2 ^ B
theorem u_o (k:Nat):-sg k=sg (k+1):=by
 unfold sg
 by_cases h:k % 2=0
 ·rw [if_pos h,if_neg (by omega)]
 ·rw [if_neg h,if_pos (by omega)];rfl
theorem r_T (k:Nat):(sg k).natAbs=1:=by unfold sg; split <;> rfl
theorem Sq.minor {n i k:Nat} {rows:LM} (h:Sq (n+1) rows) (hi:i < n+1) (hk:k < n+1):Sq n (e_s i k rows):=by
 refine ⟨?_,λ r hr=>?_⟩
 ·unfold e_s;rw [zqe,List.length_eraseIdx,h.1,if_pos hi];rfl
 ·obtain ⟨z,hz,rfl⟩:=List.mem_map.mp hr;have hl:=h.2 z (List.mem_of_mem_eraseIdx hz);rw [List.length_eraseIdx,hl,if_pos hk];rfl
theorem d_R.minor {B i k:Nat} {rows:LM} (h:d_R B rows):d_R B (e_s i k rows):=λ r hr x hx=>by
 obtain ⟨z,hz,rfl⟩:=List.mem_map.mp hr;exact h z (List.mem_of_mem_eraseIdx hz) x (List.mem_of_mem_eraseIdx hx)
theorem l_K {f:Nat->Int} {M:Nat}:∀ n:Nat,(∀ k < n,(f k).natAbs<=M)->(altS f n).natAbs<=n*M
 | 0,_=>by simp [altS]
 | n+1,h=>by
  have h1:=l_K n λ k hk=>h k (by omega);have h2:=h n (by omega);show (altS f n+sg n*f n).natAbs<=_;have h3:=Int.natAbs_add_le (altS f n) (sg n*f n);rw [yE,r_T,Nat.one_mul] at h3;rw [Nat.succ_mul];omega
theorem row0 {n:Nat} {rows:LM} (h:Sq (n+1) rows):rows[0]?=some (rows.getD 0 [])/\rows.getD 0 []∈rows:=by
 have hl:0 < rows.length:=by have:=h.1; omega
 have e:rows.getD 0 []=rows[0]:=by simp [hl]
 rw [e];exact ⟨by simp [hl],yA hl⟩
theorem o_G {B:Nat}:∀ (n:Nat) (rows:LM),1<=n->n<=4->Sq n rows->d_R B rows->(detM n rows).natAbs<=2 ^ (n*(B+2))
 | 0,_,h,_,_,_=>by omega
 | 1,rows,_,_,hs,hb=>by
  have hr:=row0 hs;have hl:0 < (rows.getD 0 []).length:=by rw [hs.2 _ hr.2]; decide
  have:=hb _ hr.2 _ (L2.getD_mem hl);show ((rows.getD 0 []).getD 0 0).natAbs<=_;have:2 ^ B<=2 ^ (1*(B+2)):=zM (by decide) (by omega);omega
 | n+2,rows,_,h4,hs,hb=>by
  have hr:=row0 hs;have key:∀ k < n+2,((rows.getD 0 []).getD k 0*detM (n+1) (e_s 0 k rows)).natAbs<=2 ^ B*2 ^ ((n+1)*(B+2)):=λ k hk=>by
   have hl:k < (rows.getD 0 []).length:=by rw [hs.2 _ hr.2]; exact hk
   have h1:=hb _ hr.2 _ (L2.getD_mem hl);have h2:=o_G (n+1) (e_s 0 k rows) (by omega) (by omega) (hs.minor (by omega) hk) hb.minor;rw [yE];exact Nat.mul_le_mul (Nat.le_of_lt h1) h2
  have:=l_K (n+2) key;have e:2 ^ ((n+2)*(B+2))=4*(2 ^ B*2 ^ ((n+1)*(B+2))):=by
   rw [← Nat.pow_add,show (4:Nat)=2 ^ 2 from rfl,← Nat.pow_add];congr 1;rw [Nat.add_mul,Nat.add_mul];omega
  show (altS _ (n+2)).natAbs<=_;rw [e];refine zS this (zK _ (by omega))
theorem c_Y {x:Int} {B:Nat} (h:x.natAbs < 2 ^ B):Builtin.Int.intBits x<=B:=intBits_le_iff.mpr h
noncomputable def sp_w (K:Frag):Sp:=λ vs H Q _=>∃ (b1 b2:Bool) (a:Addr) (rows:LM) (i k w:Nat),vs=[.ref a,.int i,.int k]/\MatB b1 b2 K H a rows/\(∀ r∈rows,r.length=w)/\k < w/\w<=1000/\rows.length<=1000 /\
 ∀ r H',H r=none->Same H H'->MatL H' r (e_s i k rows)->Q (.ref r) H'
noncomputable def sp_2 (K:Frag):Nat->Sp
 | 0=>λ _ _ _ _=>False
 | n+1=>λ vs H Q _=>∃ (b1 b2:Bool) (a:Addr) (rows:LM) (B:Nat),vs=[.ref a]/\MatB b1 b2 K H a rows/\Sq (n+1) rows/\n<=3/\d_R B rows/\B<=1000000/\∀ H',Same H H'->Q (.int (detM (n+1) rows)) H'
section
variable {g:TG} {tt:TOx} {fr:List (Str × Nat)} {σ:St} {a:Addr} {H:Hp} {Q:VK} {K:Frag}
theorem r_U {b:Bool} {l:Addr} {xs:List V} (P:Nat->List V->Hp->Prop) (ha:H a=none) (hS:SqB b K H l xs) (hz:xs.length<=1000) (h0:P 0 [] (upd H a (.lst [])))
  (hl:∀ i zs H1,P i zs H1->zs.length<=i) (mono:∀ i zs H1 H2,P i zs H1->e_U a H1 H2->P i zs H2)
  (he:∀ i x H1 zs,xs[i]?=some x->Same H H1->H1 a=some (.lst zs)->P i zs H1->∀ C:Option V->Hp->Prop,
   (∀ y H2,Same H1 H2->P (i+1) (zs++[y]) H2->C (some y) H2)->(∀ H2,Same H1 H2->P (i+1) zs H2->C none H2)->tt (some (.int i) :: some x :: d_F fr σ) H1 C)
  (hd:∀ H1 ys,Same H H1->H1 a=some (.lst ys)->P xs.length ys H1->Q (.ref a) H1) :
  d_J (Ite K b l) (gTup K 2 (c_N (a_T 0) (c_N (a_T 1) gNil))) tt 2 fr σ a H Q:=by
 refine r_s xs.length P ha hz h0 hl mono (λ i H1 hi s=>⟨xs,xs[i],hS.up s,by simp [hi]⟩) (λ H1 s=>⟨xs,hS.up s,rfl⟩) ?_ hd;intro i H1 zs hi s1 ez p os x H3 hos hy C hC1 hC2;obtain ⟨q,x,rfl,hp,rfl,hx⟩:=hy;refine ⟨q,[.int i,x],rfl,SqT.of a_F,rfl,_,[x],rfl,x,[],rfl,rfl,?_⟩;have sn:Same H1 (upd H1 q (.tup [.int i,x])):=Same.new hp
 match os,hos with
 | [o,o'],_ =>
  exact ⟨⟨[some (.int i),some x],rfl,rfl⟩,he i x _ zs (hx xs (hS.up s1)) (s1.trans sn) (sn _ _ ez) (mono _ _ _ _ p sn.x) C (λ y H2 s2 r=>hC1 y H2 (sn.trans s2) r) λ H2 s2 r=>hC2 H2 (sn.trans s2) r⟩
end
theorem SqB.cut {b:Bool} {K:Frag} {H:Hp} {p:Addr} {xs:List V}:SqB b K (upd H p (seqO b xs)) p xs:=by
 cases b
 ·exact SqB.lst a_F
 ·exact SqB.tup a_F
theorem n_L {α:Type} {rows:List α} {i0 t:Nat} {r:α} (e:rows[t]?=some r):(rows.take (t+1)).eraseIdx i0=if t=i0 then (rows.take t).eraseIdx i0 else (rows.take t).eraseIdx i0++[r]:=by
 have ht:t < rows.length:=(zqa e).1;have hl:(rows.take t).length=t:=by rw [List.length_take]; omega
 rw [List.take_add_one,e];show (rows.take t++[r]).eraseIdx i0=_
 by_cases h:t=i0
 ·rw [if_pos h,List.eraseIdx_append_of_length_le (by omega),hl,h,Nat.sub_self,List.eraseIdx_of_length_le (l:=rows.take i0) (by rw [List.length_take]; omega)];simp
 ·rw [if_neg h]
  by_cases h2:i0 < t
  ·rw [List.eraseIdx_append_of_lt_length (by omega)]
  ·rw [List.eraseIdx_append_of_length_le (by omega),hl,List.eraseIdx_of_length_le (l:=rows.take t) (by omega)];congr 1;rw [List.eraseIdx_of_length_le];simp;omega
theorem o_H {B C:Nat}:∀ (ms ns:List Int),(∀ x∈ms,x.natAbs < 2 ^ B)->(∀ y∈ns,y.natAbs < 2 ^ C)->(dotI ms ns).natAbs<=ms.length*2 ^ (B+C)
 | [],ns,_,_=>by simp [dotI]
 | m :: ms,[],_,_=>by simp [dotI]
 | m :: ms,n :: ns,h1,h2=>by
  have ih:=o_H ms ns (λ x hx=>h1 x (zN _ hx)) (λ y hy=>h2 y (zN _ hy));have e:dotI (m :: ms) (n :: ns)=m*n+dotI ms ns:=by simp [dotI]
  have hm:=h1 m zU;have hn:=h2 n zU;have h3:(m*n).natAbs<=2 ^ (B+C):=by
   rw [yE,Nat.pow_add];exact Nat.mul_le_mul (Nat.le_of_lt hm) (Nat.le_of_lt hn)
  have h4:=Int.natAbs_add_le (m*n) (dotI ms ns);rw [e,List.length_cons,Nat.succ_mul];omega
noncomputable def idM (d:Nat):LM:=(List.range d).map λ i=>(List.range d).map λ k=>if i=k then (1:Int) else 0
noncomputable def sp_i:Sp:=λ vs H Q _=>∃ n:Nat,vs=[.int n]/\n<=1000/\∀ r H',H r=none->Same H H'->MatL H' r (idM n)->Q (.ref r) H'
noncomputable def c_J (K:Frag) (H:Hp) (p:Addr) (M:LM) (ts:List Int) (u:Int):Prop:=∃ pr pt,H p=some (.tup [.ref pr,.ref pt,.int u])/\MatB true true K H pr M/\H pt=some (.tup (ts.map V.int))
theorem c_J.up {K:Frag} {H H':Hp} {p:Addr} {M:LM} {ts:List Int} {u:Int} (h:c_J K H p M ts u) (s:Same H H'):c_J K H' p M ts u:=let ⟨pr,pt,h1,h2,h3⟩:=h; ⟨pr,pt,s _ _ h1,h2.up s,s _ _ h3⟩
noncomputable def sp_x (K:Frag):Sp:=λ vs H Q _=>∃ (b1 b2:Bool) (a p:Addr) (M:LM) (ts:List Int) (u:Int),vs=[.ref a,.ref p]/\MatB b1 b2 K H a M/\c_X H p ts u/\M.length<=100/\∀ q H',Same H H'->c_J K H' q M ts u->Q (.ref q) H'
noncomputable def movT (M:LM) (ts:List Int) (u:Int) (ns:List Int) (v:Int):List Int:=List.zipWith (λ r t=>dotI r ns*u+t*v) M ts
noncomputable def v_c (B:Nat) (ns:List Int):Prop:=∀ x∈ns,x.natAbs < 2 ^ B
structure Fine (d:Nat) (M:LM) (ts:List Int) (u:Int):Prop where
 sq:Sq d M
 len:ts.length=d
 pos:0 < u
 bm:d_R 200000 M
 bt:v_c 200000 ts
 bu:u < 2 ^ 1500
noncomputable def sp_13 (K:Frag):Sp:=λ vs H Q _=>∃ (p q:Addr) (M:LM) (ts ns:List Int) (u v:Int) (d:Nat),vs=[.ref p,.ref q]/\c_J K H p M ts u/\c_X H q ns v/\Fine d M ts u/\1<=d/\d<=4/\ns.length=d/\v_c 200000 ns/\0 < v/\v < 2 ^ 1500 /\
 ∀ r H',Same H H'->c_X H' r (redT (u*v) (movT M ts u ns v)) (redU (u*v) (movT M ts u ns v))->Q (.ref r) H'
noncomputable def sp_10 (K:Frag):Sp:=λ vs H Q _=>∃ (p q:Addr) (M N:LM) (ts ns:List Int) (u v:Int) (d:Nat),vs=[.ref p,.ref q]/\c_J K H p M ts u/\c_J K H q N ns v/\Fine d M ts u/\Fine d N ns v/\1<=d/\d<=4 /\
 ∀ r H',Same H H'->c_J K H' r (mulM d N M) (redT (v*u) (movT N ns v ts u)) (redU (v*u) (movT N ns v ts u))->Q (.ref r) H'
noncomputable def sp_16 (K:Frag):Sp:=λ vs H Q _=>∃ (p:Addr) (M:LM) (ts:List Int) (u:Int),vs=[.ref p]/\c_J K H p M ts u/\M.length<=100/\ts.length<=100/\0 < u/\∀ r H',Same H H'->c_J K H' r M (e_n u ts) u->Q (.ref r) H'
theorem f_R {u:Int} (h1:0 < u) (h2:u < 2 ^ 1500):u.natAbs < 2 ^ 1500:=by
 have e:((2 ^ 1500:Nat):Int)=(2:Int) ^ 1500:=by decide +kernel
 omega
theorem l_L {u:Int} {B:Nat} (h:u.natAbs < 2 ^ B) (hB:B<=8990):small u:=zI h (zM (by decide) hB)
theorem i_w {u v:Int} (h1:0 < u) (h2:u < 2 ^ 1500) (h3:0 < v) (h4:v < 2 ^ 1500):small (u*v)/\0 < u*v:=by
 refine ⟨l_L (B:=1500+1500) ?_ (by decide),Int.mul_pos h1 h3⟩;rw [yE,Nat.pow_add];exact Nat.mul_lt_mul'' (f_R h1 h2) (f_R h3 h4)
theorem d_R.le {B C:Nat} {M:LM} (h:d_R B M) (hc:B<=C):d_R C M:=λ r hr x hx=>zI (h r hr x hx) (zM (by decide) hc)
section
variable {P:Program} {w:World} {K:Frag} {mg:Str->Option Value} {base:Heap} {t:Adr}
theorem r_V {ns:List Int} {k:Int} (h0:0<=k) (h1:k < ns.length):atI (ns.map V.int) k=some (.int (ns.getD k.toNat 0)):=by
 obtain ⟨j,rfl⟩:=Int.eq_ofNat_of_zero_le h0;exact a_V (j_W (h_K (by omega))) rfl
noncomputable def sp_f (K:Frag):Sp:=λ vs H Q _=>∃ (p:Addr) (ns:List Int) (k:Int),vs=[.ref p,.int k]/\SqL K H p (ns.map V.int)/\0<=k/\Q (.int (ns.getD k.toNat 0)) H
noncomputable def sp_p:Sp:=λ vs H Q _=>∃ i,vs=[.int i]/\Q (.bl true) H
theorem ok_f (T:Txt K mg t):FnOk P w K mg base CX0 1 t.a_f t.d_f pd' (sp_f K):=by
 refine T.F_f.ok sc_f (by walk_at "v") (λ cdv A outer s H vs Q E hr h=>?_)
 ·obtain ⟨p,ns,k,rfl,hS,h0,q⟩:=h;refine ⟨_,(a_D (b_G (a_K f_X (pv 1) (a_O b_C rfl T.z_len (by decide +kernel) (a_A (pv 0) a_C)) (a_U _))
   (a_G (a_N (a_J ix_B (pv 0) (pv 1) (λ _ _=>rfl))))
   a_S)
   (a_G (a_N a_E))),?_⟩
  show tSeq _ _ _ [some (.ref p),some (.int k)] H;walk_at "r";refine g_t (b:=false) hS ?_;walk_at "r"
  by_cases z:k < ns.length
  ·rw [zW z];exact iteT ⟨false,p,_,_,_,rfl,rfl,hS,r_V h0 z,q⟩
  ·rw [zX z];refine iteF ?_;have e:ns.getD k.toNat 0=0:=by
    rw [zqc,List.getElem?_eq_none (by omega)];rfl
   rw [e] at q;exact q
theorem ok_p (T:Txt K mg t):FnOk P w K mg base CX0 1 t.a_p t.d_p pr' sp_p:=by
 refine T.F_p.ok sc_p (by walk_at "v") (λ cdv A outer s H vs Q E hr h=>?_)
 ·obtain ⟨i,rfl,q⟩:=h;refine ⟨_,(a_G (a_N (j_G (a_O e_d rfl T.z_isinstance (by decide +kernel) (a_A (pv 0) (a_A (h_G (v:=.ty "int") rfl T.z_int (by decide +kernel) rfl) a_C))) (m_H (m_I (a_O e_d rfl T.z_isinstance (by decide +kernel) (a_A (pv 0) (a_A (h_G (v:=.ty "bool") rfl T.z_bool (by decide +kernel) rfl) a_C)))))))),?_⟩;show tRet _ _ [some (.int i)] H;walk_at "r";refine ⟨_,_,_,_,rfl,.ty (.int i),rfl,T.h_k,?_⟩;walk_at "r";refine ⟨_,_,_,_,rfl,.ty (.int i),rfl,T.h_l,?_⟩;walk_at "r";exact q
theorem v_Y {a b:Int} {H:Hp} {Q:VK} {E:XK}:n_K [.int a,.int b] H Q E=Q (.int (gcdI a b)) H:=propext ⟨λ ⟨_,_,e,q⟩=>by cases e; exact q,λ q=>⟨_,_,rfl,q⟩⟩
theorem ok_v (T:Txt K mg t):FnOk P w K mg base CX0 1 t.a_v t.d_v pk' sp_v:=by
 refine T.F_v.ok sc_v (by walk_at "v") (λ cdv A outer s H vs Q E hr h=>?_)
 ·obtain ⟨a,b,rfl,k⟩:=h;refine ⟨_,(a_D (a_R (i:=2) sc_v.nd rfl (Or.inl rfl) (a_O f_z rfl T.z_abs (by decide +kernel) (a_A (pv 0) a_C)))
   (a_D (a_R (i:=3) sc_v.nd rfl (Or.inl rfl) (a_O f_z rfl T.z_abs (by decide +kernel) (a_A (pv 1) a_C)))
   (a_D (h_U zG (a_K d_I (pv 3) a_E (a_U _))
   (a_D (a_R (i:=4) sc_v.nd rfl (Or.inl rfl) (a_Z c_P (pv 2) (pv 3)))
   (a_D (a_R (i:=2) sc_v.nd rfl (Or.inl rfl) (pv 3))
   (a_G (a_R (i:=3) sc_v.nd rfl (Or.inl rfl) (pv 4))))))
   (a_G (a_N (pv 2)))))),?_⟩
  show tSeq _ _ _ [some (.int a),some (.int b),none,none,none] H;walk_at "r";refine ⟨λ m σ H1=>∃ g l r,σ=[some (.int a),some (.int b),some (.int g),some (.int l),r]/\H1=H/\0<=g/\0<=l/\Int.gcd g l=Int.gcd a b/\m=l.toNat,
   ⟨_,_,_,_,rfl,rfl,h_N a,h_N b,l_J a b,rfl⟩,?_⟩
  rintro m σ H1 ⟨g,l,r,rfl,rfl,hg,hl,e,rfl⟩;walk_at "r"
  by_cases z:l=0
  ·rw [zW z];refine iteF ?_;rw [o_F e hg z];exact k
  ·rw [zX z];refine iteT ⟨λ σ' H'=>σ'=[some (.int a),some (.int b),some (.int l),some (.int (g.fmod l)),some (.int (g.fmod l))]/\H'=H1,?_,z,rfl,rfl⟩;rintro σ' H' ⟨rfl,rfl⟩;have l1:=Int.fmod_lt_of_pos g (show 0 < l by omega);have l2:=Int.fmod_nonneg_of_pos g (show 0 < l by omega);exact ⟨(g.fmod l).toNat,by omega,_,_,_,rfl,rfl,hl,l2,by rw [j_v]; exact e,rfl⟩
theorem ok_g (T:Txt K mg t):FnOk P w K mg base CX0 1 t.a_g t.d_g pc' sp_g:=by
 refine T.F_g.ok sc_g (by walk_at "v") (λ cdv A outer s H vs Q E hr h=>?_)
 ·obtain ⟨a,b,rfl,k⟩:=h;refine ⟨_,(a_D (a_R (i:=0) sc_g.nd rfl (Or.inl rfl) (a_O f_z rfl T.z_abs (by decide +kernel) (a_A (pv 0) a_C)))
   (a_D (a_R (i:=1) sc_g.nd rfl (Or.inl rfl) (a_O f_z rfl T.z_abs (by decide +kernel) (a_A (pv 1) a_C)))
   (a_D (h_U zG (a_K h_X (pv 1) a_E (a_U _))
   (a_G (v_s (i:=0) (j:=1) rfl sc_g.nd rfl rfl (by decide) rfl rfl (a_A (pv 1) (a_A (a_Z c_P (pv 0) (pv 1)) a_C)) rfl)))
   (a_G (a_N (pv 0)))))),?_⟩
  show tSeq _ _ _ [some (.int a),some (.int b)] H;walk_at "r";refine ⟨λ m σ H1=>∃ g l,σ=[some (.int g),some (.int l)]/\H1=H/\0<=g/\0<=l/\Int.gcd g l=Int.gcd a b/\m=l.toNat,
   ⟨_,_,_,rfl,rfl,h_N a,h_N b,l_J a b,rfl⟩,?_⟩
  rintro m σ H1 ⟨g,l,rfl,rfl,hg,hl,e,rfl⟩;walk_at "r"
  by_cases z:0 < l
  ·rw [zW z];refine iteT ⟨λ σ' H'=>σ'=[some (.int l),some (.int (g.fmod l))]/\H'=H1,?_,by omega,rfl,rfl⟩;rintro σ' H' ⟨rfl,rfl⟩;have l1:=Int.fmod_lt_of_pos g z;have l2:=Int.fmod_nonneg_of_pos g z;exact ⟨(g.fmod l).toNat,by omega,_,_,rfl,rfl,hl,l2,by rw [j_v]; exact e,rfl⟩
  ·rw [zX z];refine iteF ?_;rw [o_F e hg (by omega)];exact k
theorem ok_12 (T:Txt K mg t):FnOk P w K mg base (CX1 P w) 2 t.a_12 t.d_12 pi' (sp_12 K t.a_1e):=by
 have G_v:=@ok_v P w K mg base t T;refine T.F_12.okX sc_12 (λ vs H Q E h=>?_) (λ cdv A outer s H vs Q E hr h=>?_)
 ·obtain ⟨b,a,ns,u,rfl,_⟩:=h;rfl
 ·obtain ⟨b,a,ns,u,rfl,hS,hl,su,hE,hQ⟩:=h;refine ⟨_,(a_D (b_G (a_K f_D (pv 1) a_E (a_U _))
   (a_G (b_V rfl b_F rfl T.m_1e T.x_1e PySem.F.excBase_ValueError (a_A b_O a_C)))
   a_S)
   (a_D (b_G (a_K f_D (a_O b_C rfl T.z_len (by decide +kernel) (a_A (pv 0) a_C)) a_E (a_U _))
   (a_G (b_V rfl b_F rfl T.m_1e T.x_1e PySem.F.excBase_ValueError (a_A b_O a_C)))
   a_S)
   (a_D (a_R (i:=2) sc_12.nd rfl (Or.inr rfl) (a_O f_z rfl T.z_abs (by decide +kernel) (a_A (pv 1) a_C)))
   (a_D (PS.nox (d_A zG rfl (b_W (pv 0)) (b_R (i:=3) sc_12.nd rfl (Or.inl rfl))
   (a_G (a_R (i:=2) sc_12.nd rfl (Or.inr rfl) (a_P G_v hr.mo rfl T.m_v T.F_v.kp T.b_v .nil b_B (a_A (pv 2) (a_A (pv 3) a_C)))))))
   (a_D (b_G (a_K f_X (pv 1) a_E (a_U _))
   (a_G (a_R (i:=2) sc_12.nd rfl (Or.inr rfl) (e_S d_S (pv 2))))
   a_S)
   (a_G (a_N (b_P (a_A (b_Q d_Z rfl T.z_tuple (by decide +kernel) (a_A (b_L (xs:=["top"]) (fr:=[("common",2)]) (g:=(a_T 0)) (tt:=(tEl (tOp (rI h_z λ i j=>.int (i.fdiv j)) (tVar 0) (tVar 1)))) (b_D (sc:=a_B s_12) (N:=N_12) rfl rfl (by decide +kernel)) rfl (b_W (pv 0)) (λ _ _ _ hE1=>(b_T (N:=["top","common"]) (i:=0) hE1 rfl (by decide +kernel))) (λ _ _ _ hE1=>(c_R (a_Z d_P (pv 0) (pv 1))))) a_C)) (a_A (a_Z d_P (pv 1) (pv 2)) a_C)))))))))),?_⟩
  show tSeq _ _ _ [some (.ref a),some (.int u),none,none] H;refine st λ N1 e1=>?_;simp only [b_Y];walk_at "r";refine ite2 (λ z=>⟨by decide,hE (.inl (zY z))⟩) (λ z=>?_);have hu:u≠0:=λ q=>z (zW q);subst e1;refine st λ N1 e1=>?_;simp only [b_Y];walk_at "r";refine g_t hS ?_;walk_at "r";refine ite2 (λ z=>⟨by decide,hE (.inr ?_)⟩) (λ z=>?_)
  ·have:=zY z;exact zO (by omega)
  have hne:ns≠[]:=λ q=>z (zW (by rw [q]; rfl));subst e1;refine st λ N1 e1=>?_;walk_at "r";subst e1;refine st λ N1 e1=>d_B λ B eB=>?_;simp only [iSeq];walk_at "r";refine ⟨b,⟨_,hS⟩,?_⟩;refine e_L (g:=a_T 3) (tb:=B) (λ i σ H1=>∃ v3,σ=[some (.ref a),some (.int u),some (.int (gl u (ns.take i))),v3]/\H1=H) ⟨_,rfl,rfl⟩ (λ i σ H1 _ ⟨_,_,e⟩=>e ▸ hS) ?_ ?_
  ·rintro i x σ H1 hi ⟨v3,rfl,rfl⟩;obtain ⟨n,hn,rfl⟩:=e_K hi;subst eB;walk_at "r";simp only [v_Y];rw [g_W hn,u_n]
   first | trivial | exact ⟨_,rfl,rfl⟩
  ·rintro σ H1 ⟨v3,rfl,rfl⟩;rw [zqe,List.take_length];subst e1;refine st λ N2 e2=>?_;have key2:N2 [some (.ref a),some (.int u),some (.int (cs u ns)),v3] H1:=by
    subst e2;have sc1:small (cs u ns):=j_x su hu (d_U (gl_u u ns));have hd:∀ x,h_z x (cs u ns):=λ x=>⟨g_z ns hu,j_w sc1 (g_z ns hu)⟩;walk_at "r";refine b_E λ B eB=>?_;simp only [iSeq];walk_at "r";refine ⟨b,⟨_,hS⟩,λ a1 ha1=>c_T (λ j y _=>∃ n,ns[j]?=some n/\y=.int (n.fdiv (cs u ns))) ha1 hS (by rw [zqe]; omega) (λ _ _ _ _ r _=>r) ?_ ?_⟩
    ·intro i x H2 zs hx _ _ Q' hQ';obtain ⟨n,hn,rfl⟩:=e_K hx;subst eB;show tOp _ _ _ [some (.int n),some (.int (cs u ns))] H2 Q';walk_at "r";exact ⟨hd n,hQ' _ H2 (Same.refl _) ⟨n,hn,rfl⟩⟩
    ·intro H2 ys s1 e1 hly hr2;have ey:ys=(redT u ns).map V.int:=by
      unfold redT;rw [List.map_map];exact d_L (by simpa using hly) hr2
     subst ey;refine ⟨a1,_,rfl,.inl ⟨SqL.of e1,λ l hl1=>?_⟩⟩;walk_at "r";refine ⟨hd u,(by show 2<=sizeLine; decide),λ p hp=>hQ hu hne p _ ((s1.trans (Same.new hl1)).trans (Same.new hp)) ⟨l,a_F,?_⟩⟩;rw [a_I (b_z a_F hp)];exact a_F
   walk_at "r";unfold cs at key2;refine ite2 (λ z=>?_) (λ z=>?_)
   ·rw [if_pos (zY z)] at key2;exact key2
   ·rw [if_neg (λ q=>z (zW q))] at key2;exact key2
theorem g_X {H:Hp} {p:Addr} {ns:List Int} {u:Int} {Q:VK} (h:c_X H p ns u) (q:∀ x,H x=some (.tup (ns.map V.int))->Q (.ref x) H):rIxB K (.ref p) (.int 0) H Q:=let ⟨x,h1,h2⟩:=h; ⟨true,p,_,_,_,rfl,rfl,SqB.tup h1,rfl,q x h2⟩
theorem f_S {H:Hp} {p:Addr} {ns:List Int} {u:Int} {Q:VK} (h:c_X H p ns u) (q:Q (.int u) H):rIxB K (.ref p) (.int 1) H Q:=let ⟨x,h1,h2⟩:=h; ⟨true,p,_,_,_,rfl,rfl,SqB.tup h1,rfl,q⟩
theorem ok_h (T:Txt K mg t):FnOk P w K mg base CX0 1 t.a_h t.d_h py' (sp_h K):=by
 refine T.F_h.ok sc_h (by walk_at "v") (λ cdv A outer s H vs Q E hr h=>?_)
 ·obtain ⟨p,ns,u,rfl,hP,hl,hu,hQ⟩:=h;refine ⟨_,(a_D (a_R (i:=1) sc_h.nd rfl (Or.inr rfl) (a_J ix_B (pv 0) a_E (λ _ _=>rfl)))
   (a_G (a_N (b_P (a_A (b_Q d_Z rfl T.z_tuple (by decide +kernel) (a_A (b_L (xs:=["top"]) (fr:=[("under",1)]) (g:=(a_T 0)) (tt:=(tEl (tOp (rI (λ _ j=>j≠0) λ i j=>.int (i.fmod j)) (tVar 0) (tVar 1)))) (b_D (sc:=a_B s_h) (N:=N_h) rfl rfl (by decide +kernel)) rfl (b_W (a_J ix_B (pv 0) a_E (λ _ _=>rfl))) (λ _ _ _ hE1=>(b_T (N:=["top","under"]) (i:=0) hE1 rfl (by decide +kernel))) (λ _ _ _ hE1=>(c_R (a_Z c_P (pv 0) (pv 1))))) a_C)) (a_A (pv 1) a_C)))))),?_⟩
  show tSeq _ _ _ [some (.ref p),none] H;refine st λ N1 e1=>?_;walk_at "r";refine f_S hP ?_;subst e1;walk_at "r";refine b_E λ B eB=>?_;simp only [iSeq];walk_at "r";refine g_X hP λ x hx=>⟨true,x,rfl,⟨_,SqB.tup hx⟩,λ a1 ha1=>c_T (λ j y _=>∃ n,ns[j]?=some n/\y=.int (n.fmod u)) ha1 (SqB.tup hx) (by rw [zqe]; omega) (λ _ _ _ _ r _=>r) ?_ ?_⟩
  ·intro i x H1 zs hx _ _ Q' hQ';obtain ⟨n,hn,rfl⟩:=e_K hx;subst eB;show tOp _ _ _ [some (.int n),some (.int u)] H1 Q';walk_at "r";exact ⟨by omega,hQ' _ H1 (Same.refl _) ⟨n,hn,rfl⟩⟩
  ·intro H1 ys s1 e1 hly hr2;have ey:ys=(e_n u ns).map V.int:=by
    unfold e_n;rw [List.map_map];exact d_L (by simpa using hly) hr2
   subst ey;refine ⟨a1,_,rfl,.inl ⟨SqL.of e1,λ l hl1=>?_⟩⟩;refine ⟨(by show 2<=sizeLine; decide),λ p' hp'=>hQ p' _ ((s1.trans (Same.new hl1)).trans (Same.new hp')) ⟨l,a_F,?_⟩⟩;rw [a_I (b_z a_F hp')];exact a_F
theorem ok_1a (T:Txt K mg t):FnOk P w K mg base CX0 1 t.a_1a t.d_1a pk' (sp_1a K):=by
 refine T.F_1a.ok sc_1a (by walk_at "v") (λ cdv A outer s H vs Q E hr h=>?_)
 ·obtain ⟨b1,b2,p,q,ms,ns,rfl,h1,h2,hl,hz,hm,hQ⟩:=h;refine ⟨_,(a_G (a_N (a_O (r_q rfl) rfl T.z_sum (by decide +kernel) (a_A (b_L (xs:=["left","right"]) (fr:=[]) (g:=(gTup K 2 (c_N (a_T 0) (c_N (a_T 1) gNil)))) (tt:=(tEl (tOp (rI (λ i j=>IntMulOk i j) λ i j=>.int (i*j)) (tVar 0) (tVar 1)))) (b_D (sc:=a_B s_1a) (N:=N_1a) rfl rfl (by decide +kernel)) rfl (i_i rfl T.z_zip (a_A (pv 0) (a_A (pv 1) a_C))) (λ _ _ _ hE1=>(e_G rfl (b_N (b_T (N:=["left","right"]) (i:=0) hE1 rfl (by decide +kernel)) (b_N (b_T (N:=["left","right"]) (i:=1) hE1 rfl (by decide +kernel)) d_W)))) (λ _ _ _ hE1=>(c_R (a_Z c_G (pv 0) (pv 1))))) a_C)))),?_⟩;show tRet _ _ [some (.ref p),some (.ref q)] H;walk_at "r";refine b_E λ B eB=>?_;simp only [iZip];walk_at "r";refine ⟨b1,⟨_,h1⟩,b2,⟨_,h2⟩,λ a ha=>?_⟩;refine m_X (λ j y _=>∃ m n,ms[j]?=some m/\ns[j]?=some n/\y=.int (m*n)) ha h1 h2 (by simpa using hl) (by simpa using hz) (λ _ _ _ _ r _=>r) ?_ ?_
  ·intro i x y H1 zs ex ey s1 ez Q' hQ';obtain ⟨m,em,rfl⟩:=e_K ex;obtain ⟨n,en,rfl⟩:=e_K ey;subst eB;show tOp _ _ _ [some (.int m),some (.int n)] H1 Q';walk_at "r";exact ⟨hm i m n em en,hQ' _ _ (Same.refl _) ⟨m,n,em,en,rfl⟩⟩
  ·intro H1 zs s1 ez hlz hr';have ey:zs=(List.zipWith (·*·) ms ns).map V.int:=by
    refine d_L (by simp at hlz ⊢; omega) λ j y e=>?_;obtain ⟨m,n,em,en,rfl⟩:=hr' j y e;exact ⟨m*n,by rw [List.getElem?_zipWith,em,en],rfl⟩
   subst ey;exact ⟨_,rfl,_,SqL.of ez,hQ H1 s1⟩
theorem ok_11 (T:Txt K mg t):FnOk P w K mg base CX0 1 t.a_11 t.d_11 pv' (sp_11 K):=by
 refine T.F_11.ok sc_11 (by walk_at "v") (λ cdv A outer s H vs Q E hr h=>?_)
 ·obtain ⟨b1,b2,a,rows,w,rfl,hM,hne,hw,hw1,hl1,hQ⟩:=h;refine ⟨_,(a_G (a_N (b_L (xs:=["k"]) (fr:=[("rows",0)]) (g:=(a_T 0)) (tt:=(tEl (e_p (iSeq K (tVar 1)) (a_T 0) (tEl (tOp (rIxB K) (tVar 0) (tVar 1))) 1 [("k",0)]))) (b_D (sc:=a_B s_11) (N:=N_11) rfl rfl (by decide +kernel)) rfl (g_L rfl T.z_range (a_A (a_O b_C rfl T.z_len (by decide +kernel) (a_A (a_J ix_B (pv 0) a_E (λ _ _=>rfl)) a_C)) a_C)) (λ _ _ _ hE1=>(j_R (N:=["k","rows"]) (i:=0) hE1 rfl (by decide +kernel) rfl)) (λ _ _ _ hE1=>(c_R (b_L (xs:=["row"]) (fr:=[("k",0)]) (g:=(a_T 0)) (tt:=(tEl (tOp (rIxB K) (tVar 0) (tVar 1)))) (b_D (N:=["k","rows"]) hE1 rfl (by decide +kernel)) rfl (b_W (pv 1)) (λ _ _ _ hE2=>(b_T (N:=["row","k"]) (i:=0) hE2 rfl (by decide +kernel))) (λ _ _ _ hE2=>(c_R (a_J ix_B (pv 0) (pv 1) (λ _ _=>rfl)))))))))),?_⟩;show tRet _ _ [some (.ref a)] H;walk_at "r";refine b_E λ B eB=>?_;simp only [k_O];walk_at "r";obtain ⟨r0,e0⟩:∃ r0,rows[0]?=some r0:=by cases rows with | nil=>exact yJ rfl hne | cons r _=>exact ⟨r,rfl⟩
  have w0:r0.length=w:=hw r0 (zqb e0);obtain ⟨ps,p,k1,k2,k3,k4⟩:=hM.row e0;refine ⟨b1,a,_,0,_,rfl,rfl,k1,a_V k2 rfl,b2,p,_,rfl,k4,?_⟩;rw [zqe,w0];refine ⟨_,rfl,by omega,by omega,λ a1 ha1=>?_⟩;rw [zR];refine i_k (RowR a1 λ k=>colI k rows) ha1 hw1 (RowR.mono (a:=a1)) ?_ ?_
  ·intro i H1 zs hi s1 ez Q' hQ';subst eB;show e_p _ _ _ _ _ [some (.int (0+(i:Int))),some (.ref a)] H1 Q';refine b_E λ B eB=>?_;simp only [iSeq];walk_at "r";obtain ⟨xs,x1,x2,x3⟩:=(hM.up s1).walk;refine ⟨b1,⟨_,x1⟩,λ a2 ha2=>?_⟩;refine c_T (λ j y _=>∃ r,rows[j]?=some r/\y=.int (r.getD i 0)) ha2 x1 (by omega) (λ _ _ _ _ r _=>r) ?_ ?_
   ·intro j x H2 zs2 ex s2 ez2 Q2 hQ2;obtain ⟨p,r,rfl,er,hp⟩:=x3 j x ex;subst eB;show tOp _ _ _ [some (.ref p),some (.int (0+(i:Int)))] H2 Q2;walk_at "r";have hri:i < r.length:=by rw [hw r (zqb er)]; exact hi
    exact ⟨b2,p,_,_,_,rfl,rfl,hp.up s2,a_V (j_W (h_K hri)) (by omega),hQ2 _ _ (Same.refl _) ⟨r,er,rfl⟩⟩
   ·intro H2 ys s2 e2 hly hr2;have ey:ys=(colI i rows).map V.int:=by
     refine d_L (by simp [colI]; omega) λ j y e=>?_;obtain ⟨r,er,rfl⟩:=hr2 j y e;exact ⟨r.getD i 0,by unfold colI; rw [zH,er]; rfl,rfl⟩
    subst ey;exact hQ' _ _ s2 ⟨a2,rfl,Ne.symm (b_z ez ha2),e2⟩
  ·intro H1 ys s1 e1 hly hr1;have:=MatL.of e1 hr1;rw [hly] at this;exact hQ a1 H1 ha1 s1 this
theorem ok_w (T:Txt K mg t):FnOk P w K mg base CX0 1 t.a_w t.d_w pj' (sp_w K):=by
 refine T.F_w.ok sc_w (by walk_at "v") (λ cdv A outer s H vs Q E hr h=>?_)
 ·obtain ⟨b1,b2,a,rows,i0,k,w,rfl,hM,hw,hk,hw1,hl1,hQ⟩:=h;refine ⟨_,(a_G (a_N (b_L (xs:=["at","row"]) (fr:=[("i",1),("k",2)]) (g:=(gTup K 2 (c_N (a_T 0) (c_N (a_T 1) gNil)))) (tt:=(j_j (k_P (tOp (rI0 λ i j=>.bl (!decide (i=j))) (tVar 0) (tVar 2))) (tOp rCat (tCB (j_S K) (b_X (tSl (rSlB K) (tVar 1) g_m (k_R (tVar 3))) tNil)) (tCB (j_S K) (b_X (tSl (rSlB K) (tVar 1) (k_R (tOp (rI0 λ i j=>.int (i+j)) (tVar 3) (tC (.int 1)))) g_m) tNil))))) (b_D (sc:=a_B s_w) (N:=N_w) rfl rfl (by decide +kernel)) rfl (h_I rfl T.z_enumerate (a_A (pv 0) a_C)) (λ _ _ _ hE1=>(e_G rfl (b_N (b_T (N:=["at","row","i","k"]) (i:=0) hE1 rfl (by decide +kernel)) (b_N (b_T (N:=["at","row","i","k"]) (i:=1) hE1 rfl (by decide +kernel)) d_W)))) (λ _ _ _ hE1=>(w_A (a_K d_I (pv 0) (pv 2) (a_U _)) (a_Z j_M (b_Q d_K rfl T.z_list (by decide +kernel) (a_A (d_O sl_B (pv 1) e_I (d_X (pv 3))) a_C)) (b_Q d_K rfl T.z_list (by decide +kernel) (a_A (d_O sl_B (pv 1) (d_X (a_Z g_b (pv 3) a_E)) e_I) a_C)))))))),?_⟩;show tRet _ _ [some (.ref a),some (.int i0),some (.int k)] H;walk_at "r";refine r_u λ C0 B0 eC eB=>?_;simp only [k_X];walk_at "r";obtain ⟨xs,x1,x2,x3⟩:=hM.walk;refine ⟨b1,⟨_,x1⟩,λ a1 ha1=>?_⟩;refine r_U (λ t zs H1=>c_I a1 H1 zs (((rows.take t).eraseIdx i0).map λ (r:List Int)=>r.eraseIdx k)) ha1 x1 (by omega) c_I.nil ?_ (λ _ _ _ _ r s=>r.mono s) ?_ ?_
  ·intro i zs H1 p;rw [p.len,zqe,List.length_eraseIdx];have:=List.length_take_le i rows;split <;> omega
  ·intro i x H1 zs ex s1 ez p C hC1 hC2;obtain ⟨q0,r,rfl,er,hp⟩:=x3 i x ex;have hrw:r.length=w:=hw r (zqb er);replace hp:=hp.up s1;rw [n_L er] at hC1 hC2;subst eC eB;show j_j _ _ [some (.int i),some (.ref q0),some (.int i0),some (.int k)] H1 C;simp only [j_j];walk_at "r"
   by_cases z:i=i0
   ·subst z;rw [if_pos rfl] at hC2;rw [zW rfl];exact hC2 H1 (Same.refl _) p
   ·rw [if_neg z] at hC1;rw [zX (show ¬ (i:Int)=i0 by omega)];refine iteT ?_;refine ⟨b2,q0,_,rfl,hp,λ _=>by rw [zqe,HT.sIx_none,HT.sIx_nat]; omega,λ q1 hq1=>?_⟩;have sq1:SqB b2 K (upd H1 q1 (seqO b2 (cutV (r.map V.int) none (some (k:Int))))) q1 (cutV (r.map V.int) none (some (k:Int))):=SqB.cut;have s2:Same H1 (upd H1 q1 (seqO b2 (cutV (r.map V.int) none (some (k:Int))))):=Same.new hq1;generalize upd H1 q1 _=H2 at sq1 s2;rw [v_D (by omega)] at sq1;refine ⟨b2,q1,_,rfl,sq1,λ q2 hq2=>?_⟩;have e2:(upd H2 q2 (.lst ((r.take k).map V.int))) q2=some (.lst ((r.take k).map V.int)):=a_F;have s3:Same H2 (upd H2 q2 (.lst ((r.take k).map V.int))):=Same.new hq2;generalize upd H2 q2 _=H3 at e2 s3;refine ⟨b2,q0,_,rfl,(hp.up s2).up s3,λ _=>by rw [zqe,HT.sIx_none,show (k:Int)+1=((k+1:Nat):Int) by omega,HT.sIx_nat]; omega,λ q3 hq3=>?_⟩;have sq3:SqB b2 K (upd H3 q3 (seqO b2 (cutV (r.map V.int) (some ((k:Int)+1)) none))) q3 (cutV (r.map V.int) (some ((k:Int)+1)) none):=SqB.cut;have s4:Same H3 (upd H3 q3 (seqO b2 (cutV (r.map V.int) (some ((k:Int)+1)) none))):=Same.new hq3;generalize upd H3 q3 _=H4 at sq3 s4;rw [show (k:Int)+1=((k+1:Nat):Int) by omega,r_v (by omega)] at sq3;refine ⟨b2,q3,_,rfl,sq3,λ q4 hq4=>?_⟩;have s5:Same H4 (upd H4 q4 (.lst ((r.drop (k+1)).map V.int))):=Same.new hq4;have e4:(upd H4 q4 (.lst ((r.drop (k+1)).map V.int))) q4=some (.lst ((r.drop (k+1)).map V.int)):=a_F;generalize upd H4 q4 _=H5 at e4 s5;refine ⟨q2,q4,_,_,rfl,rfl,s5 _ _ (s4 _ _ e2),e4,by rw [zqe,zqe,List.length_take,List.length_drop]; exact Nat.le_of_lt (f_N (by omega)),λ q5 hq5=>?_⟩;have s15:Same H1 (upd H5 q5 (.lst ((r.take k).map V.int++(r.drop (k+1)).map V.int))):=(((s2.trans s3).trans s4).trans s5).trans (Same.new hq5);refine hC1 _ _ s15 ?_;rw [List.map_append];refine (p.mono s15.x).snoc (λ e=>?_) ?_
    ·subst e;rw [s5 _ _ (s4 _ _ (s3 _ _ (s2 _ _ ez)))] at hq5;cases hq5
    ·rw [a_F]; dsimp only; rw [List.eraseIdx_eq_take_drop_succ,List.map_append]
  ·intro H1 ys s1 e1 p;rw [x2,List.take_length] at p;exact hQ a1 H1 ha1 s1 (c_I.mat e1 p)
theorem ok_2 (T:Txt K mg t):∀ n:Nat,FnOk P w K mg base CX0 (n+1) t.a_2 t.d_2 pv' (sp_2 K n)
 | 0=>⟨λ _ _ _ _ h=>h.elim,λ _ _ _ _ _ _ _ _ _ _ _ _ _ h=>h.elim⟩
 | n+1=>by
  have G_2:FnOk P w K mg base CX0 (n+1) t.a_2 t.d_2 pv' (sp_2 K n):=ok_2 T n;have G_w:=@ok_w P w K mg base t T;refine T.F_2.ok sc_2 (by walk_at "v") (λ cdv A outer s H vs Q E hr h=>?_)
  ·obtain ⟨b1,b2,a,rows,B,rfl,hM,hs,hn,hb,hB,hQ⟩:=h;refine ⟨_,(a_D (b_G (a_K f_D (a_O b_C rfl T.z_len (by decide +kernel) (a_A (pv 0) a_C)) a_E (a_U _))
   (a_G (a_N (a_J ix_B (a_J ix_B (pv 0) a_E (λ _ _=>rfl)) a_E (λ _ _=>rfl))))
   a_S)
   (a_D (a_R (i:=1) sc_2.nd rfl (Or.inl rfl) a_E)
   (a_D (a_R (i:=2) sc_2.nd rfl (Or.inl rfl) a_E)
   (a_D (d_A zG rfl (h_I rfl T.z_enumerate (a_A (a_J ix_B (pv 0) a_E (λ _ _=>rfl)) a_C)) (e_G rfl (b_N (b_R (i:=3) sc_2.nd rfl (Or.inl rfl)) (b_N (b_R (i:=4) sc_2.nd rfl (Or.inl rfl)) d_W)))
   (a_D (b_G (a_K d_I (pv 4) a_E (a_U _))
   (a_G (q_L (i:=1) sc_2.nd rfl (Or.inl rfl) (a_Z c_G (a_Z c_G (pv 2) (pv 4)) (a_P G_2 hr.mo rfl T.m_2 T.F_2.kp T.b_2 .nil b_B (a_A (a_P G_w hr.mo rfl T.m_w T.F_w.kp T.b_w .nil b_B (a_A (pv 0) (a_A a_E (a_A (pv 3) a_C)))) a_C))) q_M))
   a_S)
   (a_G (a_R (i:=2) sc_2.nd rfl (Or.inl rfl) (e_S d_S (pv 2))))))
   (a_G (a_N (pv 1))))))),?_⟩
   show tSeq _ _ _ [some (.ref a),none,none,none,none] H;obtain ⟨e0,m0⟩:=row0 hs;have hl0:(rows.getD 0 []).length=n+1:=hs.2 _ m0;refine st λ N1 e1=>?_;walk_at "r";refine j_X hM ?_;walk_at "r";rw [hs.1]
   by_cases z:n=0
   ·subst z;rw [zW (by rfl)];exact iteT (i_l hM e0 (h_K (k:=0) (by omega)) rfl rfl (hQ H (Same.refl _)))
   ·rw [zX (show ¬ ((n+1:Nat):Int)=1 by omega)];refine iteF ?_;obtain ⟨n,rfl⟩:∃ m,n=m+1:=⟨n - 1,by omega⟩;subst e1;refine st λ N1 e1=>?_;walk_at "r";subst e1;refine st λ N1 e1=>?_;walk_at "r";subst e1;refine st λ N1 e1=>d_B λ B0 eB=>?_;simp only [k_X];walk_at "r";refine t_Y hM e0 rfl λ p hp=>⟨b2,_,rfl,⟨_,hp⟩,?_⟩;generalize hf:(λ k=>(rows.getD 0 []).getD k 0*detM (n+1) (e_s 0 k rows))=f;refine o_s (nx:=N1) (rt:=Q) (λ k σ H1=>∃ v3 v4,σ=[some (.ref a),some (.int (altS f k)),some (.int (sg k)),v3,v4]/\Same H H1) ⟨_,_,rfl,Same.refl _⟩ (λ _ _ _ _ ⟨_,_,_,s1⟩=>hp.up s1) ?_ ?_
    ·rintro k x q σ H1 ex ⟨v3,v4,rfl,s1⟩ hq;obtain ⟨x,ex',rfl⟩:=e_K ex;have hk:k < n+2:=by have:=(zqa ex').1; omega
     refine ⟨q,[.int k,.int x],rfl,SqT.of a_F,rfl,_,_,rfl,_,_,rfl,rfl,?_⟩;replace s1:=s1.trans (Same.new (o:=.tup [.int k,.int x]) hq);generalize upd H1 q (.tup [.int k,.int x])=H2 at s1;subst eB;show tSeq _ _ _ [some (.ref a),some (.int (altS f k)),some (.int (sg k)),some (.int k),some (.int x)] H2;refine st λ N2 e2=>?_;have key:∀ H3 (tot:Int),Same H H3->tot=altS f (k+1)->N2 [some (.ref a),some (.int tot),some (.int (sg k)),some (.int k),some (.int x)] H3:=by
      intro H3 tot s3 et;subst e2 et;walk_at "r";rw [u_o];exact ⟨rfl,s3⟩
     walk_at "r";have hx0:(rows.getD 0 []).getD k 0=x:=getD_of ex';have hfk:f k=x*detM (n+1) (e_s 0 k rows):=by rw [← hf]; dsimp only; rw [hx0]
     have hsm:=hs.minor (i:=0) (k:=k) (by omega) hk;have hbm:d_R B (e_s 0 k rows):=hb.minor
     by_cases zx:x=0
     ·rw [zW zx];refine iteF (key H2 _ s1 ?_);show _=altS f k+sg k*f k;rw [hfk,zx];simp
     ·rw [zX zx];refine iteT ?_;simp only [tAug,ipI];walk_at "r";refine ⟨IntMulOk.of_left (by unfold sg; split <;> decide),b1,b2,a,rows,0,k,_,rfl,hM.up s1,hs.2,hk,by omega,by rw [hs.1]; omega,λ r H3 _ s3 hR=>?_⟩;refine ⟨false,false,r,_,B,rfl,hR.b,hsm,by omega,hbm,hB,λ H4 s4=>?_⟩;walk_at "r";have hxb:=hb _ m0 x (by rw [← hx0]; exact L2.getD_mem (by omega));have hdb:=o_G (n+1) _ (by omega) (by omega) hsm hbm;refine ⟨mulOk_of_bits (m:=B+1) (n:=(n+1)*(B+2)+1) (c_Y ?_) (c_Y ?_) ?_,?_⟩
      ·rw [yE,r_T,Nat.one_mul,Nat.pow_succ]; omega
      ·rw [Nat.pow_succ]; have:=Nat.two_pow_pos ((n+1)*(B+2)); omega
      ·have:(n+1)*(B+2)<=4*1000002:=Nat.mul_le_mul (by omega) (by omega);omega
      ·refine key H4 _ ((s1.trans s3).trans s4) ?_;show _=altS f k+sg k*f k;rw [hfk,Int.mul_assoc]
    ·rintro σ H1 ⟨v3,v4,rfl,s1⟩;subst e1;walk_at "r";rw [zqe,hl0];have:altS f (n+2)=detM (n+2) rows:=by rw [← hf]; rfl
     rw [this];exact hQ H1 s1
theorem ok_i (T:Txt K mg t):FnOk P w K mg base CX0 1 t.a_i t.d_i ["size"] sp_i:=by
 refine T.F_i.ok sc_i (by walk_at "v") (λ cdv A outer s H vs Q E hr h=>?_)
 ·obtain ⟨n,rfl,hn,hQ⟩:=h;refine ⟨_,(a_G (a_N (b_L (xs:=["i"]) (fr:=[("size",0)]) (g:=(a_T 0)) (tt:=(tEl (e_p (k_O (b_X (tVar 1) tNil)) (a_T 0) (tEl (tIf (k_P (tOp (rI0 λ i j=>.bl (decide (i=j))) (tVar 1) (tVar 0))) (tC (.int 1)) (tC (.int 0)))) 1 [("i",0)]))) (b_D (sc:=a_B s_i) (N:=N_i) rfl rfl (by decide +kernel)) rfl (g_L rfl T.z_range (a_A (pv 0) a_C)) (λ _ _ _ hE1=>(j_R (N:=["i","size"]) (i:=0) hE1 rfl (by decide +kernel) rfl)) (λ _ _ _ hE1=>(c_R (b_L (xs:=["k"]) (fr:=[("i",0)]) (g:=(a_T 0)) (tt:=(tEl (tIf (k_P (tOp (rI0 λ i j=>.bl (decide (i=j))) (tVar 1) (tVar 0))) (tC (.int 1)) (tC (.int 0))))) (b_D (N:=["i","size"]) hE1 rfl (by decide +kernel)) rfl (g_L rfl T.z_range (a_A (pv 1) a_C)) (λ _ _ _ hE2=>(b_T (N:=["k","i"]) (i:=0) hE2 rfl (by decide +kernel))) (λ _ _ _ hE2=>(c_R (g_l (a_K f_D (pv 1) (pv 0) (a_U _)) a_E a_E))))))))),?_⟩;show tRet _ _ [some (.int n)] H;walk_at "r";refine b_E λ B eB=>?_;simp only [k_O];walk_at "r";refine ⟨by omega,by omega,λ m0 hm0=>?_⟩;rw [zR];refine i_k (RowR m0 λ i=>(List.range n).map λ k=>if i=k then (1:Int) else 0) hm0 hn (RowR.mono (a:=m0)) ?_ ?_
  ·intro i H2 zs hi s2 ez Q' hQ';subst eB;show e_p _ _ _ _ _ [some (.int (0+(i:Int))),some (.int n)] H2 Q';refine b_E λ B eB=>?_;simp only [k_O];walk_at "r";refine ⟨by omega,by omega,λ a2 ha2=>?_⟩;rw [zR];refine i_k (λ k y _=>k < n/\y=.int (if i=k then 1 else 0)) ha2 hn (λ _ _ _ _ r _=>r) ?_ ?_
   ·intro k H3 zs3 hk s3 ez3 Q2 hQ2;subst eB;show tIf _ _ _ [some (.int (0+(k:Int))),some (.int (0+(i:Int)))] H3 Q2;walk_at "r"
    by_cases z:i=k
    ·rw [zW (by omega)];exact iteT (hQ2 _ _ (Same.refl _) ⟨hk,by rw [if_pos z]⟩)
    ·rw [zX (by omega)];exact iteF (hQ2 _ _ (Same.refl _) ⟨hk,by rw [if_neg z]⟩)
   ·intro H3 ys s3 e3 hly hr3;have ey:ys=((List.range n).map λ k=>if i=k then (1:Int) else 0).map V.int:=by
     refine d_L (by simpa using hly) λ j y e=>?_;obtain ⟨hj,rfl⟩:=hr3 j y e;exact ⟨_,by rw [zH,yH hj]; rfl,rfl⟩
    subst ey;exact hQ' _ _ s3 ⟨a2,rfl,Ne.symm (b_z ez ha2),e3⟩
  ·intro H2 ys s2 e2 hly hr2;have hM0:=MatL.of e2 hr2;rw [hly] at hM0;exact hQ m0 H2 hm0 s2 hM0
theorem e_A {H:Hp} {p:Addr} {M:LM} {ts:List Int} {u:Int} {Q:VK} (h:c_J K H p M ts u) (q:∀ x,MatB true true K H x M->Q (.ref x) H):rIxB K (.ref p) (.int 0) H Q:=let ⟨x,y,h1,h2,h3⟩:=h; ⟨true,p,_,_,_,rfl,rfl,SqB.tup h1,rfl,q x h2⟩
theorem i_x {H:Hp} {p:Addr} {M:LM} {ts:List Int} {u:Int} {Q:VK} (h:c_J K H p M ts u) (q:∀ x,H x=some (.tup (ts.map V.int))->Q (.ref x) H):rIxB K (.ref p) (.int 1) H Q:=let ⟨x,y,h1,h2,h3⟩:=h; ⟨true,p,_,_,_,rfl,rfl,SqB.tup h1,rfl,q y h3⟩
theorem g_A {H:Hp} {p:Addr} {M:LM} {ts:List Int} {u:Int} {Q:VK} (h:c_J K H p M ts u) (q:Q (.int u) H):rIxB K (.ref p) (.int 2) H Q:=let ⟨x,y,h1,h2,h3⟩:=h; ⟨true,p,_,_,_,rfl,rfl,SqB.tup h1,rfl,q⟩
theorem p_M {H:Hp} {a a1:Addr} {M:LM} {σ:St} {Q:VK} {b1 b2:Bool} (hM:MatB b1 b2 K H a M) (hl:M.length<=1000) (ha1:H a1=none)
  (hQ:∀ H1 zs,Same H H1->H1 a1=some (.lst zs)->(∀ l,H1 l=none->MatB true true K (upd H1 l (.tup zs)) l M)->Q (.ref a1) H1):d_J (Its K b1 a) (a_T 0) (tEl (tCB (o_p K) (b_X (tVar 0) tNil))) 1 [] σ a1 H Q:=by
 cases b2 with
 | false =>
  refine r_w hM hl ha1 λ H1 s1 hT=>?_;obtain ⟨zs,hz,_⟩:=id hT;refine hQ H1 _ s1 hz λ l hl1=>?_;obtain ⟨zs',hz',hB⟩:=hT.tuple (K:=K) hl1;rw [hz] at hz';cases hz';exact hB
 | true =>
  obtain ⟨xs,x1,x2,x3⟩:=hM.walk;refine c_T (λ j y _=>∃ p r,y=.ref p/\M[j]?=some r/\SqB true K H p (r.map V.int)) ha1 x1 (by omega) (λ _ _ _ _ r _=>r) ?_ ?_
  ·intro i x H1 zs ex s1 ez Q' hQ';obtain ⟨p,r,rfl,er,hp⟩:=x3 i x ex;exact ⟨_,rfl,p,_,rfl,.inr ⟨hp.up s1,hQ' _ _ (Same.refl _) ⟨p,r,rfl,er,hp⟩⟩⟩
  ·intro H1 ys s1 e1 hly hr1;have hps:∃ ps:List Addr,ys=ps.map V.ref:=by
    clear e1 hly;have:∀ (zs:List V),(∀ (j:Nat) y,zs[j]?=some y->∃ p:Addr,y=.ref p)->∃ ps:List Addr,zs=ps.map V.ref:=by
     intro zs
     induction zs with
     | nil=>intro _; exact ⟨[],rfl⟩
     | cons z r ih =>
      intro hz;obtain ⟨p,e⟩:=hz 0 z rfl;obtain ⟨ps,e2⟩:=ih λ j y q=>hz (j+1) y (by simpa using q);exact ⟨p :: ps,by rw [e,e2]; rfl⟩
    exact this ys λ j y e=>let ⟨p,r,e1,_⟩:=hr1 j y e; ⟨p,e1⟩
   obtain ⟨ps,rfl⟩:=hps;refine hQ H1 _ s1 e1 λ l hl1=>⟨ps,SqB.tup a_F,by simp at hly; omega,λ i p r e2 e3=>?_⟩;obtain ⟨p',r',e4,e5,e6⟩:=hr1 i (.ref p) (by simp [e2]);cases e4;rw [e3] at e5;cases e5;exact e6.up (s1.trans (Same.new hl1))
theorem ok_x (T:Txt K mg t):FnOk P w K mg base CX0 1 t.a_x t.d_x pl' (sp_x K):=by
 refine T.F_x.ok sc_x (by walk_at "v") (λ cdv A outer s H vs Q E hr h=>?_)
 ·obtain ⟨b1,b2,a,p,M,ts,u,rfl,hM,hP,hl,hQ⟩:=h;refine ⟨_,(a_G (a_N (b_P (a_A (b_Q d_Z rfl T.z_tuple (by decide +kernel) (a_A (b_L (xs:=["row"]) (fr:=[]) (g:=(a_T 0)) (tt:=(tEl (tCB (o_p K) (b_X (tVar 0) tNil)))) (b_D (sc:=a_B s_x) (N:=N_x) rfl rfl (by decide +kernel)) rfl (b_W (pv 0)) (λ _ _ _ hE1=>(b_T (N:=["row"]) (i:=0) hE1 rfl (by decide +kernel))) (λ _ _ _ hE1=>(c_R (b_Q d_Z rfl T.z_tuple (by decide +kernel) (a_A (pv 0) a_C))))) a_C)) (a_A (a_J ix_B (pv 1) a_E (λ _ _=>rfl)) (a_A (a_J ix_B (pv 1) a_E (λ _ _=>rfl)) a_C)))))),?_⟩;show tRet _ _ [some (.ref a),some (.ref p)] H;walk_at "r";refine b_E λ B eB=>?_;simp only [iSeq];walk_at "r";obtain ⟨xs,x1,_⟩:=hM.walk;refine ⟨b1,⟨_,x1⟩,λ a1 ha1=>?_⟩;subst eB;refine p_M hM (by omega) ha1 λ H1 zs s1 hz hB=>?_;refine ⟨a1,_,rfl,.inl ⟨SqL.of hz,λ l hl1=>?_⟩⟩;have s2:Same H (upd H1 l (.tup zs)):=s1.trans (Same.new hl1);replace hB:=hB l hl1;generalize upd H1 l (.tup zs)=H2 at s2 hB;refine g_X (hP.up s2) λ x hx=>f_S (hP.up s2) ⟨(by show 3<=sizeLine; decide),λ q hq=>hQ q _ (s2.trans (Same.new hq)) ⟨l,x,a_F,hB.up (Same.new hq),Same.new hq _ _ hx⟩⟩
theorem ok_16 (T:Txt K mg t):FnOk P w K mg base CX0 2 t.a_16 t.d_16 py' (sp_16 K):=by
 have G_x:=@ok_x P w K mg base t T;have G_h:=@ok_h P w K mg base t T;refine T.F_16.ok sc_16 (by walk_at "v") (λ cdv A outer s H vs Q E hr h=>?_)
 ·obtain ⟨p,M,ts,u,rfl,hD,hl,hl2,hu,hQ⟩:=h;refine ⟨_,(a_G (a_N (a_P G_x hr.mo rfl T.m_x T.F_x.kp T.b_x .nil b_B (a_A (a_J ix_B (pv 0) a_E (λ _ _=>rfl)) (a_A (a_P G_h hr.mo rfl T.m_h T.F_h.kp T.b_h .nil b_B (a_A (b_P (a_A (a_J ix_B (pv 0) a_E (λ _ _=>rfl)) (a_A (a_J ix_B (pv 0) a_E (λ _ _=>rfl)) a_C))) a_C)) a_C))))),?_⟩;show tRet _ _ [some (.ref p)] H;walk_at "r";refine e_A hD λ x hx=>i_x hD λ y hy=>g_A hD ⟨(by show 2<=sizeLine; decide),λ l hl1=>?_⟩;have s1:Same H (upd H l (.tup [.ref y,.int u])):=Same.new hl1;refine ⟨l,ts,u,rfl,⟨y,a_F,s1 _ _ hy⟩,hl2,hu,λ p' H2 s2 hP=>?_⟩;exact ⟨true,true,x,p',M,_,u,rfl,hx.up (s1.trans s2),hP,hl,λ q H3 s3 hq=>hQ q H3 ((s1.trans s2).trans s3) hq⟩
theorem ok_13 (T:Txt K mg t):FnOk P w K mg base CX0 3 t.a_13 t.d_13 pn' (sp_13 K):=by
 have G_1a:=@ok_1a P w K mg base t T;have G_12:=@ok_12 P w K mg base t T;refine T.F_13.ok sc_13 (by walk_at "v") (λ cdv A outer s H vs Q E hr h=>?_)
 ·obtain ⟨p,q,M,ts,ns,u,v,d,rfl,hD,hP,fi,hd1,hd4,hnl,bn,hv,hv2,hQ⟩:=h;refine ⟨_,(a_D (g_r (i:=2) (xs:=["row","top"]) (fr:=[("one",0),("spot",1)]) (g:=(gTup K 2 (c_N (a_T 0) (c_N (a_T 1) gNil)))) (tt:=(tEl (tOp (rI0 λ i j=>.int (i+j)) (tOp (rI (λ i j=>IntMulOk i j) λ i j=>.int (i*j)) (e_u (sp_1a K) [] E0 (b_X (tVar 0) (b_X (tOp (rIxB K) (tVar 3) (tC (.int 0))) tNil))) (tOp (rIxB K) (tVar 2) (tC (.int 2)))) (tOp (rI (λ i j=>IntMulOk i j) λ i j=>.int (i*j)) (tVar 1) (tOp (rIxB K) (tVar 3) (tC (.int 1))))))) (b_D (sc:=a_B s_13) (N:=N_13) rfl rfl (by decide +kernel)) rfl sc_13.nd rfl rfl (i_i rfl T.z_zip (a_A (a_J ix_B (pv 0) a_E (λ _ _=>rfl)) (a_A (a_J ix_B (pv 0) a_E (λ _ _=>rfl)) a_C))) (λ _ _ _ hE1=>(e_G rfl (b_N (b_T (N:=["row","top","one","spot"]) (i:=0) hE1 rfl (by decide +kernel)) (b_N (b_T (N:=["row","top","one","spot"]) (i:=1) hE1 rfl (by decide +kernel)) d_W)))) (λ _ _ _ hE1=>(c_R (a_Z g_b (a_Z c_G (a_P G_1a hr.mo rfl T.m_1a T.F_1a.kp T.b_1a .nil b_B (a_A (pv 0) (a_A (a_J ix_B (pv 3) a_E (λ _ _=>rfl)) a_C))) (a_J ix_B (pv 2) a_E (λ _ _=>rfl))) (a_Z c_G (pv 1) (a_J ix_B (pv 3) a_E (λ _ _=>rfl)))))))
   (a_G (a_N (a_P G_12 hr.mo rfl T.m_12 T.F_12.kp T.b_12 .nil f_O (a_A (pv 2) (a_A (a_Z c_G (a_J ix_B (pv 0) a_E (λ _ _=>rfl)) (a_J ix_B (pv 1) a_E (λ _ _=>rfl))) a_C)))))),?_⟩
  show tSeq _ _ _ [some (.ref p),some (.ref q),none] H;refine st λ N1 e1=>?_;walk_at "r";refine b_E λ B eB=>?_;simp only [iZip];walk_at "r";refine e_A hD λ x hx=>i_x hD λ y hy=>?_;obtain ⟨xs,x1,x2,x3⟩:=hx.walk;refine ⟨true,true,x,rfl,y,rfl,⟨_,x1⟩,⟨_,SqB.tup hy⟩,λ a1 ha1=>?_⟩;have hraw:∀ (i:Nat) (r:List Int) (tt:Int),M[i]?=some r->ts[i]?=some tt->(movT M ts u ns v)[i]?=some (dotI r ns*u+tt*v):=λ i r tt e1 e2=>by
   unfold movT;rw [List.getElem?_zipWith,e1,e2]
  refine m_X (λ j z _=>∃ n,(movT M ts u ns v)[j]?=some n/\z=.int n) ha1 x1 (SqB.tup hy) (by rw [x2,fi.sq.1,zqe,fi.len]) (by rw [x2,fi.sq.1]; omega) (λ _ _ _ _ r _=>r) ?_ ?_
  ·intro i zr zt H1 zs er et s1 ez Q' hQ';obtain ⟨pr,r,rfl,er2,hp⟩:=x3 i zr er;obtain ⟨tt,et2,rfl⟩:=e_K et;have hrl:r.length=d:=fi.sq.2 r (zqb er2);have br:=fi.bm r (zqb er2);subst eB;show tOp _ _ _ [some (.ref pr),some (.int tt),some (.ref p),some (.ref q)] H1 Q';walk_at "r";refine g_X (hP.up s1) λ z hz=>?_;refine ⟨true,true,pr,z,r,ns,rfl,hp.up s1,SqB.tup hz,by omega,by omega,λ i2 m n e1 e2=>mulOk_of_bits (c_Y (br m (zqb e1))) (c_Y (bn n (zqb e2))) (by decide),λ H2 s2=>?_⟩;refine g_A (hD.up (s1.trans s2)) ?_;walk_at "r";have hda:=o_H r ns br bn;have hdb:(dotI r ns).natAbs < 2 ^ 400010:=by
    have:r.length*2 ^ (200000+200000)<=4*2 ^ (200000+200000):=zK _ (by omega);have e:(2:Nat) ^ 400010=1024*2 ^ (200000+200000):=by rw [show (400010:Nat)=10+(200000+200000) from rfl,Nat.pow_add]
    have:=Nat.two_pow_pos (200000+200000);omega
   refine ⟨mulOk_of_bits (c_Y hdb) (c_Y (f_R fi.pos fi.bu)) (by decide),?_⟩;refine f_S (hP.up (s1.trans s2)) ?_;walk_at "r";refine ⟨mulOk_of_bits (c_Y (fi.bt tt (zqb et2))) (c_Y (f_R hv hv2)) (by decide),?_⟩;exact hQ' _ _ s2 ⟨_,hraw i r tt er2 et2,rfl⟩
  ·intro H1 zs s1 ez1 hlz hr1;have hml:(movT M ts u ns v).length=d:=by unfold movT; rw [List.length_zipWith,fi.sq.1,fi.len]; omega
   have ey:zs=(movT M ts u ns v).map V.int:=d_L (by rw [hlz,x2,fi.sq.1,hml]) hr1;subst ey;subst e1;walk_at "r";refine g_A (hD.up s1) ?_;refine f_S (hP.up s1) ?_;walk_at "r";have hsp:=i_w fi.pos fi.bu hv hv2;refine ⟨mulOk_of_bits (c_Y (f_R fi.pos fi.bu)) (c_Y (f_R hv hv2)) (by decide),?_⟩;refine ⟨false,a1,_,_,rfl,SqB.lst ez1,by omega,hsp.1,λ z=>?_,λ _ _ r H2 s2 hR=>hQ r H2 (s1.trans s2) hR⟩;rcases z with z | z
   ·omega
   ·rw [z] at hml; simp at hml; omega
theorem ok_10 (T:Txt K mg t):FnOk P w K mg base CX0 4 t.a_10 t.d_10 pk' (sp_10 K):=by
 have G_1a:=@ok_1a P w K mg base t T;have G_11:=@ok_11 P w K mg base t T;have G_13:=@ok_13 P w K mg base t T;have G_x:=@ok_x P w K mg base t T;refine T.F_10.ok sc_10 (by walk_at "v") (λ cdv A outer s H vs Q E hr h=>?_)
 ·obtain ⟨p,q,M,N,ts,ns,u,v,d,rfl,hD,hE,f1,f2,hd1,hd4,hQ⟩:=h;refine ⟨_,(a_D (a_R (i:=2) sc_10.nd rfl (Or.inr rfl) (a_P G_11 hr.mo rfl T.m_11 T.F_11.kp T.b_11 .nil b_B (a_A (a_J ix_B (pv 0) a_E (λ _ _=>rfl)) a_C)))
   (a_D (g_r (i:=3) (xs:=["row"]) (fr:=[("columns",2)]) (g:=(a_T 0)) (tt:=(tEl (e_p (iSeq K (tVar 1)) (a_T 0) (tEl (e_u (sp_1a K) [] E0 (b_X (tVar 1) (b_X (tVar 0) tNil)))) 1 [("row",0)]))) (b_D (sc:=a_B s_10) (N:=N_10) rfl rfl (by decide +kernel)) rfl sc_10.nd rfl rfl (b_W (a_J ix_B (pv 1) a_E (λ _ _=>rfl))) (λ _ _ _ hE1=>(j_R (N:=["row","columns"]) (i:=0) hE1 rfl (by decide +kernel) rfl)) (λ _ _ _ hE1=>(c_R (b_L (xs:=["column"]) (fr:=[("row",0)]) (g:=(a_T 0)) (tt:=(tEl (e_u (sp_1a K) [] E0 (b_X (tVar 1) (b_X (tVar 0) tNil))))) (b_D (N:=["row","columns"]) hE1 rfl (by decide +kernel)) rfl (b_W (pv 1)) (λ _ _ _ hE2=>(b_T (N:=["column","row"]) (i:=0) hE2 rfl (by decide +kernel))) (λ _ _ _ hE2=>(c_R (a_P G_1a hr.mo rfl T.m_1a T.F_1a.kp T.b_1a .nil b_B (a_A (pv 1) (a_A (pv 0) a_C)))))))))
   (a_G (a_N (a_P G_x hr.mo rfl T.m_x T.F_x.kp T.b_x .nil b_B (a_A (pv 3) (a_A (a_P G_13 hr.mo rfl T.m_13 T.F_13.kp T.b_13 .nil b_B (a_A (pv 1) (a_A (b_P (a_A (a_J ix_B (pv 0) a_E (λ _ _=>rfl)) (a_A (a_J ix_B (pv 0) a_E (λ _ _=>rfl)) a_C))) a_C))) a_C))))))),?_⟩
  show tSeq _ _ _ [some (.ref p),some (.ref q),none,none] H;refine st λ N1 e1=>?_;walk_at "r";have hne:M≠[]:=λ z=>by have:=f1.sq.1; rw [z] at this; simp at this; omega
  refine e_A hD λ x hx=>⟨true,true,x,M,d,rfl,hx,hne,f1.sq.2,by omega,by rw [f1.sq.1]; omega,λ c H1 hc s1 hC=>?_⟩;subst e1;refine st λ N1 e1=>?_;walk_at "r";refine b_E λ B eB=>?_;simp only [iSeq];walk_at "r";refine e_A (hE.up s1) λ y hy=>?_;obtain ⟨xs,x1,x2,x3⟩:=hy.walk;refine ⟨true,y,rfl,⟨_,x1⟩,λ a1 ha1=>?_⟩;refine c_T (RowR a1 λ j=>(List.range d).map λ k=>dotI (N.getD j []) (colI k M)) ha1 x1 (by rw [x2,f2.sq.1]; omega) (RowR.mono (a:=a1)) ?_ ?_
  ·intro i x H2 zs ex s2 ez Q' hQ';obtain ⟨pr,r,rfl,er,hp⟩:=x3 i x ex;have erD:N.getD i []=r:=by rw [zqc,er]; rfl
   have hrl:r.length=d:=f2.sq.2 r (zqb er);have br:=f2.bm r (zqb er);subst eB;show e_p _ _ _ _ _ [some (.ref pr),some (.ref c)] H2 Q';refine b_E λ B eB=>?_;simp only [iSeq];walk_at "r";obtain ⟨zs2,z1,z2,z3⟩:=((hC.up s2).b (K:=K)).walk;refine ⟨false,⟨_,z1⟩,λ a2 ha2=>?_⟩;have hlen:(o_q d M).length=d:=by simp [o_q]
   refine c_T (λ j y _=>y=.int (dotI r (colI j M))/\j < d) ha2 z1 (by omega) (λ _ _ _ _ r _=>r) ?_ ?_
   ·intro j y H3 zs3 ey s3 ez3 Q2 hQ2;obtain ⟨q2,col,rfl,ec,hq⟩:=z3 j y ey;have hj:j < d:=by have:=(zqa ec).1; omega
    have ecol:col=colI j M:=by
     unfold o_q at ec;rw [zH,yH hj] at ec;exact (zT ec).symm
    subst eB ecol;show e_u _ _ _ _ [some (.ref q2),some (.ref pr)] H3 Q2;walk_at "r";refine ⟨true,false,pr,q2,r,colI j M,rfl,(hp.up s2).up s3,hq.up s3,by simp [colI,hrl,f1.sq.1],by omega,λ i2 m n e1 e2=>?_,λ H4 s4=>hQ2 _ _ s4 ⟨rfl,hj⟩⟩;unfold colI at e2;rw [zH] at e2;cases eb:M[i2]? with
    | none=>rw [eb] at e2; cases e2
    | some rb =>
     rw [eb] at e2;have e2':rb.getD j 0=n:=zT e2;subst e2';have hrb:=zqb eb;exact mulOk_of_bits (c_Y (br m (zqb e1))) (c_Y (f1.bm rb hrb _ (L2.getD_mem (by rw [f1.sq.2 rb hrb]; exact hj)))) (by decide)
   ·intro H3 ys s3 e3 hly hr3;have ey:ys=((List.range d).map λ k=>dotI r (colI k M)).map V.int:=by
     refine d_L (by simp; omega) λ j y e=>?_;obtain ⟨rfl,hj⟩:=hr3 j y e;exact ⟨_,by rw [zH,yH hj]; rfl,rfl⟩
    subst ey;exact hQ' _ _ s3 ⟨a2,rfl,Ne.symm (b_z ez ha2),by dsimp only; rw [erD]; exact e3⟩
  ·intro H2 ys s2 e2 hly hr2;have hR:=MatL.of e2 hr2;have e:(List.range ys.length).map (λ j=>(List.range d).map λ k=>dotI (N.getD j []) (colI k M))=mulM d N M:=by
    rw [hly,x2];unfold mulM;refine yG (by simp) λ i h1 h2=>?_;simp at h1;simp [h1]
   rw [e] at hR;have s02:=s1.trans s2;subst e1;walk_at "r";refine i_x (hD.up s02) λ z hz=>g_A (hD.up s02) ⟨(by show 2<=sizeLine; decide),λ l hl1=>?_⟩;have s3:Same H2 (upd H2 l (.tup [.ref z,.int u])):=Same.new hl1;refine ⟨q,l,N,ns,ts,v,u,d,rfl,(hE.up s02).up s3,⟨z,a_F,s3 _ _ hz⟩,f2,hd1,hd4,f1.len,f1.bt,f1.pos,f1.bu,λ r H4 s4 hP=>?_⟩;exact ⟨false,false,a1,r,_,_,_,rfl,((hR.up s3).up s4).b,hP,by simp [mulM,f2.sq.1]; omega,λ q' H5 s5 hq=>hQ q' H5 (((s02.trans s3).trans s4).trans s5) hq⟩
noncomputable def g_B (rows:LM) (tops:List Int) (u:Int):Prop:=(rows.length=2\/rows.length=3)/\(∀ r∈rows,r.length=rows.length)/\tops.length=rows.length/\u≠0/\(detM rows.length rows=1\/detM rows.length rows=-1)
noncomputable def sp_18 (K:Frag) (C:Addr):Sp:=λ vs H Q E=>∃ (b1 b2 b3:Bool) (a p:Addr) (rows:LM) (tops:List Int) (u:Int) (B:Nat),vs=[.ref a,.ref p,.int u]/\MatB b1 b2 K H a rows/\SqB b3 K H p (tops.map V.int)/\rows.length<=100/\tops.length<=100/\d_R B rows/\B<=1000000/\small u /\
 (¬ g_B rows tops u->∀ H',Same H H'->E (.ref C) none H')/\(g_B rows tops u->∀ q H',Same H H'->c_J K H' q rows (redT u tops) (redU u tops)->Q (.ref q) H')
theorem inV2 (L x y:Int):inV (.int L) [.int x,.int y]=decide (L=x\/L=y):=by
 have e:inV (.int L) [.int x,.int y]=(eqV (.int x) (.int L) || (eqV (.int y) (.int L) || false)):=rfl;have f:∀ a b:Int,eqV (.int a) (.int b)=decide (a=b):=λ a b=>by
  first | rfl | (unfold eqV; rfl) | (simp only [eqV]; by_cases h:a=b <;> simp [h])
 rw [e,f,f,Bool.or_false]
 by_cases h1:x=L
 ·rw [zW h1,zW (p:=L=x\/L=y) (Or.inl h1.symm)]; rfl
 ·rw [zX h1]
  by_cases h2:y=L
  ·rw [zW h2,zW (p:=L=x\/L=y) (Or.inr h2.symm)]; rfl
  ·rw [zX h2,zX (p:=L=x\/L=y) (by omega)]; rfl
theorem p_N {H:Hp} {Q:VK} {E:XK} {b1 b2:Bool} {a:Addr} {rows:LM} {n B:Nat} (h1:1<=n) (h3:n<=4) (hM:MatB b1 b2 K H a rows) (sq:Sq n rows) (hb:d_R B rows) (hB:B<=1000000) (q:∀ H',Same H H'->Q (.int (detM n rows)) H'):sp_2 K n [.ref a] H Q E:=by
 match n,h1,h3,sq,q with
 | m+1,_,h3,sq,q=>exact ⟨b1,b2,a,rows,B,rfl,hM,sq,by omega,hb,hB,q⟩
theorem ok_18 (T:Txt K mg t):FnOk P w K mg base (CX1 P w) 6 t.a_18 t.d_18 pe' (sp_18 K t.a_1c):=by
 have G_12:=@ok_12 P w K mg base t T;have G_x:=@ok_x P w K mg base t T;refine T.F_18.okX sc_18 (λ vs H Q E h=>?_) (λ cdv A outer s H vs Q E hr h=>?_)
 ·obtain ⟨b1,b2,b3,a,p,rows,tops,u,B,rfl,_⟩:=h;rfl
 ·obtain ⟨b1,b2,b3,a,p,rows,tops,u,B,rfl,hM,hS,hl1,hl2,hB,hB1,su,hE,hQ⟩:=h;obtain ⟨n,hn3,hn⟩:∃ n:Nat,n<=3/\((rows.length=2\/rows.length=3)->n=rows.length):=by
   by_cases z:rows.length=2\/rows.length=3
   ·exact ⟨rows.length,by omega,λ _=>rfl⟩
   ·exact ⟨0,by omega,λ h=>yJ h z⟩
  have G_2:FnOk P w K mg base CX0 (n+1) t.a_2 t.d_2 pv' (sp_2 K n):=ok_2 T n;refine ⟨_,(a_D (a_R (i:=3) sc_18.nd rfl (Or.inr rfl) (a_O b_C rfl T.z_len (by decide +kernel) (a_A (pv 0) a_C)))
   (a_D (b_G (a_K d_Y (pv 3) (b_P (a_A a_E (a_A a_E a_C))) rfl)
   (a_G (b_V rfl b_F rfl T.m_1c T.x_1c PySem.F.excBase_ValueError (a_A b_O a_C)))
   a_S)
   (a_D (b_G (PW.pt (d_N (e_c (a_O (r_x rfl) rfl T.z_any (by decide +kernel) (a_A (b_L (xs:=["row"]) (fr:=[("axes",3)]) (g:=(a_T 0)) (tt:=(tEl (tOp (rI0 λ i j=>.bl (!decide (i=j))) (tCB (g_s K) (b_X (tVar 0) tNil)) (tVar 1)))) (b_D (sc:=a_B s_18) (N:=N_18) rfl rfl (by decide +kernel)) rfl (b_W (pv 0)) (λ _ _ _ hE1=>(b_T (N:=["row","axes"]) (i:=0) hE1 rfl (by decide +kernel))) (λ _ _ _ hE1=>(c_R (t_I d_I (a_O b_C rfl T.z_len (by decide +kernel) (a_A (pv 0) a_C)) (pv 1) (a_U _))))) a_C))) (d_H (a_K d_I (a_O b_C rfl T.z_len (by decide +kernel) (a_A (pv 1) a_C)) (pv 3) (a_U _)))))
   (a_G (b_V rfl b_F rfl T.m_1c T.x_1c PySem.F.excBase_ValueError (a_A b_O a_C)))
   a_S)
   (a_D (b_G (a_K f_D (pv 2) a_E (a_U _))
   (a_G (b_V rfl b_F rfl T.m_1c T.x_1c PySem.F.excBase_ValueError (a_A b_O a_C)))
   a_S)
   (a_D (b_G (a_K d_Y (a_P G_2 hr.mo rfl T.m_2 T.F_2.kp T.b_2 .nil b_B (a_A (pv 0) a_C)) (b_P (a_A a_E (a_A (e_S d_S a_E) a_C))) rfl)
   (a_G (b_V rfl b_F rfl T.m_1c T.x_1c PySem.F.excBase_ValueError (a_A b_O a_C)))
   a_S)
   (a_G (a_N (a_P G_x hr.mo rfl T.m_x T.F_x.kp T.b_x .nil b_B (a_A (pv 0) (a_A (a_P G_12 hr.mo rfl T.m_12 T.F_12.kp T.b_12 .nil f_O (a_A (pv 1) (a_A (pv 2) a_C))) a_C)))))))))),?_⟩
  show tSeq _ _ _ [some (.ref a),some (.ref p),some (.int u),none] H;refine st λ N1 e1=>?_;walk_at "r";refine j_X hM ?_;subst e1;refine st λ N1 e1=>?_;simp only [b_Y];walk_at "r";refine ⟨by show 2<=sizeLine; decide,λ p1 hp1=>?_⟩;have s1:Same H (upd H p1 (.tup [.int 2,.int 3])):=Same.new hp1;refine ⟨p1,_,rfl,.inr (SqT.of a_F),rfl,rfl,_,rfl,?_⟩;generalize upd H p1 (.tup [.int 2,.int 3])=H1 at s1;rw [inV2]
  by_cases hax:rows.length=2\/rows.length=3
  case neg =>
   rw [zX (by omega)];refine iteT ?_;simp only [b_Y];walk_at "r";exact ⟨by decide,hE (λ g=>hax g.1) _ s1⟩
  rw [zW (by omega)];refine iteF ?_;replace hn:=hn hax;subst hn;subst e1;refine st λ N1 e1=>?_;walk_at "r";refine b_E λ C eC=>?_;simp only [iSeq];walk_at "r";obtain ⟨xs,x1,x2,x3⟩:=(hM.up s1).walk;refine ⟨b1,⟨_,x1⟩,λ a1 ha1=>?_⟩;refine c_T (λ j y _=>∃ r,rows[j]?=some r/\y=.bl (!decide (r.length=rows.length))) ha1 x1 (by omega) (λ _ _ _ _ r _=>r) ?_ ?_
  ·intro i x H2 zs ex s2 ez Q' hQ';obtain ⟨pr,rr,rfl,er,hp⟩:=x3 i x ex;subst eC;show tOp _ _ _ [some (.ref pr),some (.int rows.length)] H2 Q';walk_at "r";refine g_t (hp.up s2) ?_
   try walk_at "r"
   refine hQ' _ _ (Same.refl _) ⟨rr,er,?_⟩
   by_cases z:rr.length=rows.length
   ·rw [zW z,zW (by omega)]
   ·rw [zX z,zX (by omega)]
  ·intro H2 ys s2 e2 hly hr2;have ey:ys=(rows.map λ r=>!decide (r.length=rows.length)).map V.bl:=by
    rw [List.map_map];exact d_L (by omega) hr2
   subst ey;refine ⟨a1,rfl,_,SqL.of e2,?_⟩
   try walk_at "r"
   have s02:=s1.trans s2
   by_cases hsq:∀ r∈rows,r.length=rows.length
   case neg =>
    have hany:(rows.map λ r=>!decide (r.length=rows.length)).any id=true:=by
     rw [List.any_eq_true];obtain ⟨r,hr⟩:=Classical.not_forall.mp hsq;obtain ⟨hr1,hr2⟩:=Classical.not_imp.mp hr;exact ⟨true,List.mem_map.mpr ⟨r,hr1,by rw [zX hr2]; rfl⟩,rfl⟩
    rw [hany];refine iteT ?_;simp only [b_Y];walk_at "r";exact ⟨by decide,hE (λ g=>hsq g.2.1) _ s02⟩
   have hany:(rows.map λ r=>!decide (r.length=rows.length)).any id=false:=by
    rw [List.any_eq_false];intro b hb;obtain ⟨r,hr,rfl⟩:=List.mem_map.mp hb;rw [zW (hsq r hr)]
    decide
   rw [hany];refine iteF ?_;refine g_t (hS.up s02) ?_
   try walk_at "r"
   by_cases htl:tops.length=rows.length
   case neg =>
    rw [zX (by omega)];refine iteT ?_;simp only [b_Y];walk_at "r";exact ⟨by decide,hE (λ g=>htl g.2.2.1) _ s02⟩
   rw [zW (by omega)];refine iteF ?_;subst e1;refine st λ N1 e1=>?_;simp only [b_Y];walk_at "r";refine ite2 (λ z=>⟨by decide,hE (λ g=>g.2.2.2.1 (zY z)) _ s02⟩) (λ z=>?_);have hu:u≠0:=λ q=>z (zW q);subst e1;refine st λ N1 e1=>?_;walk_at "r";refine p_N (by omega) (by omega) (hM.up s02) ⟨rfl,hsq⟩ hB hB1 λ H3 s3=>?_
   try walk_at "r"
   refine ⟨by show 2<=sizeLine; decide,λ p2 hp2=>?_⟩;have s4:Same H3 (upd H3 p2 (.tup [.int 1,.int (-1)])):=Same.new hp2;refine ⟨p2,_,rfl,.inr (SqT.of a_F),rfl,rfl,_,rfl,?_⟩;generalize upd H3 p2 (.tup [.int 1,.int (-1)])=H4 at s4;have s04:=(s02.trans s3).trans s4;rw [inV2]
   by_cases hdt:detM rows.length rows=1\/detM rows.length rows=-1
   case neg =>
    rw [zX hdt];refine iteT ?_;simp only [b_Y];walk_at "r";exact ⟨by decide,hE (λ g=>hdt g.2.2.2.2) _ s04⟩
   rw [zW hdt];refine iteF ?_;subst e1;walk_at "r";refine ⟨b3,p,tops,u,rfl,hS.up s04,hl2,su,λ z=>?_,λ _ _ sp H5 s5 hP=>⟨b1,b2,a,sp,rows,_,_,rfl,hM.up (s04.trans s5),hP,hl1,λ q H6 s6 hq=>hQ ⟨hax,hsq,htl,hu,hdt⟩ q H6 ((s04.trans s5).trans s6) hq⟩⟩;rcases z with z | z
   ·exact yJ z hu
   ·rw [z] at htl;simp at htl;omega
noncomputable def sp_14 (K:Frag):Sp:=λ vs H Q _=>∃ d:Nat,vs=[.int d]/\(d=2\/d=3)/\∀ q H',Same H H'->c_J K H' q (idM d) (List.replicate d 0) 1->Q (.ref q) H'
theorem v_Z (ns:List Int):gl 1 ns=1:=Int.eq_one_of_dvd_one (e_z 1 ns) (gl_u 1 ns)
theorem n_M {d:Nat} (hd:d=2\/d=3):g_B (idM d) (List.replicate d 0) 1/\d_R 1 (idM d):=by
 rcases hd with rfl | rfl
 ·exact ⟨⟨.inl rfl,by decide,by decide,by decide,.inl (by decide)⟩,by intro r hr x hx; revert r x; decide⟩
 ·exact ⟨⟨.inr rfl,by decide,by decide,by decide,.inl (by decide)⟩,by intro r hr x hx; revert r x; decide⟩
theorem j_y:small 1:=l_L (B:=1) (by decide) (by decide)
theorem ok_14 (T:Txt K mg t):FnOk P w K mg base CX0 8 t.a_14 t.d_14 ["d"] (sp_14 K):=by
 have G_18:=@ok_18 P w K mg base t T;have G_i:=@ok_i P w K mg base t T;refine T.F_14.ok sc_14 (by walk_at "v") (λ cdv A outer s H vs Q E hr h=>?_)
 ·obtain ⟨d,rfl,hd,hQ⟩:=h;refine ⟨_,(a_G (a_N (a_P G_18 hr.mo rfl T.m_18 T.F_18.kp T.b_18 .nil f_O (a_A (a_P G_i hr.mo rfl T.m_i T.F_i.kp T.b_i .nil b_B (a_A (pv 0) a_C)) (a_A (a_Z r_d (d_T (a_A a_E a_C)) (pv 0)) (a_A a_E a_C)))))),?_⟩;show tRet _ _ [some (.int d)] H;walk_at "r";refine ⟨d,rfl,by omega,λ r H1 _ s1 hR=>?_⟩
  try walk_at "r"
  refine ⟨by show 1<=sizeLine; decide,λ l hl=>?_⟩;have s2:Same H1 (upd H1 l (.lst [.int 0])):=Same.new hl;have el:(upd H1 l (.lst [.int 0])) l=some (.lst [.int 0]):=a_F;generalize upd H1 l (.lst [.int 0])=H2 at s2 el;refine ⟨l,d,_,rfl,rfl,el,by omega,by omega,?_,λ l2 hl2=>?_⟩
  ·rw [zR];show 1*d<=sizeLine;have:3<=sizeLine:=by decide
   omega
  have s3:Same H2 (upd H2 l2 (.lst (List.replicate (d:Int).toNat [V.int 0]).flatten)):=Same.new hl2;have e3:(upd H2 l2 (.lst (List.replicate (d:Int).toNat [V.int 0]).flatten)) l2=some (.lst ((List.replicate d (0:Int)).map V.int)):=by
   rw [a_F,zR];rcases hd with rfl | rfl <;> rfl
  generalize upd H2 l2 (.lst (List.replicate (d:Int).toNat [V.int 0]).flatten)=H3 at s3 e3;obtain ⟨g,gb⟩:=n_M hd;have hrs:=r_S (u:=1) (by decide) (v_Z (List.replicate d 0));have e1:redT 1 (List.replicate d 0)=List.replicate d 0:=hrs.1;have e2:redU 1 (List.replicate d 0)=1:=hrs.2;refine ⟨false,false,false,r,l2,idM d,List.replicate d 0,1,1,rfl,((hR.up s2).up s3).b,SqB.lst e3,by simp [idM]; omega,by simp; omega,gb,by decide,j_y,λ n=>yJ g n,λ _ q H4 s4 hq=>?_⟩;rw [e1,e2] at hq;exact hQ q H4 ((s1.trans (s2.trans s3)).trans s4) hq
section
open PySem.NumText
theorem r_W (n:Nat):AllDigits ((Nat.toDigits 10 n).map Char.toNat):=λ c hc=>by
 obtain ⟨ch,hch,e⟩:=List.mem_map.mp hc;have r:=Nat.isDigit_of_mem_toDigits (by decide) (by decide) hch;rw [← e];simp only [Char.isDigit,Bool.and_eq_true,decide_eq_true_eq,UInt32.le_iff_toNat_le] at r;exact r
noncomputable def dec (n:Nat):Str:=Str.ofString (toString (n:Int))
theorem e_P (n:Nat):(dec n).cps.toList=(Nat.toDigits 10 n).map Char.toNat:=by
 unfold dec;rw [show toString ((n:Nat):Int)=toString (Int.ofNat n) from rfl,PyProof.Rows.text_ofNat]
theorem u_p {n k:Nat} (hk:1<=k) (h:n < 10 ^ k):(dec n).length<=k:=by
 have:(dec n).length=(dec n).cps.toList.length:=by simp [Str.length]
 rw [this,e_P,zqe];exact PyProof.Rows.digits10_le hk h
theorem g_Y (m:Nat):digitsVal ((Nat.toDigits 10 m).map Char.toNat)=m:=PySem.W.KIN.val_back m
theorem c_Q {x y:Str} (h:x.cps.toList=y.cps.toList):x=y:=by
 cases x; cases y;congr 1;exact Array.toList_inj.mp h
theorem dvs (x y:Int) (h1:y≠0) (h2:y.natAbs < 1073741824):h_z x y:=⟨h1,zI ((Nat.log2_lt (by omega)).mpr (show y.natAbs < 2 ^ 30 from h2)) (by decide)⟩
theorem fms (x y:Int) (h:0 < y):0<=x.fmod y/\x.fmod y < y:=⟨Int.fmod_nonneg_of_pos x h,Int.fmod_lt_of_pos x h⟩
theorem h_O (x y:Str):(x++y).length=x.length+y.length:=by
 show (x.cps++y.cps).size=_;rw [Array.size_append]; rfl
theorem e_Q {n:Nat} (h:n<=100000):n<=sizeLine:=zS h (by decide)
theorem p_O (x y z:Str):x++y++z=x++(y++z):=c_Q (by show (x.cps++y.cps++z.cps).toList=(x.cps++(y.cps++z.cps)).toList; simp)
theorem k_z {n:Nat} (h:n < 10 ^ 100):(dec n).length<=100:=u_p (by decide) h
theorem r_X {X:Cx} (h:X.K=K):IxR X (rIxB K):=by
 subst h;exact ix_B
theorem r_Y (a b v:Int) (hv:0 < v):gcdI (a*v) (b*v)=gcdI a b*v:=by
 unfold gcdI;rw [Int.gcd_mul_right];have:((v.natAbs:Nat):Int)=v:=by omega
 rw [Int.natCast_mul,this]
theorem w_a {u v:Int} (hv:0 < v) (ts:List Int):gl (u*v) (ts.map (·*v))=gl u ts*v:=by
 have h0:∀ (ts:List Int) (a:Int),(ts.map (·*v)).foldl gcdI (a*v)=ts.foldl gcdI a*v:=by
  intro ts
  induction ts with
  | nil=>intro a; rfl
  | cons t r ih=>intro a; rw [List.map_cons,List.foldl_cons,List.foldl_cons,r_Y _ _ _ hv,ih]
 unfold gl;have:absI (u*v)=absI u*v:=by
  unfold absI;rcases Int.lt_or_le u 0 with l | l
  ·have h2:u*v < 0:=Int.mul_neg_of_neg_of_pos l hv;rw [if_pos l,if_pos h2,Int.neg_mul]
  ·have h2:0<=u*v:=Int.mul_nonneg l (Int.le_of_lt hv);rw [if_neg (by omega),if_neg (by omega)]
 rw [this,h0]
theorem o_I {u v:Int} {ts ns:List Int} (hv:0 < v) (gu:gl u ts=1) (hl:ts.length=ns.length) (h:∀ (i:Nat) (x y:Int),ts[i]?=some x->ns[i]?=some y->x*v=y*u):u∣v:=by
 have e:=w_a (u:=u) hv ts;rw [gu,Int.one_mul] at e;rw [← e];refine e_O.mpr ⟨Int.dvd_mul_right u v,λ t ht=>?_⟩;obtain ⟨x,hx,rfl⟩:=List.mem_map.mp ht;obtain ⟨i,hi,ei⟩:=yF hx;have hi2:i < ns.length:=by omega
 have:=h i x ns[i] (by simp [hi,ei]) (by simp [hi2]);show u∣x*v;rw [this];exact Int.dvd_mul_left _ _
theorem r_Z {u v:Int} {ts ns:List Int} (hu:0 < u) (hv:0 < v) (gu:gl u ts=1) (gv:gl v ns=1) (hl:ts.length=ns.length) (h:∀ (i:Nat) (x y:Int),ts[i]?=some x->ns[i]?=some y->x*v=y*u):ts=ns/\u=v:=by
 have h1:=o_I hv gu hl h;have h2:=o_I hu gv hl.symm λ i x y e1 e2=>(h i y x e2 e1).symm;have e:u=v:=Int.dvd_antisymm (by omega) (by omega) h1 h2;subst e;refine ⟨yG hl λ i h1 h2=>?_,rfl⟩;exact Int.eq_of_mul_eq_mul_right (by omega) (h i _ _ (by simp [h1]) (by simp [h2]))
theorem p_P {u:Int} {ns:List Int} (h:u≠0) {i:Nat} {x y:Int} (e1:ns[i]?=some x) (e2:(redT u ns)[i]?=some y):x*redU u ns=y*u:=by
 unfold redT at e2;rw [zH,e1] at e2;cases e2;exact w_M h (zqb e1)
theorem Dt.place {H:Hp} {p:Addr} {ts:List Int} {u:Int} (h:c_X H p ts u):Dt K H (.ref p) (.tuple [e_f true ts,.int u]):=by
 obtain ⟨q,h1,h2⟩:=h;exact .tup (SqT.of h1) (.cons (Dt.intsB (SqB.tup h2)) (.cons (.int u) .nil))
end
section
open PySem.NumText
noncomputable def b_A:Str := ","
noncomputable def c_V:Str := "/"
noncomputable def c_F:Str := "-"
noncomputable def ten:Str := "0123456789"
theorem s_z:b_A=⟨#[44]⟩:=by decide +kernel
theorem l_M:c_V=⟨#[47]⟩:=by decide +kernel
theorem l_N:c_F=⟨#[45]⟩:=by decide +kernel
noncomputable def digB (c:Nat):Bool:=decide (48<=c) && decide (c<=57)
noncomputable def inT (x:Str) (c:Nat):Bool:=!(Builtin.Str.occurrences x ⟨#[c]⟩ 0 x.length 1).isEmpty
theorem w_N:∀ i < 10,ten.cps.extract i (i+1)=#[ten.cps.getD i 0]/\ten.cps.getD i 0 < 123:=by decide +kernel
theorem p_Q:∀ c < 123,inT ten c=digB c:=by decide +kernel
theorem s_A {x:Str} {n c:Nat} (hl:x.length=n) (h:∀ i < n,x.cps.extract i (i+1)=#[x.cps.getD i 0]/\x.cps.getD i 0 < 123) (hc:123<=c):inT x c=false:=by
 have e:Builtin.Str.occurrences x ⟨#[c]⟩ 0 x.length 1=[]:=PySem.W.occ_nil_of_no x ⟨#[c]⟩ 1 λ i hi=>by
  have hi':i < n:=by rw [← hl]; exact hi
  obtain ⟨k1,k2⟩:=h i hi';show (x.cps.extract i (i+1) == #[c])=false;rw [k1];have:x.cps.getD i 0≠c:=by omega
  simp only [beq_eq_false_iff_ne,ne_eq];intro z
  apply this
  simpa using z
 unfold inT;rw [e];rfl
theorem w_b (c:Nat):inT ten c=digB c:=by
 by_cases h:c < 123
 ·exact p_Q c h
 ·rw [s_A (n:=10) (by decide +kernel) w_N (by omega)];unfold digB;rw [zX (show ¬ c<=57 by omega),Bool.and_false]
noncomputable def b_J (x:Str):Bool:=decide (1<=x.length) && (decide (x.length<=100) && (!(decide (x.cps.toList[0]?=some 48)) && x.cps.toList.all digB))
noncomputable def valN (x:Str):Nat:=digitsVal x.cps.toList
theorem c_E (x:Str):x.cps.toList.length=x.length:=by simp [Str.length]
theorem s_B:∀ (cs:List Nat) (a:Nat),AllDigits cs->cs.foldl (λ acc c=>acc*10+(c - 48)) a < (a+1)*10 ^ cs.length
 | [],a,_=>by simp
 | c :: r,a,h=>by
  have:=s_B r (a*10+(c - 48)) h.tail;have hc:=h.head;rw [List.foldl_cons,List.length_cons,Nat.pow_succ];refine zI this ?_;rw [Nat.mul_comm (10 ^ r.length) 10,← Nat.mul_assoc];exact zK _ (by omega)
theorem e_a {x:Str} (h:b_J x=true):AllDigits x.cps.toList/\x.cps.toList≠[]/\x.length<=100/\∃ c r,x.cps.toList=c :: r/\49<=c:=by
 unfold b_J at h;simp only [Bool.and_eq_true,decide_eq_true_eq,Bool.not_eq_true',decide_eq_false_iff_not,List.all_eq_true] at h;obtain ⟨h1,h2,h3,h4⟩:=h;have ha:AllDigits x.cps.toList:=λ c hc=>by
  have:=h4 c hc;unfold digB at this;simpa using this
 have hl:=c_E x;cases e:x.cps.toList with
 | nil=>rw [e] at hl; simp at hl; omega
 | cons c r =>
  refine ⟨e ▸ ha,by simp,h2,c,r,rfl,?_⟩;rw [e] at h3 ha;have:=ha.head;have:c≠48:=λ z=>h3 (by rw [z]; rfl);omega
theorem p_R {cs:List Nat} (h:AllDigits cs):(cs.map Char.ofNat).map Char.toNat=cs:=by
 rw [List.map_map]
 conv=>rhs; rw [← List.map_id cs]
 refine List.map_congr_left λ c hc=>?_;have:=h c hc;have:c < 58:=by omega
 exact (show ∀ c < 58,(Char.ofNat c).toNat=c by decide) c this
theorem f_T {x:Str} (h:b_J x=true):dec (valN x)=x:=by
 obtain ⟨h1,h2,h3,c,r,e,hc⟩:=e_a h;refine c_Q ?_;rw [e_P];unfold valN;rw [toDigits_digitsVal r.length x.cps.toList (by rw [e]; rfl) h1 (.inr ⟨c,r,e,hc⟩),p_R h1]
theorem g_C {x:Str} (h:b_J x=true):valN x < 10 ^ 100:=by
 obtain ⟨h1,h2,h3,_⟩:=e_a h;have:=s_B x.cps.toList 0 h1;rw [c_E,Nat.zero_add,Nat.one_mul] at this;exact zI this (zM (by decide) h3)
theorem g_Z {x:Str} (h:b_J x=true):0 < valN x:=by
 obtain ⟨h1,h2,h3,c,r,e,hc⟩:=e_a h;rcases Nat.eq_zero_or_pos (valN x) with z | z
 ·exfalso;have e2:=f_T h;rw [z] at e2;rw [← e2] at e;have:(dec 0).cps.toList=[48]:=by decide +kernel
  rw [this] at e;cases e;omega
 ·exact z
theorem i_y {n:Nat} (h0:0 < n):∃ c r,(dec n).cps.toList=c :: r/\49<=c/\c<=57:=by
 have ha:=r_W n;rw [← e_P] at ha;have hv:digitsVal (dec n).cps.toList=n:=by rw [e_P,g_Y]
 have t:=toDigits_all _ ha;rw [hv] at t;have hl:(dec n).cps.toList.length=(Nat.toDigits 10 n).length:=by rw [e_P,zqe]
 cases e:(dec n).cps.toList with
 | nil=>rw [e] at hv; have:digitsVal []=0:=rfl; omega
 | cons c r =>
  have hc:=ha c (by rw [e]; exact zU);refine ⟨c,r,rfl,?_,hc.2⟩
  by_cases z:c=48
  ·exfalso;subst z;rw [e,List.dropWhile_cons,if_pos (by rfl)] at t;rw [e] at hl;have hd:(r.dropWhile (· == 48)).length<=r.length:=(List.dropWhile_suffix _).length_le;split at t
   ·have v:=g_Y n;rw [t] at v;have v0:digitsVal (['0'].map Char.toNat)=0:=by decide
    omega
   ·rename_i c2 r2 e2;rw [t,zqe] at hl;rw [e2] at hd;simp only [List.length_cons] at hl hd;omega
  ·omega
theorem g_D (n:Nat):AllDigits (dec n).cps.toList:=by rw [e_P]; exact r_W n
theorem h_a {n:Nat} (h0:0 < n) (h:n < 10 ^ 100):b_J (dec n)=true/\valN (dec n)=n:=by
 obtain ⟨c,r,e,h1,h2⟩:=i_y h0;have hl:=c_E (dec n);refine ⟨?_,by unfold valN; rw [e_P,g_Y]⟩;unfold b_J;simp only [Bool.and_eq_true,decide_eq_true_eq,Bool.not_eq_true',decide_eq_false_iff_not,List.all_eq_true];refine ⟨by rw [e] at hl; simp at hl; omega,k_z h,?_,λ d hd=>?_⟩
 ·rw [e];intro z;have:c=48:=by simpa using z
  omega
 ·have:=g_D n d hd;unfold digB;simpa using this
theorem o_J {c:Nat}:∀ {p q X Y:List Nat},c ∉ p->c ∉ q->p++c :: X=q++c :: Y->p=q/\X=Y
 | [],[],X,Y,_,_,e=>by simpa using e
 | [],b :: q,X,Y,_,h,e=>by
  simp only [List.nil_append,List.cons_append,List.cons.injEq] at e;exact yJ (by rw [e.1]; exact zU) h
 | a :: p,[],X,Y,h,_,e=>by
  simp only [List.nil_append,List.cons_append,List.cons.injEq] at e;exact yJ (by rw [← e.1]; exact zU) h
 | a :: p,b :: q,X,Y,h1,h2,e=>by
  simp only [List.cons_append,List.cons.injEq] at e;obtain ⟨k1,k2⟩:=o_J (p:=p) (q:=q) (λ z=>h1 (zN _ z)) (λ z=>h2 (zN _ z)) e.2;exact ⟨by rw [e.1,k1],k2⟩
theorem e_b (c:Nat) (p q:Str) (r:List Str):(Str.join ⟨#[c]⟩ (p :: q :: r)).cps.toList=p.cps.toList++c :: (Str.join ⟨#[c]⟩ (q :: r)).cps.toList:=by
 show (p++⟨#[c]⟩++Str.join ⟨#[c]⟩ (q :: r)).cps.toList=_;simp only [Str.cps_append,Array.toList_append];simp
theorem l_O (c:Nat):∀ (L M:List Str),L≠[]->M≠[]->(∀ p∈L,c ∉ p.cps.toList)->(∀ p∈M,c ∉ p.cps.toList)->(Str.join ⟨#[c]⟩ L).cps.toList=(Str.join ⟨#[c]⟩ M).cps.toList->L=M
 | [],_,h,_,_,_,_=>yJ rfl h
 | _,[],_,h,_,_,_=>yJ rfl h
 | [p],[q],_,_,_,_,e=>by have e':p=q:=c_Q e; rw [e']
 | [p],q :: q' :: s,_,_,hp,_,e=>by
  rw [e_b] at e;exact yJ (by rw [show (Str.join ⟨#[c]⟩ [p])=p from rfl] at e; rw [e]; simp) (hp p zU)
 | p :: p' :: r,[q],_,_,_,hq,e=>by
  rw [e_b] at e;exact yJ (by rw [show (Str.join ⟨#[c]⟩ [q])=q from rfl] at e; rw [← e]; simp) (hq q zU)
 | p :: p' :: r,q :: q' :: s,_,_,hp,hq,e=>by
  rw [e_b,e_b] at e;obtain ⟨e1,e2⟩:=o_J (hp p zU) (hq q zU) e;have:=l_O c (p' :: r) (q' :: s) (by simp) (by simp) (λ z hz=>hp z (zN _ hz)) (λ z hz=>hq z (zN _ hz)) e2;rw [c_Q e1,this]
theorem f_H {c:Nat} {u:Str} {L:List Str} (hne:L≠[]) (hf:∀ p∈L,c ∉ p.cps.toList) (e:Str.join ⟨#[c]⟩ L=u):Txt.split u ⟨#[c]⟩=L:=by
 have h1:=PySem.StrLaws.join_split u ⟨#[c]⟩;have h2:=PySem.StrLaws.split_free u c;have h3:Txt.split u ⟨#[c]⟩≠[]:=λ z=>by
  have:=PyProof.Rows.split_pos u ⟨#[c]⟩;rw [z] at this;simp at this
 exact l_O c _ _ h3 hne h2 hf (by rw [h1,e])
theorem l_P (y:Str) (L:List Str):Txt.join y L=Str.join y L:=by
 unfold Txt.join;rw [PySem.StrLaws.glued_eq_join]
end
section
open PySem.NumText
noncomputable def v_d:List Str->Option (Int × Int)
 | [a]=>if b_J a=true then some ((valN a:Int),1) else none
 | [a,b]=>if b_J a=true/\b_J b=true/\valN b≠1/\gcdI (valN a) (valN b)=1 then some ((valN a:Int),(valN b:Int)) else none
 | _=>none
noncomputable def e_B (x:Str):Option (Int × Int):=v_d (Txt.split x c_V)
noncomputable def h_B (x:Str):Str:=Txt.slice x (some 1) none
noncomputable def negP (p:Int × Int):Int × Int:=(-p.1,p.2)
noncomputable def numV (x:Str):Option (Int × Int):=if x = "0" then some (0,1) else if Txt.startswith x c_F=true then (e_B (h_B x)).map negP else e_B x
structure c_z (p:Int × Int):Prop where
 pos:0 < p.2
 top:p.1.natAbs < 10 ^ 100
 bot:p.2.natAbs < 10 ^ 100
 low:gcdI p.1 p.2=1
noncomputable def c_M (n b:Nat):Str:=if b=1 then dec n else dec n++c_V++dec b
noncomputable def l_Q (p:Int × Int):Str:=if p.1 < 0 then c_F++c_M p.1.natAbs p.2.toNat else c_M p.1.natAbs p.2.toNat
theorem l_R {x:Str}:Txt.startswith x c_F=true ↔ ∃ r,x.cps.toList=45 :: r:=by
 have l1:c_F.length=1:=by decide +kernel
 have l2:c_F.cps=#[45]:=by decide +kernel
 unfold Txt.startswith Builtin.Str.subAt;rw [l1,l2];cases e:x.cps.toList with
 | nil =>
  have:x.length=0:=by rw [← c_E,e]; rfl
  rw [this];simp
 | cons c r =>
  have hx:x=⟨(c :: r).toArray⟩:=c_Q (by rw [e]);subst hx;have e1:decide (0+1<=(⟨(c :: r).toArray⟩:Str).length)=true:=zW (by show 0+1<=(c :: r).toArray.size; simp);rw [e1,Bool.true_and];have e2:((⟨(c :: r).toArray⟩:Str).cps.extract 0 (0+1))=#[c]:=by simp
  rw [e2];simp
theorem o_K {x:Str} {c:Nat} {r:List Nat} (e:x.cps.toList=c :: r):(h_B x).cps.toList=r:=by
 unfold h_B;have hl:x.length=r.length+1:=by rw [← c_E,e]; rfl
 rw [PyProof.Rows.slice_from_eq (b:=(x.length:Int)) (by decide) (by omega) rfl];show (List.take _ (List.drop _ _)).toArray.toList=_;rw [List.toList_toArray,show (1:Int).toNat=1 from rfl,e,hl];show List.take (((r.length+1:Nat):Int) - 1).toNat r=r;rw [List.take_of_length_le (by omega)]
theorem h_b (y:Str):(c_F++y).cps.toList=45 :: y.cps.toList:=by
 show (c_F.cps++y.cps).toList=_;rw [Array.toList_append,l_N];rfl
theorem s_C (y:Str):h_B (c_F++y)=y:=c_Q (o_K (h_b y))
theorem i_z {x:Str} {c:Nat} (h:AllDigits x.cps.toList) (hc:c < 48):c ∉ x.cps.toList:=λ z=>by
 have:=h c z;omega
theorem j_z {x:Str} {p:Int × Int} (h:e_B x=some p):c_z p/\0 < p.1/\c_M p.1.natAbs p.2.toNat=x:=by
 unfold e_B at h;have j:=PySem.StrLaws.join_split x c_V
 match e:Txt.split x c_V with
 | []=>rw [e] at h; cases h
 | [a] =>
  rw [e] at h j;have j':a=x:=j;have h:(if b_J a=true then some ((valN a:Int),(1:Int)) else none)=some p:=h;split at h
  ·rename_i ha;cases h;have h1:=g_Z ha;have h2:=g_C ha;refine ⟨⟨by show (0:Int) < 1; decide,h2,by show (1:Int).natAbs < 10 ^ 100; decide,by show gcdI _ 1=1; unfold gcdI; simp⟩,by show (0:Int) < (valN a:Int); omega,?_⟩;show c_M (valN a:Int).natAbs 1=x;unfold c_M;rw [if_pos rfl,Int.natAbs_natCast,f_T ha,j']
  ·cases h
 | [a,b] =>
  rw [e] at h j;have j':a++c_V++b=x:=j;have h:(if b_J a=true/\b_J b=true/\valN b≠1/\gcdI (valN a) (valN b)=1 then some ((valN a:Int),(valN b:Int)) else none)=some p:=h;split at h
  ·rename_i hh;obtain ⟨ha,hb,hn,hg⟩:=hh;cases h;have h1:=g_Z ha;have h2:=g_C ha;have h3:=g_Z hb;have h4:=g_C hb;refine ⟨⟨by show (0:Int) < (valN b:Int); omega,h2,h4,hg⟩,by show (0:Int) < (valN a:Int); omega,?_⟩;show c_M (valN a:Int).natAbs (valN b:Int).toNat=x;unfold c_M;rw [zR,if_neg hn,Int.natAbs_natCast,f_T ha,f_T hb,j']
  ·cases h
 | a :: b :: c :: r=>rw [e] at h; cases h
theorem p_S {n b:Nat} (h1:0 < n) (h2:n < 10 ^ 100) (h3:0 < b) (h4:b < 10 ^ 100) (hg:gcdI (n:Int) (b:Int)=1):e_B (c_M n b)=some ((n:Int),(b:Int)):=by
 obtain ⟨w1,w2⟩:=h_a h1 h2;obtain ⟨w3,w4⟩:=h_a h3 h4;unfold c_M e_B
 by_cases z:b=1
 ·rw [if_pos z,l_M,f_H (c:=47) (u:=dec n) (L:=[dec n]) (by simp) (λ p hp=>by rw [List.mem_singleton.mp hp]; exact i_z (g_D n) (by decide)) rfl];show (if b_J (dec n)=true then some ((valN (dec n):Int),(1:Int)) else none)=_;rw [if_pos w1,w2,z];rfl
 ·rw [if_neg z,l_M,f_H (c:=47) (u:=dec n++⟨#[47]⟩++dec b) (L:=[dec n,dec b]) (by simp) (λ p hp=>by
   rcases List.mem_cons.mp hp with q | q
   ·rw [q]; exact i_z (g_D n) (by decide)
   ·rw [List.mem_singleton.mp q]; exact i_z (g_D b) (by decide)) rfl]
  show (if b_J (dec n)=true/\b_J (dec b)=true/\valN (dec b)≠1/\gcdI (valN (dec n)) (valN (dec b))=1 then some ((valN (dec n):Int),(valN (dec b):Int)) else none)=_;rw [if_pos ⟨w1,w3,by rw [w4]; exact z,by rw [w2,w4]; exact hg⟩,w2,w4]
theorem s_D (a b:Int):gcdI (-a) b=gcdI a b:=by unfold gcdI; simp [Int.gcd]
theorem dec0:dec 0 = "0" := by decide +kernel
theorem i_A {n b:Nat} (h:0 < n):∃ c r,(c_M n b).cps.toList=c :: r/\49<=c/\c<=57:=by
 obtain ⟨c,r,e,h1,h2⟩:=i_y h;unfold c_M;split
 ·exact ⟨c,r,e,h1,h2⟩
 ·refine ⟨c,r++(c_V++dec b).cps.toList,?_,h1,h2⟩;rw [p_O];show ((dec n).cps++(c_V++dec b).cps).toList=_;rw [Array.toList_append,e];rfl
theorem l_S:("0" : Str).cps.toList=[48]:=by decide +kernel
theorem s_E {p:Int × Int} (g:c_z p):numV (l_Q p)=some p:=by
 obtain ⟨a,b⟩:=p;have hb:0 < b:=g.pos;have hb2:b.natAbs < 10 ^ 100:=g.bot;have ha:a.natAbs < 10 ^ 100:=g.top;have hg:gcdI a b=1:=g.low;unfold l_Q;show numV (if a < 0 then c_F++c_M a.natAbs b.toNat else c_M a.natAbs b.toNat)=some (a,b);have hbn:b.toNat=b.natAbs:=by omega
 by_cases z:a=0
 ·subst z;have b1:b=1:=by
   unfold gcdI at hg;rw [Int.gcd_zero_left] at hg;omega
  subst b1;rw [if_neg (by decide)];have:c_M (0:Int).natAbs (1:Int).toNat = "0" := dec0;rw [this];unfold numV;rw [if_pos rfl]
 ·have hn:0 < a.natAbs:=by omega
  have key:e_B (c_M a.natAbs b.toNat)=some ((a.natAbs:Int),b):=by
   rw [p_S hn ha (by omega) (by omega) (by
    rw [show ((b.toNat:Nat):Int)=b by omega];unfold gcdI at hg ⊢;rw [← hg];simp [Int.gcd])]
   rw [show ((b.toNat:Nat):Int)=b by omega]
  obtain ⟨c,r,e,h1,h2⟩:=i_A (b:=b.toNat) hn
  by_cases s:a < 0
  ·rw [if_pos s];unfold numV;rw [if_neg (λ q=>by
    have q2:=h_b (c_M a.natAbs b.toNat);rw [q,l_S] at q2;cases q2),if_pos (l_R.mpr ⟨_,h_b _⟩),s_C,key]
   show some (-(a.natAbs:Int),b)=some (a,b);rw [show -(a.natAbs:Int)=a by omega]
  ·rw [if_neg s];unfold numV;rw [if_neg (λ q=>by
    rw [q,l_S] at e;cases e;omega),if_neg (λ q=>by
    obtain ⟨r',e'⟩:=l_R.mp q;rw [e] at e';cases e';omega),key]
   rw [show (a.natAbs:Int)=a by omega]
theorem p_T:c_V.length=1:=by decide +kernel
theorem p_U:c_F.length=1:=by decide +kernel
theorem p_V {n b:Nat} (h1:n < 10 ^ 100) (h2:b < 10 ^ 100):(c_M n b).length<=201:=by
 have d1:=k_z h1;have d2:=k_z h2;unfold c_M;split
 ·omega
 ·rw [h_O,h_O,p_T]; omega
end
section
noncomputable def lawU (ps:List (Int × Int)):Int:=ps.foldl (λ u p=>(u*p.2).fdiv (gcdI u p.2)) 1
noncomputable def lawT (ps:List (Int × Int)):List Int:=ps.map λ p=>p.1*(lawU ps).fdiv p.2
noncomputable def proU (ps:List (Int × Int)):Int:=ps.foldl (λ u p=>u*p.2) 1
noncomputable def proT (ps:List (Int × Int)):List Int:=ps.map λ p=>p.1*(proU ps).fdiv p.2
theorem s_F {u b:Int} (hu:0 < u) (hb:0 < b):(u*b).fdiv (gcdI u b)=(Int.lcm u b:Int):=by
 have g:0 < gcdI u b:=by
  unfold gcdI;have:=Int.gcd_pos_of_ne_zero_left (a:=u) b (by omega);omega
 have e:(Int.gcd u b:Int)*(Int.lcm u b:Int)=u*b:=by
  have:=Int.gcd_mul_lcm u b;have h2:((Int.gcd u b*Int.lcm u b:Nat):Int)=((u.natAbs*b.natAbs:Nat):Int):=by rw [this]
  push_cast at h2
  rw [show (u.natAbs:Int)=u by omega,show (b.natAbs:Int)=b by omega] at h2;exact h2
 rw [← e];unfold gcdI at g ⊢;rw [Int.mul_comm,Int.mul_fdiv_cancel _ (by omega)]
theorem g_E:∀ (ps:List (Int × Int)) (u:Int),0 < u->(∀ p∈ps,0 < p.2)->0 < ps.foldl (λ u p=>(u*p.2).fdiv (gcdI u p.2)) u/\u∣ps.foldl (λ u p=>(u*p.2).fdiv (gcdI u p.2)) u/\(∀ p∈ps,p.2∣ps.foldl (λ u p=>(u*p.2).fdiv (gcdI u p.2)) u)/\∀ m:Int,u∣m->(∀ p∈ps,p.2∣m)->ps.foldl (λ u p=>(u*p.2).fdiv (gcdI u p.2)) u∣m
 | [],u,hu,_=>⟨hu,Int.dvd_refl _,λ p hp=>by simp at hp,λ m h _=>h⟩
 | q :: r,u,hu,h=>by
  have hq:=h q zU;have e:=s_F hu hq;have hp:0 < (Int.lcm u q.2:Int):=by
   have:=Int.lcm_pos (m:=u) (n:=q.2) (by omega) (by omega);omega
  obtain ⟨h1,h2,h3,h4⟩:=g_E r (Int.lcm u q.2:Int) hp λ p hp=>h p (zN _ hp);rw [List.foldl_cons,e];refine ⟨h1,Int.dvd_trans (Int.dvd_lcm_left u q.2) h2,λ p hp=>?_,λ m k1 k2=>?_⟩
  ·rcases List.mem_cons.mp hp with z | z
   ·rw [z]; exact Int.dvd_trans (Int.dvd_lcm_right u q.2) h2
   ·exact h3 p z
  ·exact h4 m (Int.coe_lcm_dvd k1 (k2 q zU)) λ p hp=>k2 p (zN _ hp)
theorem i_B:∀ (ps:List (Int × Int)) (u:Int),0 < u->(∀ p∈ps,0 < p.2)->0 < ps.foldl (λ u p=>u*p.2) u/\u∣ps.foldl (λ u p=>u*p.2) u/\∀ p∈ps,p.2∣ps.foldl (λ u p=>u*p.2) u
 | [],u,hu,_=>⟨hu,Int.dvd_refl _,λ p hp=>by simp at hp⟩
 | q :: r,u,hu,h=>by
  have hq:=h q zU;obtain ⟨h1,h2,h3⟩:=i_B r (u*q.2) (Int.mul_pos hu hq) λ p hp=>h p (zN _ hp);rw [List.foldl_cons];refine ⟨h1,Int.dvd_trans ⟨q.2,rfl⟩ h2,λ p hp=>?_⟩;rcases List.mem_cons.mp hp with z | z
  ·rw [z]; exact Int.dvd_trans ⟨u,by rw [Int.mul_comm]⟩ h2
  ·exact h3 p z
theorem l_T {ps:List (Int × Int)} (h:∀ p∈ps,c_z p):0 < lawU ps:=(g_E ps 1 (by decide) λ p hp=>(h p hp).pos).1
theorem l_U {ps:List (Int × Int)} (h:∀ p∈ps,c_z p):∀ p∈ps,p.2∣lawU ps:=(g_E ps 1 (by decide) λ p hp=>(h p hp).pos).2.2.1
theorem n_N {ps:List (Int × Int)} (h:∀ p∈ps,c_z p) {m:Int} (k:∀ p∈ps,p.2∣m):lawU ps∣m:=(g_E ps 1 (by decide) λ p hp=>(h p hp).pos).2.2.2 m (Int.one_dvd _) k
theorem i_C {ps:List (Int × Int)} (h:∀ p∈ps,c_z p):0 < proU ps:=(i_B ps 1 (by decide) λ p hp=>(h p hp).pos).1
theorem s_G {ps:List (Int × Int)} (h:∀ p∈ps,c_z p):∀ p∈ps,p.2∣proU ps:=(i_B ps 1 (by decide) λ p hp=>(h p hp).pos).2.2
theorem k_A {u b:Int} (hb:0 < b) (h:b∣u):u.fdiv b*b=u:=b_Z (by omega) h
theorem u_q {ps:List (Int × Int)} (h:∀ p∈ps,c_z p):gl (lawU ps) (lawT ps)=1:=by
 have hu:=l_T h;have hu0:lawU ps≠0:=by omega
 have g0:=n_J (lawT ps) hu0;have d0:=gl_u (lawU ps) (lawT ps);obtain ⟨m,em⟩:=d0;have hd:lawU ps∣m:=by
  refine n_N h λ p hp=>?_;have gp:=h p hp;have d1:gl (lawU ps) (lawT ps)∣p.1*(lawU ps).fdiv p.2:=g_U (List.mem_map.mpr ⟨p,hp,rfl⟩);obtain ⟨n,en⟩:=d1;have e2:=k_A gp.pos (l_U h p hp);generalize (lawU ps).fdiv p.2=f at *
  have e3:p.1*m=n*p.2:=by
   have:gl (lawU ps) (lawT ps)*(p.1*m)=gl (lawU ps) (lawT ps)*(n*p.2):=by
    calc gl (lawU ps) (lawT ps)*(p.1*m)=p.1*(gl (lawU ps) (lawT ps)*m):=by grind
     _=p.1*lawU ps:=by rw [← em]
     _=p.1*(f*p.2):=by rw [e2]
     _=p.1*f*p.2:=by rw [Int.mul_assoc]
     _=gl (lawU ps) (lawT ps)*n*p.2:=by rw [en]
     _=_:=by rw [Int.mul_assoc]
   exact Int.eq_of_mul_eq_mul_left (by omega) this
  have lo:=gp.low;unfold gcdI at lo;have lo':Int.gcd p.2 p.1=1:=by rw [Int.gcd_comm]; omega
  have dd:p.2∣p.1*m:=⟨n,by rw [e3,Int.mul_comm]⟩;have dn:=Int.natAbs_dvd_natAbs.mpr dd;rw [yE] at dn;exact Int.natAbs_dvd_natAbs.mp (Nat.Coprime.dvd_of_dvd_mul_left (show Nat.Coprime p.2.natAbs p.1.natAbs from lo') dn)
 have hm:0 < m:=by
  rcases Int.lt_trichotomy m 0 with z | z | z
  ·have:=Int.mul_neg_of_pos_of_neg g0 z; omega
  ·rw [z,Int.mul_zero] at em; omega
  ·exact z
 have le:=Int.le_of_dvd hm hd;have:gl (lawU ps) (lawT ps)*m<=1*m:=by rw [← em]; omega
 have:=Int.le_of_mul_le_mul_right this hm;omega
theorem n_O {ps:List (Int × Int)} (h:∀ p∈ps,c_z p):redT (proU ps) (proT ps)=lawT ps/\redU (proU ps) (proT ps)=lawU ps:=by
 have hp:=i_C h;have hl:=l_T h;have p0:proU ps≠0:=by omega
 refine r_Z (g_V _ p0) hl (v_W p0) (u_q h) (by simp [redT,proT,lawT]) λ i x y ex ey=>?_;have e1:∃ p,ps[i]?=some p:=by
  cases e:ps[i]? with
  | none=>unfold lawT at ey; rw [zH,e] at ey; cases ey
  | some p=>exact ⟨p,rfl⟩
 obtain ⟨p,e⟩:=e1;have hm:=zqb e;have gp:=h p hm;have ea:(proT ps)[i]?=some (p.1*(proU ps).fdiv p.2):=by unfold proT; rw [zH,e]; rfl
 have eb:y=p.1*(lawU ps).fdiv p.2:=by unfold lawT at ey; rw [zH,e] at ey; cases ey; rfl
 have k:=p_P p0 ea ex;have k1:=k_A gp.pos (s_G h p hm);have k2:=k_A gp.pos (l_U h p hm);rw [eb];generalize (proU ps).fdiv p.2=f1 at *
 generalize (lawU ps).fdiv p.2=f2 at *;generalize redU (proU ps) (proT ps)=r at *
 generalize proU ps=pu at *;generalize lawU ps=lu at *
 have b0:p.2≠0:=by have:=gp.pos; omega
 have f0:f1≠0:=λ z=>by rw [z,Int.zero_mul] at k1; omega
 refine Int.eq_of_mul_eq_mul_left (a:=f1*p.2) (by rw [k1]; omega) ?_;have:x*(f1*p.2)=p.1*f1*r:=by rw [k1]; exact k.symm
 calc f1*p.2*(x*lu)=x*(f1*p.2)*lu:=by grind
  _=p.1*f1*r*lu:=by rw [this]
  _=f1*p.2*(p.1*f2*r):=by rw [← k2]; grind
theorem s_H:∀ (ps:List (Int × Int)) (u:Int),0 < u->(∀ p∈ps,c_z p)->∀ k:Nat,u < 10 ^ k->ps.foldl (λ u p=>u*p.2) u < 10 ^ (k+100*ps.length)
 | [],u,_,_,k,h=>by simpa using h
 | q :: r,u,hu,h,k,hk=>by
  have hq:=h q zU;have h2:q.2 < 10 ^ 100:=by have:=hq.bot; have:=hq.pos; omega
  have:=s_H r (u*q.2) (Int.mul_pos hu hq.pos) (λ p hp=>h p (zN _ hp)) (k+100) (by
   rw [Int.pow_add];have a1:u*q.2 < u*10 ^ 100:=Int.mul_lt_mul_of_pos_left h2 hu;have a2:u*10 ^ 100 < 10 ^ k*10 ^ 100:=Int.mul_lt_mul_of_pos_right hk (by decide);omega)
  rw [List.foldl_cons,List.length_cons];rw [show k+100*(r.length+1)=k+100+100*r.length by omega];exact this
end
section
open PySem.NumText
noncomputable def repL (c:Nat) (z:List Nat) (x:List Nat):List Nat:=x.flatMap λ d=>if d=c then z else [d]
theorem d_D (c:Nat) (z a b:List Nat):repL c z (a++b)=repL c z a++repL c z b:=by unfold repL; rw [List.flatMap_append]
theorem e_C {c:Nat} {z:List Nat}:∀ {x:List Nat},c ∉ x->repL c z x=x
 | [],_=>rfl
 | d :: r,h=>by
  have h1:¬ d=c:=λ e=>h (by rw [e]; exact zU);have h2:=e_C (z:=z) (x:=r) λ q=>h (zN _ q);unfold repL at *
  rw [List.flatMap_cons,if_neg h1,h2];rfl
theorem l_V (c:Nat) {z:List Nat} (hz:z.length=2):∀ x:List Nat,(repL c z x).length<=2*x.length
 | []=>by simp [repL]
 | d :: r=>by
  have ih:=l_V c hz r;unfold repL at *
  rw [List.flatMap_cons,List.length_append,List.length_cons];split
  ·omega
  ·simp only [List.length_singleton]; omega
theorem j_A (c:Nat) (z:Str):∀ parts:List Str,(∀ p∈parts,c ∉ p.cps.toList)->(Str.join z parts).cps.toList=repL c z.cps.toList (Str.join ⟨#[c]⟩ parts).cps.toList
 | [],_=>by show ([]:List Nat)=repL c z.cps.toList []; rfl
 | [p],h=>(e_C (h p (List.mem_singleton.mpr rfl))).symm
 | p :: q :: r,h=>by
  have ih:=j_A c z (q :: r) λ a ha=>h a (zN _ ha);rw [e_b];show (p++z++Str.join z (q :: r)).cps.toList=_;simp only [Str.cps_append,Array.toList_append];rw [ih,d_D,e_C (h p zU)];rw [show c :: (Str.join ⟨#[c]⟩ (q :: r)).cps.toList=[c]++(Str.join ⟨#[c]⟩ (q :: r)).cps.toList from rfl,d_D];have:repL c z.cps.toList [c]=z.cps.toList:=by unfold repL; simp
  rw [this,List.append_assoc]
theorem w_c (x z:Str) (c:Nat):(Txt.replace x ⟨#[c]⟩ z).cps.toList=repL c z.cps.toList x.cps.toList:=by
 rw [PySem.StrLaws.replace_one,j_A c z _ (PySem.StrLaws.split_free x c),PySem.StrLaws.join_split]
noncomputable def plus:Str := "+"
noncomputable def j_B:Str := "+-"
theorem o_L:plus=⟨#[43]⟩:=by decide +kernel
theorem s_I:plus.cps.toList=[43]:=by decide +kernel
theorem w_d:j_B.cps.toList=[43,45]:=by decide +kernel
theorem j_C:c_F.cps.toList=[45]:=by decide +kernel
theorem e_o (x y:Str):(x++y).cps.toList=x.cps.toList++y.cps.toList:=by show (x.cps++y.cps).toList=_; rw [Array.toList_append]
noncomputable def repM (x:Str):Str:=Txt.replace x c_F j_B
theorem i_D (x:Str):(repM x).cps.toList=repL 45 [43,45] x.cps.toList:=by unfold repM; rw [l_N,w_c,w_d]
theorem l_W (x:Str):(repM x).length<=2*x.length:=by
 rw [← c_E,← c_E,i_D];exact l_V 45 rfl _
noncomputable def e_t (x:Str):List Str:=if Txt.startswith x c_F=true then (Txt.split (repM x) plus).drop 1 else Txt.split (repM x) plus
theorem g_g {x y:Str} {d:Nat} (hy:y.cps=#[d]) {c:Nat} {r:List Nat} (h:x.cps.toList=c :: r):Txt.startswith x y=decide (c=d):=by
 have l1:y.length=1:=by show y.cps.size=1; rw [hy]; rfl
 unfold Txt.startswith Builtin.Str.subAt;rw [l1,hy];have hx:x=⟨(c :: r).toArray⟩:=c_Q (by rw [h]);subst hx;have e1:decide (0+1<=(⟨(c :: r).toArray⟩:Str).length)=true:=zW (by show 0+1<=(c :: r).toArray.size; simp);rw [e1,Bool.true_and];have e2:((⟨(c :: r).toArray⟩:Str).cps.extract 0 (0+1))=#[c]:=by simp
 rw [e2]
 by_cases z:c=d
 ·subst z; simp
 ·simp [z]
noncomputable def h_P (x:Str):Str:=if Txt.startswith x plus=true then Txt.slice x (some 1) none else x
noncomputable def catS (xs:List Str):Str:=xs.foldl (·++·) ""
theorem f_U:("" : Str).cps.toList=[]:=by decide +kernel
theorem l_X:∀ (xs:List Str) (a:Str),(xs.foldl (·++·) a).cps.toList=a.cps.toList++xs.flatMap λ x=>x.cps.toList
 | [],a=>by simp
 | x :: r,a=>by rw [List.foldl_cons,l_X r,e_o,List.flatMap_cons,List.append_assoc]
theorem o_M (xs:List Str):(catS xs).cps.toList=xs.flatMap λ x=>x.cps.toList:=by
 unfold catS;rw [l_X,f_U,List.nil_append]
inductive Tm where
 | ltr (k:Nat) (n:Int)
 | alone (p:Int × Int)
noncomputable def amtT (n:Int):Str:=if n.natAbs=1 then ("" : Str) else dec n.natAbs
noncomputable def letT (k:Nat):Str:=⟨#[120+k]⟩
noncomputable def Tm.neg:Tm->Bool
 | .ltr _ n=>decide (n < 0)
 | .alone p=>decide (p.1 < 0)
noncomputable def Tm.bod:Tm->Str
 | .ltr k n=>amtT n++letT k
 | .alone p=>c_M p.1.natAbs p.2.toNat
noncomputable def Tm.Good (d:Nat):Tm->Prop
 | .ltr k n=>k < d/\n≠0/\n.natAbs < 10 ^ 100
 | .alone p=>c_z p/\p.1≠0
noncomputable def Tm.Of (R:List Int) (p:Int × Int):Tm->Prop
 | .ltr k n=>n=R.getD k 0
 | .alone q=>q=p
noncomputable def Tm.txt (u:Tm):Str:=(if u.neg=true then c_F else plus)++u.bod
noncomputable def Tm.tok (u:Tm):Str:=if u.neg=true then c_F++u.bod else u.bod
theorem k_B (k:Nat):(letT k).cps.toList=[120+k]:=rfl
noncomputable def okC (c:Nat):Prop:=(48<=c/\c<=57)\/c=47\/(120<=c/\c<=122)
theorem k_C (n:Nat):∀ c∈(dec n).cps.toList,48<=c/\c<=57:=λ c hc=>g_D n c hc
theorem w_e (n:Int):∀ c∈(amtT n).cps.toList,48<=c/\c<=57:=λ c hc=>by
 unfold amtT at hc;split at hc
 ·rw [f_U] at hc; cases hc
 ·exact k_C _ c hc
theorem o_N (n b:Nat):∀ c∈(c_M n b).cps.toList,(48<=c/\c<=57)\/c=47:=λ c hc=>by
 unfold c_M at hc;split at hc
 ·exact .inl (k_C _ c hc)
 ·rw [e_o,e_o,show c_V.cps.toList=[47] from by decide +kernel] at hc;simp only [List.mem_append,List.mem_singleton] at hc;rcases hc with (h | h) | h
  ·exact .inl (k_C _ c h)
  ·exact .inr h
  ·exact .inl (k_C _ c h)
theorem s_J {d:Nat} (hd:d<=3) {u:Tm} (h:u.Good d):∀ c∈u.bod.cps.toList,okC c:=λ c hc=>by
 cases u with
 | ltr k n =>
  have hc:c∈(amtT n++letT k).cps.toList:=hc;rw [e_o,k_B] at hc;rcases List.mem_append.mp hc with q | q
  ·exact .inl (w_e n c q)
  ·have:=List.mem_singleton.mp q;have:=h.1;exact .inr (.inr (by omega))
 | alone p =>
  rcases o_N _ _ c hc with q | q
  ·exact .inl q
  ·exact .inr (.inl q)
theorem i_E {d:Nat} (hd:d<=3) {u:Tm} (h:u.Good d):∃ c r,u.bod.cps.toList=c :: r/\okC c:=by
 have key:u.bod.cps.toList≠[]:=by
  cases u with
  | ltr k n =>
   show (amtT n++letT k).cps.toList≠[];rw [e_o,k_B];simp
  | alone p =>
   obtain ⟨c,r,e,_⟩:=i_A (n:=p.1.natAbs) (b:=p.2.toNat) (by have:=h.2; omega);show (c_M _ _).cps.toList≠[];rw [e];simp
 cases e:u.bod.cps.toList with
 | nil=>exact yJ e key
 | cons c r=>exact ⟨c,r,rfl,s_J hd h c (by rw [e]; exact zU)⟩
theorem f_I {d:Nat} (hd:d<=3) {u:Tm} (h:u.Good d) {c:Nat} (hc:c < 47):c ∉ u.bod.cps.toList:=λ z=>by
 rcases s_J hd h c z with q | q | q <;> omega
theorem k_D (u:Tm):u.txt.cps.toList=(if u.neg=true then 45 else 43) :: u.bod.cps.toList:=by
 unfold Tm.txt;rw [e_o];split
 ·rw [j_C]; rfl
 ·rw [s_I]; rfl
theorem e_R (u:Tm):u.tok.cps.toList=(if u.neg=true then [45] else [])++u.bod.cps.toList:=by
 unfold Tm.tok;split
 ·rw [e_o,j_C]
 ·rfl
theorem s_K {d:Nat} (hd:d<=3) {u:Tm} (h:u.Good d) {c:Nat} (hc:c < 45):c ∉ u.tok.cps.toList:=by
 rw [e_R];have:=f_I hd h (c:=c) (by omega);split
 ·simp only [List.singleton_append,List.mem_cons,not_or];exact ⟨by omega,this⟩
 ·simpa using this
theorem s_L {d:Nat} (hd:d<=3) {u:Tm} (h:u.Good d):44 ∉ u.txt.cps.toList:=by
 rw [k_D];have:=f_I hd h (c:=44) (by omega);simp only [List.mem_cons,not_or];exact ⟨by split <;> decide,this⟩
theorem u_r {d:Nat} (hd:d<=3) {u:Tm} (h:u.Good d):repL 45 [43,45] u.txt.cps.toList=43 :: u.tok.cps.toList:=by
 have f:=e_C (z:=[43,45]) (f_I hd h (c:=45) (by decide));rw [k_D,e_R];split
 ·rw [show 45 :: u.bod.cps.toList=[45]++u.bod.cps.toList from rfl,d_D,f];rfl
 ·rw [show 43 :: u.bod.cps.toList=[43]++u.bod.cps.toList from rfl,d_D,f];rfl
theorem o_O {d:Nat} (hd:d<=3):∀ us:List Tm,(∀ v∈us,v.Good d)->repL 45 [43,45] ((us.map Tm.txt).flatMap λ x=>x.cps.toList)=(us.map Tm.tok).flatMap λ q=>43 :: q.cps.toList
 | [],_=>rfl
 | u :: r,h=>by
  rw [List.map_cons,List.flatMap_cons,d_D,u_r hd (h u zU),o_O hd r λ v hv=>h v (zN _ hv),List.map_cons,List.flatMap_cons]
theorem h_c (c:Nat):∀ (p:Str) (ps:List Str),(Str.join ⟨#[c]⟩ (p :: ps)).cps.toList=p.cps.toList++ps.flatMap λ q=>c :: q.cps.toList
 | p,[]=>by rw [List.flatMap_nil,List.append_nil]; rfl
 | p,q :: r=>by rw [e_b,h_c c q r,List.flatMap_cons]; rfl
noncomputable def e_D (us:List Tm):Str:=h_P (catS (us.map Tm.txt))
theorem l_Y {d:Nat} (hd:d<=3) {u:Tm} {us:List Tm} (h:u.Good d):(e_D (u :: us)).cps.toList=(if u.neg=true then [45] else [])++(u.bod.cps.toList++(us.map Tm.txt).flatMap λ x=>x.cps.toList):=by
 have e:(catS ((u :: us).map Tm.txt)).cps.toList=(if u.neg=true then 45 else 43) :: (u.bod.cps.toList++(us.map Tm.txt).flatMap λ x=>x.cps.toList):=by
  rw [o_M,List.map_cons,List.flatMap_cons,k_D];rfl
 unfold e_D h_P;rw [g_g (by decide +kernel:plus.cps=#[43]) e];cases hn:u.neg with
 | true =>
  rw [hn] at e;rw [if_neg (by decide),e];rfl
 | false =>
  rw [hn] at e;rw [if_pos (by decide)];exact o_K e
theorem s_M {d:Nat} (hd:d<=3) {u:Tm} {us:List Tm} (hg:∀ v∈u :: us,v.Good d):Txt.startswith (e_D (u :: us)) plus=false/\e_t (e_D (u :: us))=(u :: us).map Tm.tok:=by
 have gu:=hg u zU;have gr:∀ v∈us,v.Good d:=λ v hv=>hg v (zN _ hv);have e:=l_Y (us:=us) hd gu;obtain ⟨c,r,ec,okc⟩:=i_E hd gu;have c43:c≠43:=λ z=>by subst z; rcases okc with q | q | q <;> omega
 have c45:c≠45:=λ z=>by subst z; rcases okc with q | q | q <;> omega
 have fb:=e_C (z:=[43,45]) (f_I hd gu (c:=45) (by decide));have fr:=o_O hd us gr;have toks:∀ p∈(u :: us).map Tm.tok,43 ∉ p.cps.toList:=λ p hp=>by
  obtain ⟨v,hv,rfl⟩:=List.mem_map.mp hp;exact s_K hd (hg v hv) (by decide)
 unfold e_t;cases hn:u.neg with
 | true =>
  rw [hn] at e;have e':(e_D (u :: us)).cps.toList=45 :: (u.bod.cps.toList++(us.map Tm.txt).flatMap λ x=>x.cps.toList):=e;rw [g_g (by decide +kernel:plus.cps=#[43]) e',g_g (by decide +kernel:c_F.cps=#[45]) e',if_pos (by decide)];refine ⟨by decide,?_⟩;have sp:Txt.split (repM (e_D (u :: us))) plus=("" : Str) :: (u :: us).map Tm.tok:=by
   rw [o_L];refine f_H (by simp) (λ p hp=>?_) (c_Q ?_)
   ·rcases List.mem_cons.mp hp with q | q
    ·rw [q,f_U]; simp
    ·exact toks p q
   ·have e2:(e_D (u :: us)).cps.toList=[45]++(u.bod.cps.toList++(us.map Tm.txt).flatMap λ x=>x.cps.toList):=e';rw [h_c,f_U,List.nil_append,List.map_cons,List.flatMap_cons,i_D,e2,d_D,d_D,fb,fr,e_R,hn];rfl
  rw [sp];rfl
 | false =>
  rw [hn] at e;have e':(e_D (u :: us)).cps.toList=c :: (r++(us.map Tm.txt).flatMap λ x=>x.cps.toList):=by
   rw [e,ec]; rfl
  rw [g_g (by decide +kernel:plus.cps=#[43]) e',g_g (by decide +kernel:c_F.cps=#[45]) e',if_neg (by simp [c45])];refine ⟨zX c43,?_⟩;rw [o_L];refine f_H (by simp) toks (c_Q ?_);rw [List.map_cons,h_c,i_D,e,d_D,d_D,fb,fr,e_R,hn];rfl
noncomputable def lets (n:Nat):Str:=Txt.slice ("xyz" : Str) none (some (n:Int))
noncomputable def e_X (n c:Nat):Int:=if c=120 then 0 else if c=121 then 1 else if c=122/\n=3 then 2 else -1
theorem s_N {n:Nat} (h:n=2\/n=3):(lets n).length=n:=by rcases h with rfl | rfl <;> decide +kernel
theorem l_Z {x:Str} {n c:Nat} (hl:x.length=n) (h:∀ i < n,x.cps.extract i (i+1)=#[x.cps.getD i 0]/\x.cps.getD i 0 < 123) (hc:123<=c):Txt.find x ⟨#[c]⟩=-1:=by
 have:=s_A hl h hc;unfold inT at this;have e:Builtin.Str.occurrences x ⟨#[c]⟩ 0 x.length 1=[]:=by
  cases q:Builtin.Str.occurrences x ⟨#[c]⟩ 0 x.length 1 with
  | nil=>rfl
  | cons a b=>rw [q] at this; cases this
 unfold Txt.find;rw [e]
theorem m_d:∀ c < 123,Txt.find (lets 2) ⟨#[c]⟩=e_X 2 c:=by decide +kernel
theorem m_m:∀ c < 123,Txt.find (lets 3) ⟨#[c]⟩=e_X 3 c:=by decide +kernel
theorem k_E {n:Nat} (h:n=2\/n=3) (c:Nat):Txt.find (lets n) ⟨#[c]⟩=e_X n c:=by
 by_cases hc:c < 123
 ·rcases h with rfl | rfl
  ·exact m_d c hc
  ·exact m_m c hc
 ·have f:e_X n c=-1:=by unfold e_X; rw [if_neg (by omega),if_neg (by omega),if_neg (by omega)]
  rw [f];rcases h with rfl | rfl
  ·exact l_Z (n:=2) (by decide +kernel) (by decide +kernel) (by omega)
  ·exact l_Z (n:=3) (by decide +kernel) (by decide +kernel) (by omega)
theorem m_s {n:Nat} (h:n=2\/n=3) (c:Nat):e_X n c=-1\/(0<=e_X n c/\e_X n c < n):=by
 unfold e_X;split
 ·right; omega
 ·split
  ·right; omega
  ·split
   ·right; omega
   ·left; rfl
noncomputable def s_O (x:Str):Str:=Txt.slice x (some (-1)) none
noncomputable def m_A (x:Str):Str:=Txt.slice x none (some (-1))
noncomputable def midS (x:Str):Str:=Txt.slice x (some 1) (some (-1))
theorem k_F {x:Str} {i:List Nat} {c:Nat} (e:x.cps.toList=i++[c]):s_O x=⟨#[c]⟩:=by
 have hl:x.length=i.length+1:=by rw [← c_E,e]; simp
 have k:=beq_iff_eq.mp (PyProof.Rows.slice_closes_from_neg (x:=x) (i:=-1) (a:=(i.length:Int)) (b:=(x.length:Int)) (by decide) (by omega) (by omega) rfl);unfold s_O;rw [k,e,zR,List.drop_left,hl];have:(((i.length+1:Nat):Int) - (i.length:Int)).toNat=1:=by omega
 rw [this];rfl
theorem u_s {x:Str} {i:List Nat} {c:Nat} (e:x.cps.toList=i++[c]):(m_A x).cps.toList=i:=by
 have hl:x.length=i.length+1:=by rw [← c_E,e]; simp
 have k:=beq_iff_eq.mp (PyProof.Rows.slice_closes_to_neg (x:=x) (j:=-1) (k:=(i.length:Int)) (by decide) (by omega) (by omega));unfold m_A;rw [k,e];show (List.take ((i.length:Int) - 0).toNat (List.drop (0:Int).toNat (i++[c]))).toArray.toList=i;rw [List.toList_toArray,show ((i.length:Int) - 0).toNat=i.length by omega];exact List.take_left
theorem w_f {x:Str} {i:List Nat} {a c:Nat} (e:x.cps.toList=a :: (i++[c])):(midS x).cps.toList=i:=by
 have hl:x.length=i.length+2:=by rw [← c_E,e]; simp
 have k:midS x=Txt.slice x (some 1) (some (-1+(x.length:Int))):=PySem.StrLaws.sliceText_neg_hi x (some 1) (j:=-1) (by decide) (by omega);have k2:=beq_iff_eq.mp (PyProof.Rows.slice_closes (x:=x) (i:=1) (j:=-1+(x.length:Int)) ⟨by decide,by omega,by rw [c_E]; omega⟩);rw [k,k2,e];show (List.take (-1+(x.length:Int) - 1).toNat (i++[c])).toArray.toList=i;rw [List.toList_toArray,show (-1+(x.length:Int) - 1).toNat=i.length by omega];exact List.take_left
noncomputable def amtV (x:Str):Option Int:=if x=("" : Str) then some 1 else if x=("1" : Str) then none else if b_J x=true then some (valN x:Int) else none
noncomputable def sgnV (x:Str):Option (Int × Int):=if Txt.startswith x c_F=true then (e_B (h_B x)).map negP else e_B x
noncomputable def atV (n:Nat) (x:Str):Int:=if x=("" : Str) then -1 else Txt.find (lets n) (s_O x)
noncomputable def tmV (n:Nat) (s:List Int × (Int × Int)) (x:Str):Option (List Int × (Int × Int)) :=
 if atV n x=-1 then (if s.2.1=0 then (sgnV x).map λ p=>(s.1,p) else none)
 else if s.1.getD (atV n x).toNat 0=0 then (if Txt.startswith x c_F=true then (amtV (midS x)).map λ a=>(s.1.set (atV n x).toNat (-a),s.2) else (amtV (m_A x)).map λ a=>(s.1.set (atV n x).toNat a,s.2))
 else none
noncomputable def e_i (n:Nat):List Str->List Int × (Int × Int)->Option (List Int × (Int × Int))
 | [],s=>some s
 | x :: r,s=>(tmV n s x).bind (e_i n r)
noncomputable def d_G (n:Nat) (x:Str):Option (List Int × (Int × Int)):=if Txt.startswith x plus=true then none else e_i n (e_t x) (List.replicate n 0,(0,1))
theorem o_P {l:List Nat} (h:l≠[]):∃ i c,l=i++[c]:=⟨l.dropLast,l.getLast h,(List.dropLast_concat_getLast h).symm⟩
theorem i_F {x:Str} (h:x.cps.toList≠[]):x≠("" : Str):=λ e=>h (by rw [e,f_U])
theorem s_P {n:Nat} (h:n=2\/n=3) (x:Str):atV n x=-1\/(0<=atV n x/\atV n x < n):=by
 unfold atV;split
 ·exact .inl rfl
 ·rename_i hx;have hne:x.cps.toList≠[]:=λ e=>hx (c_Q (by rw [e,f_U]));obtain ⟨i,c,e⟩:=o_P hne;rw [k_F e,k_E h];exact m_s h c
theorem s_Q:valN ("1" : Str)=1:=by decide +kernel
theorem m_B {n:Int} (h0:n≠0) (h:n.natAbs < 10 ^ 100):amtV (amtT n)=some (n.natAbs:Int):=by
 unfold amtT;split
 ·rename_i e;unfold amtV;rw [if_pos rfl,e];rfl
 ·rename_i e;obtain ⟨w1,w2⟩:=h_a (n:=n.natAbs) (by omega) h;obtain ⟨c,r,e2,_⟩:=i_y (n:=n.natAbs) (by omega);unfold amtV;rw [if_neg (i_F (by rw [e2]; simp)),if_neg (λ z=>e (by rw [← w2,z,s_Q])),if_pos w1,w2]
theorem u_t {d:Nat} (hd:d<=3) {u:Tm} (h:u.Good d):Txt.startswith u.tok c_F=u.neg:=by
 obtain ⟨c,r,ec,okc⟩:=i_E hd h;have e:=e_R u;cases hn:u.neg with
 | true =>
  rw [hn] at e;rw [g_g (by decide +kernel:c_F.cps=#[45]) (c:=45) (r:=u.bod.cps.toList) e];rfl
 | false =>
  rw [hn,ec] at e;rw [g_g (by decide +kernel:c_F.cps=#[45]) (c:=c) (r:=r) e];exact zX λ z=>by subst z; rcases okc with q | q | q <;> omega
theorem p_W {n k:Nat} (h:n=2\/n=3) (hk:k < n):e_X n (120+k)=(k:Int):=by
 unfold e_X
 match k,hk with
 | 0,_=>rfl
 | 1,_=>rfl
 | 2,hk =>
  have:n=3:=by omega
  subst this;rfl
 | k+3,hk=>omega
theorem w_g {n k:Nat} {m:Int} (hn:n=2\/n=3) (g:(Tm.ltr k m).Good n) {s:List Int × (Int × Int)} (h0:s.1.getD k 0=0):tmV n s (Tm.ltr k m).tok=some (s.1.set k m,s.2):=by
 have hd:n<=3:=by omega
 obtain ⟨g1,g2,g3⟩:=id g;have e:=e_R (Tm.ltr k m);have eb:(Tm.ltr k m).bod.cps.toList=(amtT m).cps.toList++[120+k]:=by
  show (amtT m++letT k).cps.toList=_;rw [e_o,k_B]
 rw [eb,← List.append_assoc] at e;have ea:atV n (Tm.ltr k m).tok=(k:Int):=by
  unfold atV;rw [if_neg (i_F (by rw [e]; simp)),k_F e,k_E hn,p_W hn g1]
 unfold tmV;rw [ea,if_neg (by omega),zR,if_pos h0,u_t hd g];cases hs:(Tm.ltr k m).neg with
 | true =>
  have hm:m < 0:=zY hs;rw [hs] at e;have e2:(Tm.ltr k m).tok.cps.toList=45 :: ((amtT m).cps.toList++[120+k]):=by rw [e]; rfl
  rw [if_pos rfl,c_Q (w_f e2),m_B g2 g3];show some (s.1.set k (-(m.natAbs:Int)),s.2)=_;rw [show -(m.natAbs:Int)=m by omega]
 | false =>
  have hm:¬ m < 0:=of_decide_eq_false hs;rw [hs] at e;have e2:(Tm.ltr k m).tok.cps.toList=(amtT m).cps.toList++[120+k]:=by rw [e]; rfl
  rw [if_neg (by decide),c_Q (u_s e2),m_B g2 g3];show some (s.1.set k (m.natAbs:Int),s.2)=_;rw [show (m.natAbs:Int)=m by omega]
theorem s_R (p:Int × Int):(Tm.alone p).tok=l_Q p:=by
 unfold Tm.tok l_Q;show (if decide (p.1 < 0)=true then c_F++c_M p.1.natAbs p.2.toNat else c_M p.1.natAbs p.2.toNat)=_
 by_cases h:p.1 < 0
 ·rw [if_pos h,if_pos (by simpa using h)]
 ·rw [if_neg h,if_neg (by simpa using h)]
theorem s_S {p:Int × Int} (g:c_z p) (h:p.1≠0):sgnV (l_Q p)=some p:=by
 have k:=s_E g;unfold numV at k;split at k
 ·cases k;exact yJ rfl h
 ·unfold sgnV;exact k
theorem s_T {n:Nat} {p:Int × Int} (hn:n=2\/n=3) (g:(Tm.alone p).Good n) {s:List Int × (Int × Int)} (h0:s.2.1=0):tmV n s (Tm.alone p).tok=some (s.1,p):=by
 have hd:n<=3:=by omega
 obtain ⟨c0,r0,ec,_⟩:=i_E hd g;have e:=e_R (Tm.alone p);have hne:(Tm.alone p).tok.cps.toList≠[]:=by rw [e,ec]; simp
 obtain ⟨i,c,ei⟩:=o_P hne;have hc:c∈(Tm.alone p).tok.cps.toList:=by rw [ei]; simp
 have hc2:c < 58:=by
  rw [e] at hc;rcases List.mem_append.mp hc with q | q
  ·split at q
   ·have:=List.mem_singleton.mp q; omega
   ·cases q
  ·rcases o_N _ _ c q with q | q <;> omega
 have ea:atV n (Tm.alone p).tok=-1:=by
  unfold atV;rw [if_neg (i_F hne),k_F ei,k_E hn];unfold e_X;rw [if_neg (by omega),if_neg (by omega),if_neg (by omega)]
 unfold tmV;rw [if_pos ea,if_pos h0,s_R,s_S g.1 g.2];rfl
theorem s_U {l:List Int} {k j:Nat} {m:Int} (hk:k < l.length):(l.set k m).getD j 0=if j=k then m else l.getD j 0:=by
 rw [zqc,zqc,List.getElem?_set]
 by_cases h:k=j
 ·subst h;rw [if_pos rfl,if_pos rfl,if_pos hk];rfl
 ·rw [if_neg h,if_neg (λ z=>h z.symm)]
theorem k_G {n:Nat} (hn:n=2\/n=3) {R:List Int} {p:Int × Int} (hR:R.length=n):∀ (us:List Tm) (s:List Int × (Int × Int)),(∀ u∈us,u.Good n/\u.Of R p)->us.Nodup->s.1.length=n ->
  (∀ k,k < n->(Tm.ltr k (R.getD k 0)∈us->s.1.getD k 0=0)/\(Tm.ltr k (R.getD k 0) ∉ us->s.1.getD k 0=R.getD k 0))->((Tm.alone p∈us->s.2=(0,1))/\(Tm.alone p ∉ us->s.2=p))->e_i n (us.map Tm.tok) s=some (R,p)
 | [],s,_,_,hl,h1,h2=>by
  obtain ⟨s1,s2⟩:=s;have e2:s2=p:=h2.2 (by simp);have e1:s1=R:=by
   refine yG (by rw [hR]; exact hl) λ i hi1 hi2=>?_;have:=(h1 i (by omega)).2 (by simp);simpa [zqc,hi1,hi2] using this
  rw [e1,e2];rfl
 | u :: r,s,hg,hnd,hl,h1,h2=>by
  obtain ⟨gu,ou⟩:=hg u zU;obtain ⟨nu,nr⟩:=List.nodup_cons.mp hnd;have gr:∀ v∈r,v.Good n/\v.Of R p:=λ v hv=>hg v (zN _ hv);rw [List.map_cons];unfold e_i;cases u with
  | ltr k m =>
   have em:m=R.getD k 0:=ou;have hk:k < n:=gu.1;rw [w_g hn gu ((h1 k hk).1 (by rw [← em]; exact zU))];show e_i n (r.map Tm.tok) (s.1.set k m,s.2)=_;refine k_G hn hR r _ gr nr (by simp [hl]) (λ j hj=>?_) ⟨λ z=>h2.1 (zN _ z),λ z=>h2.2 λ q=>?_⟩
   ·show (_->(s.1.set k m).getD j 0=0)/\(_->(s.1.set k m).getD j 0=_);rw [s_U (by omega)]
    by_cases hjk:j=k
    ·subst hjk;rw [if_pos rfl,← em];exact ⟨λ z=>yJ z nu,λ _=>rfl⟩
    ·rw [if_neg hjk];refine ⟨λ z=>(h1 j hj).1 (zN _ z),λ z=>(h1 j hj).2 λ q=>?_⟩;rcases List.mem_cons.mp q with q | q
     ·injection q with q1 q2;exact hjk q1
     ·exact z q
   ·rcases List.mem_cons.mp q with q | q
    ·cases q
    ·exact z q
  | alone q =>
   have eq:q=p:=ou;subst eq;have z0:=h2.1 zU;rw [s_T hn gu (by rw [z0])];show e_i n (r.map Tm.tok) (s.1,q)=_;refine k_G hn hR r _ gr nr hl (λ j hj=>⟨λ z=>(h1 j hj).1 (zN _ z),λ z=>(h1 j hj).2 λ w=>?_⟩) ⟨λ z=>yJ z nu,λ _=>rfl⟩;rcases List.mem_cons.mp w with w | w
   ·cases w
   ·exact z w
structure Wrt (n:Nat) (R:List Int) (p:Int × Int) (us:List Tm):Prop where
 len:R.length=n
 pr:c_z p
 good:∀ u∈us,u.Good n/\u.Of R p
 nd:us.Nodup
 ne:us≠[]
 row:∀ k,k < n->R.getD k 0≠0->Tm.ltr k (R.getD k 0)∈us
 one:p.1≠0->Tm.alone p∈us
theorem Wrt.perm {n:Nat} {R:List Int} {p:Int × Int} {us vs:List Tm} (h:Wrt n R p us) (q:us.Perm vs):Wrt n R p vs :=
 ⟨h.len,h.pr,λ u hu=>h.good u (q.mem_iff.mpr hu),q.nodup_iff.mp h.nd,λ e=>h.ne (by rw [e] at q; exact q.eq_nil),λ k hk hz=>q.mem_iff.mp (h.row k hk hz),λ hz=>q.mem_iff.mp (h.one hz)⟩
theorem u_u {p:Int × Int} (g:c_z p) (h:p.1=0):p=(0,1):=by
 obtain ⟨a,b⟩:=p;have h:a=0:=h;have lo:gcdI a b=1:=g.low;have hp:0 < b:=g.pos;subst h;unfold gcdI at lo;rw [Int.gcd_zero_left] at lo;have:b=1:=by omega
 rw [this]
theorem h_d {n:Nat} (hn:n=2\/n=3) {R:List Int} {p:Int × Int} {us:List Tm} (h:Wrt n R p us):d_G n (e_D us)=some (R,p):=by
 have hd:n<=3:=by omega
 match us,h with
 | [],h=>exact yJ rfl h.ne
 | u :: r,h =>
  obtain ⟨t1,t2⟩:=s_M (us:=r) hd λ v hv=>(h.good v hv).1;unfold d_G;rw [t1,if_neg (by decide),t2];refine k_G hn h.len _ _ h.good h.nd (by simp) (λ k hk=>?_) ⟨λ _=>rfl,λ z=>?_⟩
  ·have e0:(List.replicate n (0:Int)).getD k 0=0:=by simp [zqc,hk]
   refine ⟨λ _=>e0,λ z=>?_⟩;rw [e0]
   by_cases q:R.getD k 0=0
   ·exact q.symm
   ·exact yJ (h.row k hk q) z
  ·by_cases q:p.1=0
   ·exact (u_u h.pr q).symm
   ·exact yJ (h.one q) z
theorem u_v {n:Int} (h:n.natAbs < 10 ^ 100):(amtT n).length<=100:=by
 unfold amtT;split
 ·rw [show ("" : Str).length=0 from by decide +kernel]; omega
 ·exact k_z h
theorem s_V:plus.length=1:=by decide +kernel
theorem u_w {d:Nat} {u:Tm} (h:u.Good d):u.bod.length<=201:=by
 cases u with
 | ltr k n =>
  show (amtT n++letT k).length<=201;have:=u_v h.2.2;rw [h_O,show (letT k).length=1 from rfl];omega
 | alone p=>exact p_V h.1.top (by have:=h.1.bot; have:=h.1.pos; omega)
theorem u_x {d:Nat} {u:Tm} (h:u.Good d):1<=u.txt.length/\u.txt.length<=202:=by
 have:=u_w h;unfold Tm.txt;rw [h_O];split
 ·rw [p_U]; omega
 ·rw [s_V]; omega
theorem u_y {B:Nat} (xs:List Str) (h:∀ x∈xs,x.length<=B):(catS xs).length<=B*xs.length:=by
 rw [← c_E,o_M]
 induction xs with
 | nil=>simp
 | cons x r ih =>
  rw [List.flatMap_cons,List.length_append,List.length_cons,c_E,Nat.mul_succ];have:=h x zU;have:=ih λ y hy=>h y (zN _ hy);omega
theorem u_z (x:Str):(h_P x).length<=x.length:=by
 unfold h_P;split
 ·exact PyProof.Txt.length_slice_le x (some 1) none
 ·exact zL _
theorem p_X {d:Nat} {us:List Tm} (h:∀ u∈us,u.Good d) (hl:us.length<=4):(e_D us).length<=808:=by
 have:=u_y (B:=202) (us.map Tm.txt) λ x hx=>by
  obtain ⟨u,hu,rfl⟩:=List.mem_map.mp hx;exact (u_x (h u hu)).2
 have h2:=u_z (catS (us.map Tm.txt));rw [zqe] at this;unfold e_D;omega
theorem n_P {n:Nat} (hn:n<=3) {R:List Int} {p:Int × Int} {us:List Tm} (h:Wrt n R p us):44 ∉ (e_D us).cps.toList:=by
 match us,h with
 | [],h=>exact yJ rfl h.ne
 | u :: r,h =>
  have gu:=(h.good u zU).1;rw [l_Y hn gu];simp only [List.mem_append,not_or];refine ⟨by split <;> simp,f_I hn gu (by decide),λ z=>?_⟩;obtain ⟨x,hx,hc⟩:=List.mem_flatMap.mp z;obtain ⟨v,hv,rfl⟩:=List.mem_map.mp hx;exact s_L hn (h.good v (zN _ hv)).1 hc
end
noncomputable def tupP (p:Int × Int):HO:=.tup [.int p.1,.int p.2]
noncomputable def i_G (H:Hp) (l:Addr) (ps:List (Int × Int)):Prop:=∃ ys,H l=some (.lst ys)/\ys.length=ps.length/\∀ (j:Nat) (y:V),ys[j]?=some y->∃ a p,y=.ref a/\ps[j]?=some p/\H a=some (tupP p)
theorem i_G.up {H H':Hp} {l:Addr} {ps:List (Int × Int)} (h:i_G H l ps) (s:Same H H'):i_G H' l ps:=let ⟨ys,h1,h2,h3⟩:=h; ⟨ys,s _ _ h1,h2,λ j y e=>let ⟨a,p,k1,k2,k3⟩:=h3 j y e; ⟨a,p,k1,k2,s _ _ k3⟩⟩
noncomputable def sp_9 (C:Addr):Sp:=λ vs H Q E=>∃ x:Str,vs=[.str x]/\x.length<=3000/\(b_J x=false->E (.ref C) none H)/\(b_J x=true->Q (.int (valN x)) H)
noncomputable def h_C (f:Str->Option (Int × Int)) (C:Addr):Sp:=λ vs H Q E=>∃ x:Str,vs=[.str x]/\x.length<=3000/\(f x=none->∀ H',Same H H'->E (.ref C) none H')/\(∀ p,f x=some p->∀ a H',Same H H'->H' a=some (tupP p)->Q (.ref a) H')
noncomputable abbrev sp_1 (_:Frag) (C:Addr):Sp:=h_C e_B C
noncomputable abbrev sp_c (_:Frag) (C:Addr):Sp:=h_C sgnV C
noncomputable def sp_t (K:Frag) (C:Addr):Sp:=λ vs H Q E=>∃ x:Str,vs=[.str x]/\x.length<=3000/\(¬ ((Txt.split x b_A).length=2\/(Txt.split x b_A).length=3)->∀ H',Same H H'->E (.ref C) none H') /\
 (((Txt.split x b_A).length=2\/(Txt.split x b_A).length=3)->∀ l H',Same H H'->H' l=some (.lst ((Txt.split x b_A).map V.str))->Q (.ref l) H')
noncomputable def sp_4 (K:Frag):Sp:=λ vs H Q _=>∃ (l:Addr) (ps:List (Int × Int)),vs=[.ref l]/\i_G H l ps/\ps.length<=3/\(∀ p∈ps,c_z p)/\∀ a q H',Same H H'->H' a=some (.tup [.ref q,.int (proU ps)])->H' q=some (.lst ((proT ps).map V.int))->Q (.ref a) H'
theorem i_H (u:Str) (y:Str) (h:u.length<=4000):(Builtin.Str.partsBetween u (Builtin.Str.occurrences u y 0 u.length (u.length+1)) y.length).length<=4002:=by
 rw [PyProof.Rows.len_partsBetween];have:=PySem.StrLaws.occ_length_le u y 0 u.length (u.length+1);omega
theorem s_W (u y:Str):1<=(Txt.split u y).length:=PyProof.Rows.split_pos u y
theorem o_Q {u x y:Str} (h:x∈Txt.split u y):x.length<=u.length:=by
 unfold Txt.split at h;split at h
 ·rw [List.mem_singleton.mp h]; exact zL _
 ·split at h
  ·rw [List.mem_singleton.mp h]; exact zL _
  ·unfold Builtin.Str.partsBetween at h;obtain ⟨⟨i,j⟩,_,rfl⟩:=List.mem_map.mp h;exact strSub_length_le u i j
theorem n_Q:(c_V.length == 0)=false:=by decide +kernel
theorem n_R:(b_A.length == 0)=false:=by decide +kernel
theorem g_h {ps:List (Int × Int)} (h:∀ p∈ps,c_z p) (hl:ps.length<=3):small (proU ps):=by
 have h1:=i_C h;have h2:=s_H ps 1 (by decide) h 1 (by decide);have h3:(10:Int) ^ (1+100*ps.length)<=10 ^ 301:=by
  have:(10:Nat) ^ (1+100*ps.length)<=10 ^ 301:=zM (by decide) (by omega)
  exact_mod_cast this
 unfold small;have h4:(proU ps).natAbs < 10 ^ 301:=by
  have e:((proU ps).natAbs:Int)=proU ps:=by omega
  have:((proU ps).natAbs:Int) < 10 ^ 301:=by rw [e]; exact Int.lt_of_lt_of_le h2 h3
  exact_mod_cast this
 exact zI h4 (show (10:Nat) ^ 301<=2 ^ 8990 from zS (show (10:Nat) ^ 301<=2 ^ 2000 by decide +kernel) (zM (by decide) (by decide)))
theorem s_X {x:Str} (h:b_J x=true):intText? x=some ((valN x:Nat):Int):=PySem.intText_digits (e_a h).1 (e_a h).2.1 (by have:=(e_a h).2.2.1; omega)
theorem s_Y {x:Str}:1<=x.length ↔ ¬ V.str x=V.str (Str.ofString ""):=by
 constructor
 ·intro h e;have e2:x=Str.ofString "" := by injection e
  rw [e2] at h;exact yJ h (by decide +kernel)
 ·intro h;rcases Nat.eq_zero_or_pos x.length with z | z
  ·refine yJ ?_ h;obtain ⟨a⟩:=x;have:a=#[]:=Array.eq_empty_of_size_eq_zero z;rw [this];rfl
  ·exact z
theorem u_A {x:Str}:Txt.startswith x (Str.ofString "0")=decide (x.cps.toList[0]?=some 48):=by
 have l1:(Str.ofString "0").length=1:=by decide +kernel
 have l2:(Str.ofString "0").cps=#[48]:=by decide +kernel
 unfold Txt.startswith Builtin.Str.subAt;rw [l1,l2];cases e:x.cps.toList with
 | nil =>
  have:x.length=0:=by rw [← c_E,e]; rfl
  rw [this];simp
 | cons c r =>
  have hx:x=⟨(c :: r).toArray⟩:=c_Q (by rw [e]);subst hx;have e1:decide (0+1<=(⟨(c :: r).toArray⟩:Str).length)=true:=zW (by show 0+1<=(c :: r).toArray.size; simp);rw [e1,Bool.true_and];have e2:((⟨(c :: r).toArray⟩:Str).cps.extract 0 (0+1))=#[c]:=by simp
  rw [e2]
  by_cases z:c=48
  ·subst z; rfl
  ·simp [z]
noncomputable def sp_8 (C:Addr):Sp:=λ vs H Q E=>∃ x:Str,vs=[.str x]/\x.length<=3000/\(amtV x=none->E (.ref C) none H)/\(∀ a,amtV x=some a->Q (.int a) H)
noncomputable def sp_u (K:Frag) (C:Addr):Sp:=λ vs H Q E=>∃ x:Str,vs=[.str x]/\x.length<=1400/\(Txt.startswith x plus=true->∀ H',Same H H'->E (.ref C) none H')/\(Txt.startswith x plus=false->∀ l H',Same H H'->H' l=some (.lst ((e_t x).map V.str))->Q (.ref l) H')
noncomputable def sp_o (K:Frag) (C:Addr):Sp:=λ vs H Q E=>∃ (x:Str) (n:Nat),vs=[.str x,.str (lets n)]/\(n=2\/n=3)/\x.length<=1400/\(d_G n x=none->∀ H',Same H H'->E (.ref C) none H') /\
 (∀ R p,d_G n x=some (R,p)->∀ a r q H',Same H H'->H r=none->H' a=some (.tup [.ref r,.ref q])->H' r=some (.lst (R.map V.int))->H' q=some (tupP p)->Q (.ref a) H')
noncomputable def parG (n:Nat) (x:Str):List Int × (Int × Int):=(d_G n x).getD ([],(0,1))
noncomputable def matG (L:List Str):LM:=L.map λ x=>(parG L.length x).1
noncomputable def prsG (L:List Str):List (Int × Int):=L.map λ x=>(parG L.length x).2
noncomputable def okR (L:List Str):Prop:=(L.length=2\/L.length=3)/\∀ x∈L,∃ s,d_G L.length x=some s
noncomputable def sp_17 (K:Frag) (C:Addr):Sp:=λ vs H Q E=>∃ x:Str,vs=[.str x]/\x.length<=3000/\(∀ y∈Txt.split x b_A,y.length<=1400)/\okR (Txt.split x b_A)/\(detM (Txt.split x b_A).length (matG (Txt.split x b_A))=1\/detM (Txt.split x b_A).length (matG (Txt.split x b_A))=-1) /\
 ∀ q H',Same H H'->c_J K H' q (matG (Txt.split x b_A)) (lawT (prsG (Txt.split x b_A))) (lawU (prsG (Txt.split x b_A)))->Q (.ref q) H'
theorem f_J {n:Nat} {x:Str} {s:List Int × (Int × Int)} (h:d_G n x=some s):parG n x=s:=by unfold parG; rw [h]; rfl
theorem p_Y:(plus.length == 0)=false:=by decide +kernel
theorem p_Z {ps:List (Int × Int)} {i:Nat} {p:Int × Int} (h:ps[i]?=some p):proU (ps.take (i+1))=proU (ps.take i)*p.2:=by
 unfold proU;rw [g_W h,List.foldl_append];rfl
theorem q_w {ps:List (Int × Int)} (h:∀ p∈ps,c_z p) (i:Nat):∀ p∈ps.take i,c_z p:=λ p hp=>h p (List.mem_of_mem_take hp)
theorem s_Z {α:Type} {ps:List α} (h:ps.length<=3) (i:Nat):(ps.take i).length<=3:=by rw [List.length_take]; omega
theorem i_I {x:Int} (h:small x):Builtin.Int.intBits x<=8990:=intBits_le_iff.mpr h
theorem o_R {x:Int} (h:x.natAbs < 10 ^ 100):Builtin.Int.intBits x<=400:=intBits_le_iff.mpr (zI h (show 10 ^ 100<=2 ^ 400 by decide +kernel))
theorem w_h {p:Int × Int} (g:c_z p) (x:Int):h_z x p.2:=⟨by have:=g.pos; omega,zI ((Nat.log2_lt (by have:=g.pos; omega)).mpr (zI g.bot (show 10 ^ 100<=2 ^ 400 by decide +kernel))) (by decide)⟩
theorem n_S {u b:Int} (h:small u):small (u.fdiv b):=Nat.lt_of_le_of_lt (natAbs_fdiv_le u b) h
theorem sq1 {rows:LM} (h:Sq 1 rows):∃ a,rows=[[a]]:=by
 obtain ⟨hl,hr⟩:=h
 match rows,hl with
 | [r],_ =>
  have:=hr r (by simp)
  match r,this with
  | [a],_=>exact ⟨a,rfl⟩
theorem len2 {r:List Int} (h:r.length=2):∃ a b,r=[a,b]:=by match r,h with | [a,b],_=>exact ⟨a,b,rfl⟩
theorem len3 {r:List Int} (h:r.length=3):∃ a b c,r=[a,b,c]:=by match r,h with | [a,b,c],_=>exact ⟨a,b,c,rfl⟩
theorem sq2 {rows:LM} (h:Sq 2 rows):∃ a b c d,rows=[[a,b],[c,d]]:=by
 obtain ⟨hl,hr⟩:=h
 match rows,hl with
 | [r,s],_ =>
  obtain ⟨a,b,rfl⟩:=len2 (hr r (by simp));obtain ⟨c,d,rfl⟩:=len2 (hr s (by simp));exact ⟨a,b,c,d,rfl⟩
theorem sq3 {rows:LM} (h:Sq 3 rows):∃ a b c d e f g i j,rows=[[a,b,c],[d,e,f],[g,i,j]]:=by
 obtain ⟨hl,hr⟩:=h
 match rows,hl with
 | [r,s,t],_ =>
  obtain ⟨a,b,c,rfl⟩:=len3 (hr r (by simp));obtain ⟨d,e,f,rfl⟩:=len3 (hr s (by simp));obtain ⟨g,i,j,rfl⟩:=len3 (hr t (by simp));exact ⟨a,b,c,d,e,f,g,i,j,rfl⟩
noncomputable def m_C (M:LM) (ts:List Int) (u:Int):PyData:=.tuple [matD true true M,e_f true ts,.int u]
theorem q_x {M N:LM} {ts ns:List Int} {u v:Int}:m_C M ts u=m_C N ns v ↔ (M=N/\ts=ns/\u=v):=by
 unfold m_C;simp only [PyData.tuple.injEq,List.cons.injEq,PyData.int.injEq,and_true,r_t,j_l]
theorem Dt.deed {K:Frag} {H:Hp} {p:Addr} {M:LM} {ts:List Int} {u:Int} (h:c_J K H p M ts u):Dt K H (.ref p) (m_C M ts u):=by
 obtain ⟨pr,pt,h1,h2,h3⟩:=h;exact .tup (SqT.of h1) (.cons (Dt.matB h2) (.cons (Dt.intsB (SqB.tup h3)) (.cons (.int u) .nil)))
theorem u_B {n k:Nat} (h:k < n):ixN n (k:Int)=some k:=by
 unfold ixN;rw [if_pos (by omega),if_pos (by omega)];simp
theorem Sq.setRow {d i:Nat} {M:LM} {r:List Int} (h:Sq d M) (hr:r.length=d):Sq d (M.set i r):=⟨by simp [h.1],λ z hz=>by
 rcases List.mem_or_eq_of_mem_set hz with e | e
 ·exact h.2 z e
 ·rw [e]; exact hr⟩
theorem d_R.setRow {B i:Nat} {M:LM} {r:List Int} (h:d_R B M) (hr:∀ x∈r,x.natAbs < 2 ^ B):d_R B (M.set i r):=λ z hz=>by
 rcases List.mem_or_eq_of_mem_set hz with e | e
 ·exact h z e
 ·rw [e]; exact hr
theorem t_a {x:Str} {p:Int × Int} (h:sgnV x=some p):c_z p:=by
 unfold sgnV at h;split at h
 ·cases e:e_B (h_B x) with
  | none=>rw [e] at h; cases h
  | some q =>
   rw [e] at h;have h':negP q=p:=by simpa using h
   obtain ⟨g,g2,g3⟩:=j_z e;subst h';exact ⟨g.pos,by show (-q.1).natAbs < _; rw [Int.natAbs_neg]; exact g.top,g.bot,by show gcdI (-q.1) q.2=1; rw [s_D]; exact g.low⟩
 ·exact (j_z h).1
theorem t_b {x:Str} {a:Int} (h:amtV x=some a):a.natAbs < 10 ^ 100:=by
 unfold amtV at h;split at h
 ·cases h; decide
 ·split at h
  ·cases h
  ·split at h
   ·rename_i hw;cases h;rw [Int.natAbs_natCast];exact g_C hw
   ·cases h
structure Stt (n:Nat) (s:List Int × (Int × Int)):Prop where
 len:s.1.length=n
 pr:c_z s.2
 bd:∀ z∈s.1,z.natAbs < 10 ^ 100
theorem Stt.step {n:Nat} {s s':List Int × (Int × Int)} {x:Str} (h:Stt n s) (e:tmV n s x=some s'):Stt n s':=by
 unfold tmV at e;have put:∀ (k:Nat) (a:Int),a.natAbs < 10 ^ 100->Stt n (s.1.set k a,s.2):=λ k a ha=>⟨by simp [h.len],h.pr,λ z hz=>by
  rcases List.mem_or_eq_of_mem_set hz with q | q
  ·exact h.bd z q
  ·rw [q]; exact ha⟩
 split at e
 ·split at e
  ·cases e2:sgnV x with
   | none=>rw [e2] at e; cases e
   | some p=>rw [e2] at e; cases e; exact ⟨h.len,t_a e2,h.bd⟩
  ·cases e
 ·split at e
  ·split at e
   ·cases e2:amtV (midS x) with
    | none=>rw [e2] at e; cases e
    | some a=>rw [e2] at e; cases e; exact put _ _ (by rw [Int.natAbs_neg]; exact t_b e2)
   ·cases e2:amtV (m_A x) with
    | none=>rw [e2] at e; cases e
    | some a=>rw [e2] at e; cases e; exact put _ _ (t_b e2)
  ·cases e
theorem Stt.fold {n:Nat}:∀ (xs:List Str) {s s':List Int × (Int × Int)},Stt n s->e_i n xs s=some s'->Stt n s'
 | [],s,s',h,e=>by cases e; exact h
 | x :: r,s,s',h,e=>by
  unfold e_i at e;cases e2:tmV n s x with
  | none=>rw [e2] at e; cases e
  | some s2=>rw [e2] at e; exact Stt.fold r (h.step e2) e
theorem w_i:c_z (0,1):=⟨by decide,by decide,by decide,by decide⟩
theorem t_c (n:Nat):Stt n (List.replicate n 0,(0,1)):=⟨by simp,w_i,λ z hz=>by rw [List.eq_of_mem_replicate hz]; decide⟩
theorem n_T {n:Nat} {x:Str} {s:List Int × (Int × Int)} (h:d_G n x=some s):Stt n s:=by
 unfold d_G at h;split at h
 ·cases h
 ·exact Stt.fold _ (t_c n) h
theorem k_H {xs:List Str} (ok:okR xs) {x:Str} (hx:x∈xs):d_G xs.length x=some (parG xs.length x)/\Stt xs.length (parG xs.length x):=by
 obtain ⟨s,e⟩:=ok.2 x hx;rw [f_J e];exact ⟨e,n_T e⟩
theorem u_C {xs:List Str} {B:Nat} (h:∀ x∈xs,x.length<=B):(Txt.join b_A xs).length<=xs.length*(B+1):=by
 rw [l_P];refine zS (PySem.StrLaws.join_length_le b_A xs) ?_;have e1:b_A.length=1:=by decide +kernel
 have:=PySem.StrLaws.sumLen_le xs h;rw [e1];have e2:xs.length*(B+1)=xs.length*B+xs.length:=Nat.mul_succ _ _;omega
structure Says (d:Nat) (M:LM) (ps:List (Int × Int)) (L:List Str):Prop where
 len:L.length=d
 at':∀ (i:Nat) (x:Str) ,L[i]?=some x->∃ R p us,M[i]?=some R/\ps[i]?=some p/\Wrt d R p us/\us.length<=4/\x=e_D us
theorem Says.small {d:Nat} {M:LM} {ps:List (Int × Int)} {L:List Str} (h:Says d M ps L):∀ y∈L,y.length<=808/\(d<=3->44 ∉ y.cps.toList)/\((d=2\/d=3)->∃ s,d_G d y=some s):=λ y hy=>by
 obtain ⟨i,hi,e⟩:=yF hy;obtain ⟨R,p,us,h1,h2,h3,h4,rfl⟩:=h.at' i y (by rw [← e]; simp [hi]);exact ⟨p_X (λ u hu=>(h3.good u hu).1) h4,λ hd=>n_P hd h3,λ hd=>⟨_,h_d hd h3⟩⟩
theorem Says.read {d:Nat} (hd:d=2\/d=3) {M:LM} {ps:List (Int × Int)} {L:List Str} (h:Says d M ps L) (hM:M.length=d) (hp:ps.length=d) :
  (Txt.join b_A L).length<=3000/\Txt.split (Txt.join b_A L) b_A=L/\okR L/\matG L=M/\prsG L=ps:=by
 have sm:=h.small;have l1:=u_C (B:=808) λ x hx=>(sm x hx).1;have hl:=h.len;rw [hl] at l1;refine ⟨?_,?_,⟨by rw [hl]; exact hd,λ y hy=>by rw [hl]; exact (sm y hy).2.2 hd⟩,?_,?_⟩
 ·have:d*(808+1)<=3*(808+1):=zK _ (by omega);omega
 ·rw [l_P,s_z];refine f_H (λ z=>?_) (λ p hp=>(sm p hp).2.1 (by omega)) rfl;rw [z] at hl;simp at hl;omega
 ·unfold matG;refine yG (by rw [zqe,hl,hM]) λ i h1 h2=>?_;have hi:i < L.length:=by omega
  obtain ⟨R,p,us,k1,k2,k3,_,k5⟩:=h.at' i L[i] (by simp [hi]);rw [List.getElem_map,k5,hl,f_J (h_d hd k3)];rw [zqd h2] at k1;exact (zT k1).symm
 ·unfold prsG;refine yG (by rw [zqe,hl,hp]) λ i h1 h2=>?_;have hi:i < L.length:=by omega
  obtain ⟨R,p,us,k1,k2,k3,_,k5⟩:=h.at' i L[i] (by simp [hi]);rw [List.getElem_map,k5,hl,f_J (h_d hd k3)];rw [zqd h2] at k2;exact (zT k2).symm
theorem getD_of {R:List Int} {i:Nat} {n:Int} (h:R[i]?=some n):R.getD i 0=n:=by rw [zqc,h]; rfl
theorem q_y (ys:List V) {k:Nat} (h:k<=ys.length):cutV ys (some (k:Int)) none=ys.drop k:=by
 unfold cutV;rw [HT.sIx_none,HT.sIx_nat,Nat.min_eq_left h,List.take_of_length_le (by simp)]
theorem t_d {x y:Str} (h:y∈e_t x):y.length<=2*x.length:=by
 have key:y∈Txt.split (repM x) plus:=by
  unfold e_t at h;split at h
  ·exact List.mem_of_mem_drop h
  ·exact h
 exact zS (o_Q key) (l_W x)
theorem u_D {X:Cx} {tg l:Expr} {tl:TE} (h:X.K=K) (hl:PE X l tl):PI X tg l (iSeq K tl):=by
 subst h;exact b_W hl
theorem o_S:∀ zs:List V,(∀ (j:Nat) (y:V),zs[j]?=some y->∃ p:Addr,y=.ref p)->∃ ps:List Addr,zs=ps.map V.ref
 | [],_=>⟨[],rfl⟩
 | z :: r,hz=>by
  obtain ⟨p,e⟩:=hz 0 z rfl;obtain ⟨ps,e2⟩:=o_S r λ j y q=>hz (j+1) y (by simpa using q);exact ⟨p :: ps,by rw [e,e2]; rfl⟩
theorem ok_9 (T:Txt K mg t):FnOk P w K mg base (CX1 P w) 1 t.a_9 t.d_9 px' (sp_9 t.a_1b):=by
 refine T.F_9.okX sc_9 (λ vs H Q E h=>?_) (λ cdv A outer s H vs Q E hr h=>?_)
 ·obtain ⟨x,rfl,_⟩:=h;rfl
 ·obtain ⟨x,rfl,hx,hE,hQ⟩:=h;refine ⟨_,(a_D (b_G (PW.pt (d_N (a_K q_S (pv 0) b_O (a_U _)) (d_N (a_K h_X (a_O g_n rfl T.z_len (by decide +kernel) (a_A (pv 0) a_C)) (g_u (v:=(.int 100)) rfl T.g_MOST_FIGURES) (a_U _)) (d_H (e_c (f_Y PySem.F.plainAttrs_str PySem.F.slot_str_startswith PySem.F.type_str_startswith e_g (pv 0) (a_A b_O a_C)))))))
   (a_G (b_V rfl b_F rfl T.m_1b T.x_1b PySem.F.excBase_ValueError (a_A b_O a_C)))
   a_S)
   (a_D (d_A PassesOwn.leaving rfl (v_F (pv 0)) (b_R (i:=1) sc_9.nd rfl (Or.inl rfl))
   (a_G (b_G (a_K j_H (pv 1) (g_u (v:=(.str "0123456789")) rfl T.g_FIGURES) rfl)
   (a_G (b_V rfl b_F rfl T.m_1b T.x_1b PySem.F.excBase_ValueError (a_A b_O a_C)))
   a_S)))
   (a_G (a_N (b_Q p_x rfl T.z_int (by decide +kernel) (a_A (pv 0) a_C)))))),?_⟩
  show tSeq _ _ _ [some (.str x),none] H;have bad:¬ (1<=x.length/\x.length<=100/\x.cps.toList[0]?≠some 48/\x.cps.toList.all digB=true)->b_J x=false:=λ h=>by
   unfold b_J;rw [Bool.eq_false_iff];intro z;simp only [Bool.and_eq_true,decide_eq_true_eq,Bool.not_eq_true',decide_eq_false_iff_not] at z;exact h z
  refine st λ N1 e1=>?_;simp only [b_Y];walk_at "r"
  by_cases k1:V.str x=V.str (Str.ofString "")
  ·refine ⟨rfl,_,rfl,?_⟩;rw [zW k1];refine iteT ⟨by decide,hE (bad λ h=>s_Y.mp h.1 k1)⟩
  refine ⟨rfl,_,rfl,?_⟩;rw [zX k1];refine iteF ⟨_,rfl,zS hx (by decide),?_⟩
  by_cases k2:x.length<=100
  case neg =>
   rw [zW (by omega)];refine iteT ?_;simp only [b_Y];walk_at "r";exact ⟨by decide,hE (bad λ h=>k2 h.2.1)⟩
  rw [zX (by omega)];refine iteF ⟨rfl,_,rfl,_,rfl,?_⟩;rw [u_A]
  by_cases k3:x.cps.toList[0]?=some 48
  case pos =>
   rw [zW k3];refine iteT ?_;simp only [b_Y];walk_at "r";exact ⟨by decide,hE (bad λ h=>h.2.2.1 k3)⟩
  rw [zX k3];refine iteF ?_;subst e1;refine st λ N1 e1=>d_B λ B eB=>?_;simp only [iStr];walk_at "r";refine ⟨x,rfl,?_⟩;refine v_G (g:=a_T 1) (tb:=B) (λ j σ H3=>∃ v3,σ=[some (.str x),v3]/\H3=H/\∀ c∈x.cps.toList.take j,digB c=true) ⟨_,rfl,rfl,λ c hc=>by simp at hc⟩ ?_ ?_
  ·rintro j c σ H3 hc ⟨v3,rfl,rfl,hok3⟩;have hc':x.cps.toList[j]?=some c:=by simpa using hc
   subst eB;walk_at "r";refine ⟨_,rfl,_,rfl,?_⟩;have ek:(!(!(Builtin.Str.occurrences (Str.ofString "0123456789") ⟨#[c]⟩ 0 (Str.ofString "0123456789").length 1).isEmpty))=!digB c:=by
    rw [← w_b c]; rfl
   rw [ek];cases k4:digB c with
   | false =>
    refine iteT ?_;simp only [b_Y];walk_at "r";refine ⟨by decide,hE (bad λ h=>?_)⟩;have:=List.all_eq_true.mp h.2.2.2 c (zqb hc');rw [k4] at this;cases this
   | true =>
    refine iteF λ d hd=>?_;rw [g_W hc'] at hd;rcases List.mem_append.mp hd with h | h
    ·exact hok3 d h
    ·rw [List.mem_singleton.mp h]; exact k4
  ·rintro σ H2 ⟨v,rfl,rfl,hok⟩;rw [show x.cps.size=x.cps.toList.length by simp,List.take_length] at hok;have hw:b_J x=true:=by
    unfold b_J;simp only [Bool.and_eq_true,decide_eq_true_eq,Bool.not_eq_true',decide_eq_false_iff_not];exact ⟨s_Y.mpr k1,k2,k3,List.all_eq_true.mpr hok⟩
   subst e1;walk_at "r";exact ⟨x,_,rfl,s_X hw,by omega,hQ hw⟩
theorem ok_1 (T:Txt K mg t):FnOk P w K mg base (CX1 P w) 2 t.a_1 t.d_1 px' (sp_1 K t.a_1b):=by
 have G_v:=@ok_v P w K mg base t T;have G_9:=@ok_9 P w K mg base t T;refine T.F_1.okX sc_1 (λ vs H Q E h=>?_) (λ cdv A outer s H vs Q E hr h=>?_)
 ·obtain ⟨x,rfl,_⟩:=h;rfl
 ·obtain ⟨x,rfl,hx,hE,hQ⟩:=h;refine ⟨_,(a_D (a_R (i:=1) sc_1.nd rfl (Or.inl rfl) (f_Y PySem.F.plainAttrs_str PySem.F.slot_str_split PySem.F.type_str_split i_n (pv 0) (a_A b_O a_C)))
   (a_D (b_G (a_K h_X (a_O b_C rfl T.z_len (by decide +kernel) (a_A (pv 1) a_C)) a_E (a_U _))
   (a_G (b_V rfl b_F rfl T.m_1b T.x_1b PySem.F.excBase_ValueError (a_A b_O a_C)))
   a_S)
   (a_D (a_R (i:=2) sc_1.nd rfl (Or.inl rfl) (c_K G_9 hr.mo rfl T.m_9 T.F_9.kp T.b_9 .nil c_L (a_A (a_J ix_B (pv 1) a_E (λ _ _=>rfl)) a_C)))
   (a_D (b_G (a_K f_D (a_O b_C rfl T.z_len (by decide +kernel) (a_A (pv 1) a_C)) a_E (a_U _))
   (a_G (a_N (b_P (a_A (pv 2) (a_A a_E a_C)))))
   a_S)
   (a_D (a_R (i:=3) sc_1.nd rfl (Or.inl rfl) (c_K G_9 hr.mo rfl T.m_9 T.F_9.kp T.b_9 .nil c_L (a_A (a_J ix_B (pv 1) a_E (λ _ _=>rfl)) a_C)))
   (a_D (b_G (PW.pt (d_N (a_K f_D (pv 3) a_E (a_U _)) (d_H (a_K d_I (a_P G_v hr.mo rfl T.m_v T.F_v.kp T.b_v .nil b_B (a_A (pv 2) (a_A (pv 3) a_C))) a_E (a_U _)))))
   (a_G (b_V rfl b_F rfl T.m_1b T.x_1b PySem.F.excBase_ValueError (a_A b_O a_C)))
   a_S)
   (a_G (a_N (b_P (a_A (pv 2) (a_A (pv 3) a_C))))))))))),?_⟩
  show tSeq _ _ _ [some (.str x),none,none,none] H;have hne:=s_W x c_V;have hpl:∀ z∈Txt.split x c_V,z.length<=3000:=λ z hz=>zS (o_Q hz) hx;refine st λ N1 e1=>?_;walk_at "r";refine ⟨rfl,x,c_V,rfl,rfl,n_Q,zS hx (by decide),zS (i_H x c_V (by omega)) (by decide),λ l hl=>?_⟩;have s1:Same H (upd H l (.lst ((Txt.split x c_V).map V.str))):=Same.new hl;have el:(upd H l (.lst ((Txt.split x c_V).map V.str))) l=some (.lst ((Txt.split x c_V).map V.str)):=a_F;generalize upd H l (.lst ((Txt.split x c_V).map V.str))=H1 at s1 el;have hf:e_B x=v_d (Txt.split x c_V):=rfl;generalize hxs:Txt.split x c_V=xs at *
  have hlen:∀ Q':VK,Q' (.int xs.length) H1->g_s K [.ref l] H1 Q':=λ Q' q=>⟨false,l,_,rfl,SqB.lst el,by rw [zqe]; exact q⟩;have hix:∀ (k:Nat) (z:Str) (Q':VK),xs[k]?=some z->Q' (.str z) H1->rIxB K (.ref l) (.int k) H1 Q':=λ k z Q' e q=>⟨false,l,_,_,_,rfl,rfl,SqB.lst el,a_V (i:=k) (by rw [zH,e]; rfl) rfl,q⟩;subst e1;refine st λ N1 e1=>?_;simp only [b_Y];walk_at "r";refine hlen _ ?_;walk_at "r"
  by_cases k1:xs.length<=2
  case neg =>
   rw [zW (by omega)];refine iteT ?_;simp only [b_Y];walk_at "r";refine ⟨by decide,hE ?_ _ s1⟩;rw [hf]
   match xs,k1 with
   | a :: b :: c :: r,_=>rfl
   | [],k=>exact yJ (by simp) k
   | [a],k=>exact yJ (by simp) k
   | [a,b],k=>exact yJ (by simp) k
  rw [zX (by omega)];refine iteF ?_;subst e1;refine st λ N1 e1=>?_;walk_at "r";have e0:∃ a r,xs=a :: r/\r.length<=1:=by
   match xs,hne,k1 with
   | a :: r,_,k=>exact ⟨a,r,rfl,by simpa using k⟩
  obtain ⟨a,r,exs,hr1⟩:=e0;have ha0:xs[0]?=some a:=by rw [exs]; rfl
  refine hix 0 a _ ha0 ⟨a,rfl,hpl a (zqb ha0),λ hw=>hE ?_ _ s1,λ hw=>?_⟩
  ·rw [hf,exs]
   match r,hr1 with
   | [],_=>show (if b_J a=true then some ((valN a:Int),(1:Int)) else none)=none; rw [if_neg (by rw [hw]; decide)]
   | [b],_=>show (if b_J a=true/\b_J b=true/\valN b≠1/\gcdI (valN a) (valN b)=1 then some ((valN a:Int),(valN b:Int)) else none)=none; rw [if_neg (by rw [hw]; simp)]
  subst e1;refine st λ N1 e1=>?_;walk_at "r";refine hlen _ ?_;walk_at "r"
  match r,hr1,exs with
  | [],_,exs =>
   rw [exs,zW (by rfl)];refine iteT ⟨e_Q (by simp),λ p hp=>hQ ((valN a:Int),1) ?_ p _ (s1.trans (Same.new hp)) a_F⟩;rw [hf,exs];show (if b_J a=true then some ((valN a:Int),(1:Int)) else none)=_;rw [if_pos hw]
  | [b],_,exs =>
   rw [exs,zX (show ¬ (([a,b].length:Nat):Int)=1 by simp)];refine iteF ?_;have hb0:xs[1]?=some b:=by rw [exs]; rfl
   have hf2:e_B x=(if b_J a=true/\b_J b=true/\valN b≠1/\gcdI (valN a) (valN b)=1 then some ((valN a:Int),(valN b:Int)) else none):=by rw [hf,exs]; rfl
   subst e1;refine st λ N1 e1=>?_;walk_at "r";refine hix 1 b _ hb0 ⟨b,rfl,hpl b (zqb hb0),λ hw2=>hE ?_ _ s1,λ hw2=>?_⟩
   ·rw [hf2,if_neg (by rw [hw2]; simp)]
   subst e1;refine st λ N1 e1=>?_;walk_at "r"
   by_cases z:(valN b:Int)=1
   ·rw [zW z];refine iteT ?_;simp only [b_Y];walk_at "r";refine ⟨by decide,hE ?_ _ s1⟩;rw [hf2,if_neg (λ h=>h.2.2.1 (by omega))]
   rw [zX z];refine iteF ⟨_,_,rfl,?_⟩;walk_at "r"
   by_cases z2:gcdI (valN a) (valN b)=1
   case neg =>
    rw [zX z2];refine iteT ?_;simp only [b_Y];walk_at "r";refine ⟨by decide,hE ?_ _ s1⟩;rw [hf2,if_neg (λ h=>z2 h.2.2.2)]
   rw [zW z2];refine iteF ?_;subst e1;walk_at "r";refine ⟨e_Q (by simp),λ p hp=>hQ ((valN a:Int),(valN b:Int)) ?_ p _ (s1.trans (Same.new hp)) a_F⟩;rw [hf2,if_pos ⟨hw,hw2,by omega,z2⟩]
theorem ok_c (T:Txt K mg t):FnOk P w K mg base (CX1 P w) 3 t.a_c t.d_c px' (sp_c K t.a_1b):=by
 have G_1:=@ok_1 P w K mg base t T;refine T.F_c.okX sc_c (λ vs H Q E h=>?_) (λ cdv A outer s H vs Q E hr h=>?_)
 ·obtain ⟨x,rfl,_⟩:=h;rfl
 ·obtain ⟨x,rfl,hx,hE,hQ⟩:=h;refine ⟨_,(a_D (b_G (g_a (e_c (f_Y PySem.F.plainAttrs_str PySem.F.slot_str_startswith PySem.F.type_str_startswith e_g (pv 0) (a_A b_O a_C))))
   (a_G (a_N (c_K G_1 hr.mo rfl T.m_1 T.F_1.kp T.b_1 .nil c_L (a_A (pv 0) a_C))))
   a_S)
   (a_D (a_R (i:=1) sc_c.nd rfl (Or.inl rfl) (c_K G_1 hr.mo rfl T.m_1 T.F_1.kp T.b_1 .nil c_L (a_A (d_O sl_E (pv 0) (d_X a_E) e_I) a_C)))
   (a_G (a_N (b_P (a_A (e_S d_S (a_J ix_B (pv 1) a_E (λ _ _=>rfl))) (a_A (a_J ix_B (pv 1) a_E (λ _ _=>rfl)) a_C))))))),?_⟩
  show tSeq _ _ _ [some (.str x),none] H;refine st λ N1 e1=>?_;walk_at "r";refine ⟨rfl,_,rfl,_,rfl,?_⟩;unfold sgnV at hE hQ
  by_cases z:Txt.startswith x c_F=true
  ·rw [if_pos z] at hE hQ;rw [show Txt.startswith x (Str.ofString "-")=true from z];refine iteF ?_;subst e1;refine st λ N1 e1=>?_;walk_at "r";have ht:(h_B x).length<=3000:=zS (PyProof.Txt.length_slice_le x (some 1) none) hx;refine ⟨x,rfl,zS hx (by decide),h_B x,rfl,ht,λ h H' s'=>hE (by rw [h]; rfl) H' s',λ p hp a H1 s1 ha=>?_⟩;have i0:∀ Q':VK,Q' (.int p.1) H1->rIxB K (.ref a) (.int 0) H1 Q':=λ Q' q=>⟨true,a,_,_,_,rfl,rfl,SqB.tup ha,a_V (i:=0) rfl rfl,q⟩;have i1:∀ Q':VK,Q' (.int p.2) H1->rIxB K (.ref a) (.int 1) H1 Q':=λ Q' q=>⟨true,a,_,_,_,rfl,rfl,SqB.tup ha,a_V (i:=1) rfl rfl,q⟩;subst e1;walk_at "r";refine i0 _ ?_;walk_at "r";refine i1 _ ?_;exact ⟨e_Q (by simp),λ q hq=>hQ (negP p) (by rw [hp]; rfl) q _ (s1.trans (Same.new hq)) a_F⟩
  ·rw [if_neg z] at hE hQ;have z':Txt.startswith x (Str.ofString "-")=false:=(Bool.eq_false_iff.mpr z:Txt.startswith x c_F=false);rw [z'];refine iteT ⟨x,rfl,hx,hE,hQ⟩
theorem ok_t (T:Txt K mg t):FnOk P w K mg base (CX1 P w) 1 t.a_t t.d_t px' (sp_t K t.a_1b):=by
 refine T.F_t.okX sc_t (λ vs H Q E h=>?_) (λ cdv A outer s H vs Q E hr h=>?_)
 ·obtain ⟨x,rfl,_⟩:=h;rfl
 ·obtain ⟨x,rfl,hx,hE,hQ⟩:=h;refine ⟨_,(a_D (a_R (i:=1) sc_t.nd rfl (Or.inl rfl) (f_Y PySem.F.plainAttrs_str PySem.F.slot_str_split PySem.F.type_str_split i_n (pv 0) (a_A b_O a_C)))
   (a_D (b_G (a_K d_Y (a_O b_C rfl T.z_len (by decide +kernel) (a_A (pv 1) a_C)) (b_P (a_A a_E (a_A a_E a_C))) rfl)
   (a_G (b_V rfl b_F rfl T.m_1b T.x_1b PySem.F.excBase_ValueError (a_A b_O a_C)))
   a_S)
   (a_G (a_N (pv 1))))),?_⟩
  show tSeq _ _ _ [some (.str x),none] H;refine st λ N1 e1=>?_;walk_at "r";refine ⟨rfl,x,b_A,rfl,rfl,n_R,zS hx (by decide),zS (i_H x b_A (by omega)) (by decide),λ l hl=>?_⟩;have s1:Same H (upd H l (.lst ((Txt.split x b_A).map V.str))):=Same.new hl;have el:(upd H l (.lst ((Txt.split x b_A).map V.str))) l=some (.lst ((Txt.split x b_A).map V.str)):=a_F;generalize upd H l (.lst ((Txt.split x b_A).map V.str))=H1 at s1 el;have hlen:∀ Q':VK,Q' (.int (Txt.split x b_A).length) H1->g_s K [.ref l] H1 Q':=λ Q' q=>⟨false,l,_,rfl,SqB.lst el,by rw [zqe]; exact q⟩;subst e1;refine st λ N1 e1=>?_;walk_at "r";refine hlen _ ⟨by show 2<=sizeLine; decide,λ p1 hp1=>?_⟩;have s2:Same H1 (upd H1 p1 (.tup [.int 2,.int 3])):=Same.new hp1;refine ⟨p1,_,rfl,.inr (SqT.of a_F),rfl,rfl,_,rfl,?_⟩;generalize upd H1 p1 (.tup [.int 2,.int 3])=H2 at s2;rw [inV2]
  by_cases hax:(Txt.split x b_A).length=2\/(Txt.split x b_A).length=3
  case neg =>
   rw [zX (by omega)];refine iteT ?_;simp only [b_Y];walk_at "r";exact ⟨by decide,hE hax _ (s1.trans s2)⟩
  rw [zW (by omega)];refine iteF ?_;subst e1;walk_at "r";exact hQ hax l _ (s1.trans s2) (s2 _ _ el)
theorem ok_4 (T:Txt K mg t):FnOk P w K mg base CX0 1 t.a_4 t.d_4 ["pairs"] (sp_4 K):=by
 refine T.F_4.ok sc_4 (by walk_at "v") (λ cdv A outer s H vs Q E hr h=>?_)
 ·obtain ⟨l,ps,rfl,⟨ys,hl,hly,hys⟩,hn,hg,hQ⟩:=h;refine ⟨_,(a_D (a_R (i:=1) sc_4.nd rfl (Or.inr rfl) a_E)
   (a_D (d_A zG rfl (b_W (pv 0)) (b_R (i:=2) sc_4.nd rfl (Or.inl rfl))
   (a_G (a_R (i:=1) sc_4.nd rfl (Or.inr rfl) (a_Z c_G (pv 1) (a_J ix_B (pv 2) a_E (λ _ _=>rfl))))))
   (a_G (a_N (b_P (a_A (b_L (xs:=["pair"]) (fr:=[("under",1)]) (g:=(a_T 0)) (tt:=(tEl (tOp (rI (λ i j=>IntMulOk i j) λ i j=>.int (i*j)) (tOp (rIxB K) (tVar 0) (tC (.int 0))) (tOp (rI h_z λ i j=>.int (i.fdiv j)) (tVar 1) (tOp (rIxB K) (tVar 0) (tC (.int 1))))))) (b_D (sc:=a_B s_4) (N:=N_4) rfl rfl (by decide +kernel)) rfl (b_W (pv 0)) (λ _ _ _ hE1=>(b_T (N:=["pair","under"]) (i:=0) hE1 rfl (by decide +kernel))) (λ _ _ _ hE1=>(c_R (a_Z c_G (a_J ix_B (pv 0) a_E (λ _ _=>rfl)) (a_Z d_P (pv 1) (a_J ix_B (pv 0) a_E (λ _ _=>rfl))))))) (a_A (pv 1) a_C))))))),?_⟩
  show tSeq _ _ _ [some (.ref l),none,none] H;refine st λ N1 e1=>?_;walk_at "r";subst e1;refine st λ N1 e1=>d_B λ B eB=>?_;simp only [iSeq];walk_at "r";refine ⟨false,⟨_,SqB.lst hl⟩,?_⟩;have pk:∀ (i:Nat) (y:V),ys[i]?=some y->∃ a p,y=.ref a/\ps[i]?=some p/\H a=some (tupP p):=hys;refine e_L (g:=a_T 2) (tb:=B) (λ i σ H2=>∃ v,σ=[some (.ref l),some (.int (proU (ps.take i))),v]/\H2=H) ⟨none,rfl,rfl⟩ (λ i σ H2 _ ⟨_,_,e⟩=>e ▸ SqB.lst hl) ?_ ?_
  ·rintro i y σ H2 hi ⟨v,rfl,rfl⟩;obtain ⟨a,p,rfl,ep,ha⟩:=pk i y hi;have i1:∀ Q':VK,Q' (.int p.2) H2->rIxB K (.ref a) (.int 1) H2 Q':=λ Q' q=>⟨true,a,_,_,_,rfl,rfl,SqB.tup ha,a_V (i:=1) rfl rfl,q⟩;subst eB;show tAsg _ _ _ [some (.ref l),some (.int (proU (ps.take i))),some (.ref a)] H2;walk_at "r";refine i1 _ ?_;walk_at "r";have gp:=hg p (zqb ep);refine ⟨IntMulOk.of_le (i_I (g_h (q_w hg i) (s_Z hn i))) (o_R gp.bot) (by decide),?_⟩;exact (p_Z ep).symm
  ·rintro σ H2 ⟨v,rfl,rfl⟩;rw [hly,List.take_length];have hps:=g_h hg hn;subst e1;walk_at "r";refine b_E λ B2 eB2=>?_;simp only [iSeq];walk_at "r";refine ⟨false,⟨_,SqB.lst hl⟩,λ a1 ha1=>?_⟩;refine c_T (λ j y _=>∃ p,ps[j]?=some p/\y=.int (p.1*(proU ps).fdiv p.2)) ha1 (SqB.lst hl) (by omega) (λ _ _ _ _ r _=>r) ?_ ?_
   ·intro i y H3 zs hy s3 ez Q' hQ';obtain ⟨a,p,rfl,ep,ha⟩:=pk i y hy;have gp:=hg p (zqb ep);have ha3:=s3 _ _ ha;have i0:∀ Q':VK,Q' (.int p.1) H3->rIxB K (.ref a) (.int 0) H3 Q':=λ Q' q=>⟨true,a,_,_,_,rfl,rfl,SqB.tup ha3,a_V (i:=0) rfl rfl,q⟩;have i1:∀ Q':VK,Q' (.int p.2) H3->rIxB K (.ref a) (.int 1) H3 Q':=λ Q' q=>⟨true,a,_,_,_,rfl,rfl,SqB.tup ha3,a_V (i:=1) rfl rfl,q⟩;subst eB2;show tOp _ _ _ [some (.ref a),some (.int (proU ps))] H3 Q';walk_at "r";refine i0 _ ?_
    try walk_at "r"
    refine i1 _ ?_
    try walk_at "r"
    exact ⟨w_h gp _,IntMulOk.of_le (o_R gp.top) (i_I (n_S hps)) (by decide),hQ' _ _ (Same.refl _) ⟨p,ep,rfl⟩⟩
   ·intro H3 zs s3 ez hlz hR;have ez2:zs=(proT ps).map V.int:=by
     unfold proT;rw [List.map_map];exact d_L (by omega) hR
    subst ez2;exact ⟨by show 2<=sizeLine; decide,λ q hq=>hQ q a1 _ (s3.trans (Same.new hq)) a_F ((Same.new hq) _ _ ez)⟩
theorem ok_8 (T:Txt K mg t):FnOk P w K mg base (CX1 P w) 2 t.a_8 t.d_8 px' (sp_8 t.a_1b):=by
 have G_9:=@ok_9 P w K mg base t T;refine T.F_8.okX sc_8 (λ vs H Q E h=>?_) (λ cdv A outer s H vs Q E hr h=>?_)
 ·obtain ⟨x,rfl,_⟩:=h;rfl
 ·obtain ⟨x,rfl,hx,hE,hQ⟩:=h;refine ⟨_,(a_D (b_G (a_K q_S (pv 0) b_O (a_U _))
   (a_G (a_N a_E))
   a_S)
   (a_D (b_G (a_K q_S (pv 0) b_O (a_U _))
   (a_G (b_V rfl b_F rfl T.m_1b T.x_1b PySem.F.excBase_ValueError (a_A b_O a_C)))
   a_S)
   (a_G (a_N (c_K G_9 hr.mo rfl T.m_9 T.F_9.kp T.b_9 .nil c_L (a_A (pv 0) a_C)))))),?_⟩
  show tSeq _ _ _ [some (.str x)] H;unfold amtV at hE hQ;refine st λ N1 e1=>?_;walk_at "r";refine ⟨rfl,_,rfl,?_⟩
  by_cases k1:x=("" : Str)
  ·rw [if_pos k1] at hQ;rw [zW (show V.str x=V.str (Str.ofString "") by rw [k1])];exact iteT (hQ 1 rfl)
  rw [if_neg k1] at hE hQ;rw [zX (show ¬ V.str x=V.str (Str.ofString "") from λ z=>k1 (by injection z))];refine iteF ?_;subst e1;refine st λ N1 e1=>?_;simp only [b_Y];walk_at "r";refine ⟨rfl,_,rfl,?_⟩
  by_cases k2:x=("1" : Str)
  ·rw [if_pos k2] at hE;rw [zW (show V.str x=V.str (Str.ofString "1") by rw [k2])];exact iteT ⟨by decide,hE rfl⟩
  rw [if_neg k2] at hE hQ;rw [zX (show ¬ V.str x=V.str (Str.ofString "1") from λ z=>k2 (by injection z))];refine iteF ?_;subst e1;walk_at "r";exact ⟨x,rfl,hx,λ h=>hE (by rw [h]; rfl),λ h=>hQ _ (by rw [if_pos h])⟩
theorem ok_u (T:Txt K mg t):FnOk P w K mg base (CX1 P w) 1 t.a_u t.d_u ["part"] (sp_u K t.a_1b):=by
 refine T.F_u.okX sc_u (λ vs H Q E h=>?_) (λ cdv A outer s H vs Q E hr h=>?_)
 ·obtain ⟨x,rfl,_⟩:=h;rfl
 ·obtain ⟨x,rfl,hx,hE,hQ⟩:=h;refine ⟨_,(u_e (v_I PySem.F.plainAttrs_str PySem.F.slot_str_startswith PySem.F.type_str_startswith e_g (pv 0))
   (a_G (b_V rfl b_F rfl T.m_1b T.x_1b PySem.F.excBase_ValueError (a_A b_O a_C)))
   (u_d (i:=1) sc_u.nd rfl (Or.inl rfl) (v_H PySem.F.plainAttrs_str PySem.F.slot_str_split PySem.F.type_str_split i_n (r_z (pv 0)) (a_A b_O a_C)))
   (a_G (a_N (g_l (e_c (f_Y PySem.F.plainAttrs_str PySem.F.slot_str_startswith PySem.F.type_str_startswith e_g (pv 0) (a_A b_O a_C))) (d_O sl_B (pv 1) (d_X a_E) e_I) (pv 1))))),?_⟩
  show tSeq _ _ _ [some (.str x),none] H;refine st λ N1 e1=>?_;simp only [b_Y];walk_at "r";refine ⟨rfl,_,rfl,_,rfl,?_⟩;cases k:Txt.startswith x plus with
  | true =>
   rw [show Txt.startswith x (Str.ofString "+")=true from k];exact iteT ⟨by decide,hE k _ (Same.refl _)⟩
  | false =>
   rw [show Txt.startswith x (Str.ofString "+")=false from k];refine iteF ?_;subst e1;refine st λ N1 e1=>?_;simp only [u_Z];walk_at "r";have hr2:=l_W x;refine ⟨_,rfl,rfl,x,rfl,by omega,rfl,repM x,plus,rfl,rfl,p_Y,e_Q (by omega),zS (i_H (repM x) plus (by omega)) (by decide),λ l hl=>?_⟩;have s1:=Same.new (o:=.lst ((Txt.split (repM x) plus).map V.str)) hl;have el:(upd H l (.lst ((Txt.split (repM x) plus).map V.str))) l=some (.lst ((Txt.split (repM x) plus).map V.str)):=a_F;generalize upd H l (.lst ((Txt.split (repM x) plus).map V.str))=H1 at s1 el;have hQ2:=hQ k;unfold e_t at hQ2;subst e1;walk_at "r";refine ⟨rfl,_,rfl,_,rfl,?_⟩;cases k2:Txt.startswith x c_F with
   | true =>
    rw [show Txt.startswith x (Str.ofString "-")=true from k2];rw [if_pos k2] at hQ2;refine iteT ⟨false,l,_,rfl,SqB.lst el,λ z=>yJ z (by decide),λ p hp=>hQ2 p _ (s1.trans (Same.new hp)) ?_⟩;have hcut:1<=((Txt.split (repM x) plus).map V.str).length:=by rw [zqe]; exact s_W _ _
    rw [a_F,show (some (1:Int))=some ((1:Nat):Int) from rfl,q_y _ hcut,← List.map_drop];rfl
   | false =>
    rw [show Txt.startswith x (Str.ofString "-")=false from k2];rw [if_neg (by rw [k2]; decide)] at hQ2;exact iteF (hQ2 l H1 s1 el)
theorem j_D {n:Nat} {xs:List Str} {i:Nat} {x:Str} {s s':List Int × (Int × Int)} (e:xs[i]?=some x) (h:tmV n s x=some s'):e_i n (xs.drop i) s=e_i n (xs.drop (i+1)) s':=by
 obtain ⟨hi,hx⟩:=zqa e;rw [List.drop_eq_getElem_cons hi,hx];show (tmV n s x).bind _=_;rw [h];rfl
theorem q_z {n:Nat} {xs:List Str} {i:Nat} {x:Str} {s:List Int × (Int × Int)} (e:xs[i]?=some x) (h:tmV n s x=none):e_i n (xs.drop i) s=none:=by
 obtain ⟨hi,hx⟩:=zqa e;rw [List.drop_eq_getElem_cons hi,hx];show (tmV n s x).bind _=_;rw [h];rfl
theorem ok_o (T:Txt K mg t):FnOk P w K mg base (CX1 P w) 4 t.a_o t.d_o ph' (sp_o K t.a_1b):=by
 have G_u:=@ok_u P w K mg base t T;have G_c:=@ok_c P w K mg base t T;have G_8:=@ok_8 P w K mg base t T;refine T.F_o.okX sc_o (λ vs H Q E h=>?_) (λ cdv A outer s H vs Q E hr h=>?_)
 ·obtain ⟨x,n,rfl,_⟩:=h;rfl
 ·obtain ⟨x,n,rfl,hn,hx,hE,hQ⟩:=h;have hll:=s_N hn;refine ⟨_,(a_D (a_R (i:=2) sc_o.nd rfl (Or.inl rfl) (a_Z r_d (d_T (a_A a_E a_C)) (a_O g_n rfl T.z_len (by decide +kernel) (a_A (pv 1) a_C))))
   (a_D (a_R (i:=3) sc_o.nd rfl (Or.inl rfl) (b_P (a_A a_E (a_A a_E a_C))))
   (a_D (d_A PassesOwn.leaving rfl (b_W (c_K G_u hr.mo rfl T.m_u T.F_u.kp T.b_u .nil c_L (a_A (pv 0) a_C))) (b_R (i:=4) sc_o.nd rfl (Or.inl rfl))
   (a_D (a_R (i:=5) sc_o.nd rfl (Or.inl rfl) (g_l (a_K w_w (pv 4) b_O (a_U _)) (f_Y PySem.F.plainAttrs_str PySem.F.slot_str_find PySem.F.type_str_find u_c (pv 1) (a_A (d_O sl_E (pv 4) (d_X (e_S d_S a_E)) e_I) a_C)) (e_S d_S a_E)))
   (a_G (b_G (a_K f_D (pv 5) (e_S d_S a_E) (a_U _))
   (a_D (b_G (a_K d_I (a_J ix_B (pv 3) a_E (λ _ _=>rfl)) a_E (a_U _))
   (a_G (b_V rfl b_F rfl T.m_1b T.x_1b PySem.F.excBase_ValueError (a_A b_O a_C)))
   a_S)
   (a_G (a_R (i:=3) sc_o.nd rfl (Or.inl rfl) (c_K G_c hr.mo rfl T.m_c T.F_c.kp T.b_c .nil c_L (a_A (pv 4) a_C)))))
   (a_D (b_G (a_K d_I (a_J ix_B (pv 2) (pv 5) (λ _ _=>rfl)) a_E (a_U _))
   (a_G (b_V rfl b_F rfl T.m_1b T.x_1b PySem.F.excBase_ValueError (a_A b_O a_C)))
   a_S)
   (a_G (q_K (g_l (e_c (f_Y PySem.F.plainAttrs_str PySem.F.slot_str_startswith PySem.F.type_str_startswith e_g (pv 4) (a_A b_O a_C))) (e_S d_S (c_K G_8 hr.mo rfl T.m_8 T.F_8.kp T.b_8 .nil c_L (a_A (d_O sl_E (pv 4) (d_X a_E) (d_X (e_S d_S a_E))) a_C))) (c_K G_8 hr.mo rfl T.m_8 T.F_8.kp T.b_8 .nil c_L (a_A (d_O sl_E (pv 4) e_I (d_X (e_S d_S a_E))) a_C))) (q_J (pv 2) (pv 5) q_Z))))))))
   (a_G (a_N (b_P (a_A (pv 2) (a_A (pv 3) a_C)))))))),?_⟩
  show tSeq _ _ _ [some (.str x),some (.str (lets n)),none,none,none,none] H;refine st λ N1 e1=>?_;walk_at "r";refine ⟨by decide,λ l0 hl0=>?_⟩;have s0:=Same.new (o:=.lst [.int 0]) hl0;have e0:(upd H l0 (.lst [.int 0])) l0=some (.lst [.int 0]):=a_F;generalize upd H l0 (.lst [.int 0])=H0 at s0 e0;refine ⟨_,rfl,e_Q (by omega),l0,_,_,rfl,rfl,e0,by omega,by omega,by simp; exact e_Q (by omega),λ l1 hl1=>?_⟩;rw [hll,zR];have er:(List.replicate n [V.int 0]).flatten=(List.replicate n (0:Int)).map V.int:=by rcases hn with rfl | rfl <;> rfl
  rw [er];have s1:=s0.trans (Same.new (o:=.lst ((List.replicate n (0:Int)).map V.int)) hl1);have e1':(upd H0 l1 (.lst ((List.replicate n (0:Int)).map V.int))) l1=some (.lst ((List.replicate n (0:Int)).map V.int)):=a_F;have hl1':H l1=none:=by
   cases q:H l1 with
   | none=>rfl
   | some o=>rw [s0 _ _ q] at hl1; cases hl1
  generalize upd H0 l1 (.lst ((List.replicate n (0:Int)).map V.int))=H1 at s1 e1';subst e1;refine st λ N1 e1=>?_;walk_at "r";refine ⟨by show 2<=sizeLine; decide,λ q0 hq0=>?_⟩;have s2:=s1.trans (Same.new (o:=.tup [.int 0,.int 1]) hq0);have eq0:(upd H1 q0 (.tup [.int 0,.int 1])) q0=some (tupP (0,1)):=a_F;have el0:=(Same.new (o:=.tup [.int 0,.int 1]) hq0) _ _ e1';generalize upd H1 q0 (.tup [.int 0,.int 1])=H2 at s2 eq0 el0;subst e1;refine st λ N1 e1=>d_B λ B eB=>?_;simp only [iSeq];walk_at "r";refine ⟨x,rfl,hx,λ hp H' s'=>hE (by unfold d_G; rw [if_pos hp]) H' (s2.trans s'),λ hp l H3 s3 el=>?_⟩;refine ⟨false,l,rfl,⟨_,SqB.lst el⟩,?_⟩;have hpv:d_G n x=e_i n (e_t x) (List.replicate n 0,(0,1)):=by unfold d_G; rw [if_neg (by rw [hp]; decide)]
  have htl:∀ y∈e_t x,y.length<=3000:=λ y hy=>zS (t_d hy) (by omega);generalize hxs:e_t x=xs at *
  refine e_L (b:=false) (g:=a_T 4) (tb:=B) (λ i σ H4=>∃ v4 v5 s4 q4,σ=[some (.str x),some (.str (lets n)),some (.ref l1),some (.ref q4),v4,v5]/\Same H H4/\H4 l=some (.lst (xs.map V.str))/\H4 l1=some (.lst (s4.1.map V.int))/\H4 q4=some (tupP s4.2)/\s4.1.length=n/\d_G n x=e_i n (xs.drop i) s4)
   ⟨none,none,(List.replicate n 0,(0,1)),q0,rfl,s2.trans s3,el,s3 _ _ el0,s3 _ _ eq0,by simp,by rw [List.drop_zero]; exact hpv⟩ (λ i σ H4 _ ⟨_,_,_,_,_,_,e,_⟩=>SqB.lst e) ?_ ?_
  ·rintro i y σ H4 ey ⟨v4,v5,s4,q4,rfl,sm4,el4,er4,eq4,hl4,hpv4⟩;obtain ⟨z,ez,rfl⟩:∃ z,xs[i]?=some z/\y=.str z:=by
    rw [zH] at ey;cases e:xs[i]? with
    | none=>rw [e] at ey; cases ey
    | some z=>rw [e] at ey; exact ⟨z,rfl,(zT ey).symm⟩
   have hz:=htl z (zqb ez);have bad:tmV n s4 z=none->∀ H',Same H H'->E (.ref t.a_1b) none H':=λ h H' s'=>hE (by rw [hpv4,q_z ez h]) H' s';subst eB;show tSeq _ _ _ [some (.str x),some (.str (lets n)),some (.ref l1),some (.ref q4),some (.str z),v5] H4;refine st λ N2 e2=>?_;have key:N2 [some (.str x),some (.str (lets n)),some (.ref l1),some (.ref q4),some (.str z),some (.int (atV n z))] H4:=by
    subst e2;walk_at "r";unfold tmV at bad;have good:∀ s5,tmV n s4 z=some s5->d_G n x=e_i n (xs.drop (i+1)) s5:=λ s5 h=>by rw [hpv4,j_D ez h]
    unfold tmV at good;have i0:∀ Q':VK,Q' (.int s4.2.1) H4->rIxB K (.ref q4) (.int 0) H4 Q':=λ Q' q=>⟨true,q4,_,_,_,rfl,rfl,SqB.tup eq4,a_V (i:=0) rfl rfl,q⟩;rcases s_P hn z with ha | ⟨ha0,ha1⟩
    ·rw [if_pos ha] at bad;rw [zW ha];refine iteT (i0 _ ?_);walk_at "r"
     by_cases k1:s4.2.1=0
     ·rw [if_pos k1] at bad;rw [zW k1];exact iteF ⟨z,rfl,hz,λ h H' s'=>bad (by rw [h]; rfl) H' (sm4.trans s'),λ p hp a H5 s5 e5=>⟨_,_,(s4.1,p),a,rfl,rfl,rfl,sm4.trans s5,s5 _ _ el4,s5 _ _ er4,e5,hl4,good _ (by rw [if_pos ha,if_pos k1,hp]; rfl)⟩⟩
     ·rw [if_neg k1] at bad;rw [zX k1];refine iteT ?_;simp only [b_Y];walk_at "r";exact ⟨by decide,bad rfl H4 sm4⟩
    ·have hne:¬ atV n z=-1:=by omega
     rw [if_neg hne] at bad;rw [zX hne];refine iteF ?_;obtain ⟨k,ek⟩:=Int.eq_ofNat_of_zero_le ha0;rw [ek] at bad ⊢;have hk:k < n:=by omega
     have er:s4.1[k]?=some (s4.1.getD k 0):=h_K (by omega);rw [zR] at bad;refine ⟨false,l1,_,_,_,rfl,rfl,SqB.lst er4,a_V (j_W er) rfl,?_⟩;walk_at "r"
     by_cases k1:s4.1.getD k 0=0
     ·rw [if_pos k1] at bad;rw [zW k1];have n1:l≠l1:=λ q=>by
       rw [q,er4] at el4;have e:s4.1.map V.int=xs.map V.str:=by injection (zT el4)
       match h:s4.1,hl4 with
       | [],h0=>simp at h0; omega
       | a :: r,_ =>
        rw [h] at e;cases xs with
        | nil=>cases e
        | cons b c=>injection e with e1 e2; cases e1
      have n2:q4≠l1:=λ q=>by
       rw [q,er4] at eq4;cases eq4
      have put:∀ a:Int,tmV n s4 z=some (s4.1.set k a,s4.2)->gSub (tVar 2) (tVar 5) q_Y (.int a) [some (V.str x),some (V.str (lets n)),some (V.ref l1),some (V.ref q4),some (V.str z),some (V.int k)] H4 (λ σ H4=>∃ v4 v5 s4 q4,σ=[some (V.str x),some (V.str (lets n)),some (V.ref l1),some (V.ref q4),v4,v5]/\Same H H4/\H4 l=some (HO.lst (List.map V.str xs))/\H4 l1=some (HO.lst (List.map V.int s4.fst))/\H4 q4=some (tupP s4.snd)/\s4.fst.length=n/\d_G n x=e_i n (List.drop (i+1) xs) s4):=by
       intro a ha;simp only [gSub,q_Y];walk_at "r";refine ⟨_,er4,k,u_B (by rw [zqe]; omega),?_⟩;exact ⟨Same.over hl1' sm4,by rw [a_I n1]; exact el4,(s4.1.set k a,s4.2),by rw [a_F,List.map_set],by rw [a_I n2]; exact eq4,by simp [hl4],by rw [hpv4,j_D ez ha]⟩
      unfold tmV at put;refine iteF ⟨rfl,z,rfl,_,rfl,?_⟩;cases hm:Txt.startswith z c_F with
      | true =>
       rw [if_pos hm] at bad;rw [show Txt.startswith z (Str.ofString "-")=true from hm];refine iteT ⟨z,rfl,e_Q (by omega),midS z,rfl,zS (PyProof.Txt.length_slice_le z (some 1) (some (-1))) hz,λ h=>bad (by rw [h]; rfl) H4 sm4,λ a ha=>⟨_,rfl,put (-a) ?_⟩⟩;rw [if_neg hne,ek,zR,if_pos k1,if_pos hm,ha];rfl
      | false =>
       rw [if_neg (by rw [hm]; decide)] at bad;rw [show Txt.startswith z (Str.ofString "-")=false from hm];refine iteF ⟨z,rfl,e_Q (by omega),m_A z,rfl,zS (PyProof.Txt.length_slice_le z none (some (-1))) hz,λ h=>bad (by rw [h]; rfl) H4 sm4,λ a ha=>put a ?_⟩;rw [if_neg hne,ek,zR,if_pos k1,if_neg (by rw [hm]; decide),ha];rfl
     ·rw [if_neg k1] at bad;rw [zX k1];refine iteT ?_;simp only [b_Y];walk_at "r";exact ⟨by decide,bad rfl H4 sm4⟩
   walk_at "r";refine ⟨rfl,_,rfl,?_⟩;unfold atV at key
   by_cases k1:z=("" : Str)
   ·rw [if_pos k1] at key;rw [zW (show V.str z=V.str (Str.ofString "") by rw [k1])];exact iteF key
   ·rw [if_neg k1] at key;rw [zX (show ¬ V.str z=V.str (Str.ofString "") from λ q=>k1 (by injection q))];exact iteT ⟨rfl,z,rfl,e_Q (by omega),_,rfl,_,rfl,key⟩
  ·rintro σ H4 ⟨v4,v5,s4,q4,rfl,sm4,el4,er4,eq4,hl4,hpv4⟩;rw [zqe,List.drop_length] at hpv4;subst e1;walk_at "r";refine ⟨by show 2<=sizeLine; decide,λ a ha=>hQ s4.1 s4.2 hpv4 a l1 q4 _ (sm4.trans (Same.new ha)) hl1' a_F (Same.new ha _ _ er4) (Same.new ha _ _ eq4)⟩
theorem ok_17 (T:Txt K mg t):FnOk P w K mg base (CX1 P w) 7 t.a_17 t.d_17 px' (sp_17 K t.a_1b):=by
 have G_t:=@ok_t P w K mg base t T;have G_o:=@ok_o P w K mg base t T;have G_4:=@ok_4 P w K mg base t T;have G_18:=@ok_18 P w K mg base t T;refine T.F_17.okX sc_17 (λ vs H Q E h=>?_) (λ cdv A outer s H vs Q E hr h=>?_)
 ·obtain ⟨x,rfl,_⟩:=h;rfl
 ·obtain ⟨x,rfl,hx,hp,ok,hdet,hQ⟩:=h;refine ⟨_,(a_D (a_R (i:=1) sc_17.nd rfl (Or.inr rfl) (c_K G_t hr.mo rfl T.m_t T.F_t.kp T.b_t .nil c_L (a_A (pv 0) a_C)))
   (a_D (g_r (i:=2) (xs:=["part"]) (fr:=[("parts",1)]) (g:=(a_T 0)) (tt:=(tEl (e_u (sp_o K t.a_1b) [] E0 (b_X (tVar 0) (b_X (tSl rSlE (tC (.str "xyz")) g_m (k_R (tCB (g_s K) (b_X (tVar 1) tNil)))) tNil))))) (b_D (sc:=a_B s_17) (N:=N_17) rfl rfl (by decide +kernel)) rfl sc_17.nd rfl rfl (b_W (pv 1)) (λ _ _ _ hE1=>(b_T (N:=["part","parts"]) (i:=0) hE1 rfl (by decide +kernel))) (λ _ _ _ hE1=>(c_R (a_P G_o hr.mo rfl T.m_o T.F_o.kp T.b_o .nil f_O (a_A (pv 0) (a_A (d_O sl_E (g_u (v:=(.str "xyz")) rfl T.g_LETTERS) e_I (d_X (a_O b_C rfl T.z_len (by decide +kernel) (a_A (pv 1) a_C)))) a_C))))))
   (a_D (a_R (i:=3) sc_17.nd rfl (Or.inl rfl) (a_P G_4 hr.mo rfl T.m_4 T.F_4.kp T.b_4 .nil b_B (a_A (b_L (xs:=["pair"]) (fr:=[]) (g:=(a_T 0)) (tt:=(tEl (tOp (rIxB K) (tVar 0) (tC (.int 1))))) (b_D (sc:=a_B s_17) (N:=N_17) rfl rfl (by decide +kernel)) rfl (b_W (pv 2)) (λ _ _ _ hE1=>(b_T (N:=["pair"]) (i:=0) hE1 rfl (by decide +kernel))) (λ _ _ _ hE1=>(c_R (a_J ix_B (pv 0) a_E (λ _ _=>rfl))))) a_C)))
   (a_G (u_a rfl rfl rfl rfl T.m_1c (λ _ _ _ hL =>
   (a_G (a_N (c_K G_18 hr.mo rfl T.m_18 T.F_18.kp T.b_18 .nil hL (a_A (b_L (xs:=["pair"]) (fr:=[]) (g:=(a_T 0)) (tt:=(tEl (tOp (rIxB K) (tVar 0) (tC (.int 0))))) (b_D (sc:=a_B s_17) (N:=N_17) rfl rfl (by decide +kernel)) rfl (u_D (K:=K) rfl (pv 2)) (λ _ _ _ hE1=>(b_T (N:=["pair"]) (i:=0) hE1 rfl (by decide +kernel))) (λ _ _ _ hE1=>(c_R (a_J (r_X (K:=K) rfl) (pv 0) a_E (λ _ _=>rfl))))) (a_A (a_J (r_X (K:=K) rfl) (pv 3) a_E (λ _ _=>rfl)) (a_A (a_J (r_X (K:=K) rfl) (pv 3) a_E (λ _ _=>rfl)) a_C))))))) (λ _ =>
   (a_G e_Z))))))),?_⟩
  show tSeq _ _ _ [some (.str x),none,none,none] H;refine st λ N1 e1=>?_;walk_at "r";refine ⟨x,rfl,hx,λ nk=>yJ ok.1 nk,λ hk l H1 s1 el=>?_⟩;generalize hxs:Txt.split x b_A=xs at *
  have hn:=ok.1;subst e1;refine st λ N1 e1=>?_;refine b_E λ B eB=>?_;simp only [iSeq];walk_at "r";refine ⟨false,⟨_,SqB.lst el⟩,λ a1 ha1=>?_⟩;refine c_T (λ j y H'=>∃ z a r q,xs[j]?=some z/\y=.ref a/\a≠a1/\r≠a1/\q≠a1/\H' a=some (.tup [.ref r,.ref q])/\H' r=some (.lst ((parG xs.length z).1.map V.int))/\H' q=some (tupP (parG xs.length z).2)) ha1 (SqB.lst el) (by rw [zqe]; omega)
   (λ i y H1 H2 ⟨z,a,r,q,h1,h2,h3,h4,h5,h6,h7,h8⟩ sx=>⟨z,a,r,q,h1,h2,h3,h4,h5,sx _ _ h3 h6,sx _ _ h4 h7,sx _ _ h5 h8⟩) ?_ ?_
  ·intro k y H2 zs ey s2 ez Q' hQ';obtain ⟨z,ez2,rfl⟩:∃ z,xs[k]?=some z/\y=.str z:=by
    rw [zH] at ey;cases e:xs[k]? with
    | none=>rw [e] at ey; cases ey
    | some z=>rw [e] at ey; exact ⟨z,rfl,(zT ey).symm⟩
   have hz:=zqb ez2;obtain ⟨p1,p2⟩:=k_H ok hz;subst eB;show e_u _ _ _ _ [some (.str z),some (.ref l)] H2 Q';walk_at "r";refine ⟨false,l,_,rfl,SqB.lst (s2 _ _ el),_,rfl,_,rfl,by decide +kernel,z,xs.length,by rw [zqe]; rfl,hn,hp z hz,λ h=>yJ h (by rw [p1]; simp),λ R p hRp a r q H3 s3 hr0 h1 h2 h3=>hQ' _ _ s3 ⟨z,a,r,q,ez2,rfl,λ w=>?_,λ w=>?_,λ w=>?_,h1,?_,?_⟩⟩
   ·rw [w,s3 _ _ ez] at h1; cases h1
   ·rw [w,ez] at hr0; cases hr0
   ·rw [w,s3 _ _ ez] at h3; cases h3
   ·rw [f_J hRp]; exact h2
   ·rw [f_J hRp]; exact h3
  ·intro H2 zs s2 ez hlz hR;rw [zqe] at hlz;have s02:=s1.trans s2;have zat:∀ (j:Nat) (y:V),zs[j]?=some y->∃ z a r q,xs[j]?=some z/\y=.ref a/\H2 a=some (.tup [.ref r,.ref q])/\H2 r=some (.lst ((parG xs.length z).1.map V.int))/\H2 q=some (tupP (parG xs.length z).2):=λ j y e=>let ⟨z,a,r,q,h1,h2,_,_,_,h6,h7,h8⟩:=hR j y e; ⟨z,a,r,q,h1,h2,h6,h7,h8⟩
   have pl:(prsG xs).length=xs.length:=by unfold prsG; rw [zqe]
   have ml:(matG xs).length=xs.length:=by unfold matG; rw [zqe]
   have pg:∀ p∈prsG xs,c_z p:=λ p hp=>by
    obtain ⟨z,hz,rfl⟩:=List.mem_map.mp hp;exact (k_H ok hz).2.pr
   have mb:d_R 400 (matG xs):=λ r hr x hx=>by
    obtain ⟨z,hz,rfl⟩:=List.mem_map.mp hr;exact zI ((k_H ok hz).2.bd x hx) (by decide +kernel)
   have mr:∀ r∈matG xs,r.length=xs.length:=λ r hr=>by
    obtain ⟨z,hz,rfl⟩:=List.mem_map.mp hr;exact (k_H ok hz).2.len
   subst e1;refine st λ N1 e1=>?_;walk_at "r";refine b_E λ B eB=>?_;simp only [iSeq];walk_at "r";refine ⟨false,⟨_,SqB.lst ez⟩,λ a2 ha2=>?_⟩;refine c_T (λ j y _=>∃ z q,xs[j]?=some z/\y=.ref q/\H2 q=some (tupP (parG xs.length z).2)) ha2 (SqB.lst ez) (by omega) (λ _ _ _ _ r _=>r) ?_ ?_
   ·intro k y H3 zs3 ey s3 ez3 Q' hQ';obtain ⟨z,a,r,q,h1,rfl,h2,h3,h4⟩:=zat k y ey;subst eB;show tOp _ _ _ [some (.ref a)] H3 Q';walk_at "r";exact ⟨true,a,_,_,_,rfl,rfl,SqB.tup (s3 _ _ h2),a_V (i:=1) rfl rfl,hQ' _ _ (Same.refl _) ⟨z,q,h1,rfl,h4⟩⟩
   ·intro H3 zs3 s3 ez3 hlz3 hR3;have hPL:i_G H3 a2 (prsG xs):=⟨zs3,ez3,by omega,λ j y e=>by
     obtain ⟨z,q,h1,h2,h3⟩:=hR3 j y e;exact ⟨q,_,h2,by unfold prsG; rw [zH,h1]; rfl,s3 _ _ h3⟩⟩
    refine ⟨a2,prsG xs,rfl,hPL,by omega,pg,λ a q H4 s4 ha hq=>?_⟩;have p0:=i_C pg;have psm:=g_h pg (by omega);have ez4:=s4 _ _ (s3 _ _ ez);have s24:=s3.trans s4;have tl:(proT (prsG xs)).length=xs.length:=by unfold proT; rw [zqe,pl]
    subst e1;simp only [u_Y];walk_at "r";refine b_E λ B eB=>?_;simp only [iSeq];walk_at "r";refine ⟨false,⟨_,SqB.lst ez4⟩,λ a3 ha3=>?_⟩;refine c_T (λ j y _=>∃ z r,xs[j]?=some z/\y=.ref r/\H4 r=some (.lst ((parG xs.length z).1.map V.int))) ha3 (SqB.lst ez4) (by omega) (λ _ _ _ _ r _=>r) ?_ ?_
    ·intro k y H5 zs5 ey s5 ez5 Q' hQ';obtain ⟨z,b,r,q2,h1,rfl,h2,h3,h4⟩:=zat k y ey;subst eB;show tOp _ _ _ [some (.ref b)] H5 Q';walk_at "r";exact ⟨true,b,_,_,_,rfl,rfl,SqB.tup (s5 _ _ (s24 _ _ h2)),a_V (i:=0) rfl rfl,hQ' _ _ (Same.refl _) ⟨z,r,h1,rfl,s24 _ _ h3⟩⟩
    ·intro H5 zs5 s5 ez5 hlz5 hR5;obtain ⟨rs,rfl⟩:=o_S zs5 λ j y e=>let ⟨_,r,_,h2,_⟩:=hR5 j y e; ⟨r,h2⟩
     have hMB:MatB false false K H5 a3 (matG xs):=⟨rs,SqB.lst ez5,by simp at hlz5; omega,λ i p r e1 e2=>by
      obtain ⟨z,r',h1,h2,h3⟩:=hR5 i (.ref p) (by simp [e1]);cases h2;unfold matG at e2;rw [zH,h1] at e2;cases e2;exact SqB.lst (s5 _ _ h3)⟩
     have ha5:=s5 _ _ ha;have hq5:=s5 _ _ hq;refine ⟨true,a,_,_,_,rfl,rfl,SqB.tup ha5,a_V (i:=0) rfl rfl,?_⟩;refine ⟨true,a,_,_,_,rfl,rfl,SqB.tup ha5,a_V (i:=1) rfl rfl,?_⟩;have gd:g_B (matG xs) (proT (prsG xs)) (proU (prsG xs)):=⟨by rw [ml]; exact hn,λ r hr=>by rw [ml]; exact mr r hr,by rw [tl,ml],by omega,by rw [ml]; exact hdet⟩;refine ⟨false,false,false,a3,q,matG xs,proT (prsG xs),proU (prsG xs),400,rfl,hMB,SqB.lst hq5,by omega,by omega,mb,by decide,psm,λ ng=>yJ gd ng,λ _ d H6 s6 hD=>?_⟩;obtain ⟨r1,r2⟩:=n_O pg;rw [r1,r2] at hD;exact hQ d H6 ((((s02.trans s3).trans s4).trans s5).trans s6) hD
noncomputable abbrev Dd:=LM × List Int × Int
noncomputable def dat (x:Dd):PyData:=m_C x.1 x.2.1 x.2.2
theorem g_F {x y:Dd}:dat x=dat y ↔ x=y:=by
 obtain ⟨M,ts,u⟩:=x;obtain ⟨N,ns,v⟩:=y;unfold dat;rw [q_x];simp
theorem h_Q {n:Nat} {ds:List PyData}:tT (n+1) (.tuple ds)=ds.all (tT n):=rfl
theorem d_E (x:Dd):tT 4 (dat x)=true:=by
 obtain ⟨M,ts,u⟩:=x;have hi:∀ (n:Nat) (l:List Int),(l.map PyData.int).all (tT n)=true:=λ n l=>by
  rw [List.all_eq_true];intro d hd;obtain ⟨i,_,rfl⟩:=List.mem_map.mp hd;cases n <;> rfl
 show tT 4 (.tuple [.tuple (M.map λ r=>.tuple (r.map PyData.int)),.tuple (ts.map PyData.int),.int u])=true;rw [h_Q,List.all_cons,List.all_cons,List.all_cons,h_Q,h_Q,hi];have:(M.map λ r=>PyData.tuple (r.map PyData.int)).all (tT 2)=true:=by
  rw [List.all_eq_true];intro d hd;obtain ⟨r,_,rfl⟩:=List.mem_map.mp hd;rw [h_Q];exact hi 1 r
 rw [this];rfl
noncomputable def DdAt (K:Frag) (H:Hp) (p:Addr) (x:Dd):Prop:=c_J K H p x.1 x.2.1 x.2.2
theorem DdAt.up {K:Frag} {H H':Hp} {p:Addr} {x:Dd} (h:DdAt K H p x) (s:Same H H'):DdAt K H' p x:=c_J.up h s
theorem DdAt.dt {K:Frag} {H:Hp} {p:Addr} {x:Dd} (h:DdAt K H p x):Dt K H (.ref p) (dat x):=Dt.deed h
noncomputable def a_W (x:Dd):Dd:=(x.1,e_n x.2.2 x.2.1,x.2.2)
noncomputable def behD (d:Nat) (x s:Dd):Dd:=(mulM d s.1 x.1,redT (s.2.2*x.2.2) (movT s.1 s.2.1 s.2.2 x.2.1 x.2.2),redU (s.2.2*x.2.2) (movT s.1 s.2.1 s.2.2 x.2.1 x.2.2))
noncomputable def d_z (d:Nat) (x s:Dd):Dd:=a_W (behD d x s)
noncomputable def b_K (d:Nat):Dd:=(idM d,List.replicate d 0,1)
noncomputable abbrev Tb:=List (Dd × List Nat)
noncomputable def nxt (d:Nat) (x:Dd) (w:List Nat) (tb:Tb) (ks:Dd × Nat):Tb:=if d_z d x ks.1∈tb.map (·.1) then tb else tb++[(d_z d x ks.1,w++[ks.2])]
noncomputable def i_J (d:Nat) (ss:List Dd) (tb:Tb) (i:Nat):Tb:=match tb[i]? with
 | none=>tb
 | some xw=>ss.zipIdx.foldl (nxt d xw.1 xw.2) tb
noncomputable def c_B (d:Nat) (ss:List Dd):Nat->Nat->Tb->Tb
 | 0,_,tb=>tb
 | n+1,i,tb=>if i < tb.length then c_B d ss n (i+1) (i_J d ss tb i) else tb
theorem u_E (d:Nat) (x:Dd) (w:List Nat) (tb:Tb) (ks:Dd × Nat):∃ r,nxt d x w tb ks=tb++r:=by
 unfold nxt;split
 ·exact ⟨[],by simp⟩
 ·exact ⟨_,rfl⟩
theorem g_G (d:Nat) (x:Dd) (w:List Nat):∀ (l:List (Dd × Nat)) (tb:Tb),∃ r,l.foldl (nxt d x w) tb=tb++r
 | [],tb=>⟨[],by simp⟩
 | k :: l,tb=>by
  obtain ⟨r1,e1⟩:=u_E d x w tb k;obtain ⟨r2,e2⟩:=g_G d x w l (nxt d x w tb k);exact ⟨r1++r2,by rw [List.foldl_cons,e2,e1,List.append_assoc]⟩
theorem t_e (d:Nat) (ss:List Dd) (tb:Tb) (i:Nat):∃ r,i_J d ss tb i=tb++r:=by
 unfold i_J;split
 ·exact ⟨[],by simp⟩
 ·exact g_G ..
theorem h_e (d:Nat) (ss:List Dd):∀ (n i:Nat) (tb:Tb),∃ r,c_B d ss n i tb=tb++r
 | 0,i,tb=>⟨[],by simp [c_B]⟩
 | n+1,i,tb=>by
  unfold c_B;split
  ·obtain ⟨r1,e1⟩:=t_e d ss tb i;obtain ⟨r2,e2⟩:=h_e d ss n (i+1) (i_J d ss tb i);exact ⟨r1++r2,by rw [e2,e1,List.append_assoc]⟩
  ·exact ⟨[],by simp⟩
noncomputable def e_E (d:Nat) (x:Dd):Prop:=Fine d x.1 x.2.1 x.2.2
noncomputable def TbAt (H:Hp) (tb:Tb) (kvs:List (PyData × V)):Prop:=Paired (λ (x:Dd × List Nat) (kv:PyData × V)=>kv.1=dat x.1/\∃ p,kv.2=.ref p/\H p=some (.lst (x.2.map λ n=>V.int (n:Nat)))) tb kvs
noncomputable def sp_y (K:Frag):Sp:=λ vs H Q _=>∃ (b:Bool) (d:Nat) (a:Addr) (ps:List Addr) (ms:List Dd) (most:Nat) (G:Dd->Prop) (N:Nat),vs=[.int d,.ref a,.int most]/\(d=2\/d=3)/\SqB b K H a (ps.map V.ref)/\Paired (DdAt K H) ps ms /\
 ms.length<=100/\(∀ s∈ms,e_E d s)/\(∀ s∈ms,e_E d (a_W s))/\(∀ x,G x->e_E d x)/\G (b_K d)/\(∀ x s,G x->s∈ms->G (d_z d x (a_W s)))/\most<=200 /\
 (c_B d (ms.map a_W) N 0 [(b_K d,[])]).length<=most/\(c_B d (ms.map a_W) N 0 [(b_K d,[])]).length<=N /\
 ∀ w kvs H',Same H H'->H w=none->DTr K H' w kvs->TbAt H' (c_B d (ms.map a_W) N 0 [(b_K d,[])]) kvs->Q (.ref w) H'
noncomputable def sp_k:Sp:=λ vs H Q _=>∃ n:Nat,vs=[.int n]/\1<=n/\n<=200/\Q .non H
noncomputable def sp_j (K:Frag):Sp:=λ vs H Q _=>∃ (b:Bool) (d:Nat) (a:Addr) (ps:List Addr) (ms:List Dd),vs=[.int d,.ref a]/\(d=2\/d=3)/\SqB b K H a (ps.map V.ref)/\Paired (DdAt K H) ps ms/\(∀ s∈ms,s.1.length=d)/\∀ H',Same H H'->Q .non H'
theorem o_T {prog:Program} {w:World}:∀ n,n<=63->j_o prog w n:=λ _ h=>l_C (by omega)
theorem o_U {K:Frag} {H:Hp} {a b:Addr} {kvs:List (PyData × V)} {k:PyData} {v:V} {Q:VK} (g:DTr K H a kvs) (t:tT 4 k=true) (d:Dt K H (.ref b) k) (e:vT kvs k=some v) (q:Q v H):r_A K (.ref a) (.ref b) H Q:=⟨a,kvs,b,k,v,rfl,rfl,g,t,d,e,q⟩
theorem w_j {K:Frag} {H:Hp} {a b:Addr} {kvs:List (PyData × V)} {k:PyData} {neg:Bool} {Q:VK} (g:DTr K H a kvs) (t:tT 4 k=true) (d:Dt K H (.ref b) k) (q:Q (.bl (if neg=true then !(vT kvs k).isSome else (vT kvs k).isSome)) H):rInT K neg (.ref b) (.ref a) H Q:=⟨a,kvs,b,k,rfl,rfl,g,t,d,q⟩
structure TK (K:Frag) (H H':Hp):Prop where
 k:∀ b xs,H b=some (.tup xs)->H' b=some (.tup xs)
 t:∀ b xs,SqT K H b xs->SqT K H' b xs
theorem TK.same {K:Frag} {H H':Hp} (s:Same H H'):TK K H H':=⟨λ b xs e=>s _ _ e,b_U s⟩
theorem TK.trans {K:Frag} {H H1 H2:Hp} (a:TK K H H1) (b:TK K H1 H2):TK K H H2:=⟨λ c xs e=>b.k _ _ (a.k _ _ e),λ c xs e=>b.t _ _ (a.t _ _ e)⟩
theorem TK.off {K:Frag} {H H':Hp} {a:Addr} {o:HO} (e:H a=some o) (hn:∀ xs,o≠.tup xs) (hf:∀ ob u,o≠.frz ob u) (h:∀ c,c≠a->H' c=H c):TK K H H':=by
 have k:∀ b xs,H b=some (.tup xs)->H' b=some (.tup xs):=λ b xs q=>by
  rw [h b λ z=>hn xs (by rw [z,e] at q; exact zT q)]; exact q
 refine ⟨k,λ b xs q=>?_⟩;rcases q with (q | ⟨ob,q⟩) | q
 ·exact .inl (.inl (k _ _ q))
 ·exact .inl (.inr ⟨ob,by rw [h b λ z=>hf _ _ (by rw [z,e] at q; exact zT q)]; exact q⟩)
 ·exact .inr q
theorem MatB.tk {K:Frag} {H H':Hp} {a:Addr} {M:LM} (h:MatB true true K H a M) (s:TK K H H'):MatB true true K H' a M:=let ⟨ps,h1,h2,h3⟩:=h; ⟨ps,s.t _ _ h1,h2,λ i p r e1 e2=>s.t _ _ (h3 i p r e1 e2)⟩
theorem DdAt.tk {K:Frag} {H H':Hp} {p:Addr} {x:Dd} (h:DdAt K H p x) (s:TK K H H'):DdAt K H' p x:=let ⟨pr,pt,h1,h2,h3⟩:=h; ⟨pr,pt,s.k _ _ h1,MatB.tk h2 s,s.k _ _ h3⟩
theorem DTr.tk {K:Frag} {H H':Hp} {a:Addr} {kvs:List (PyData × V)} (h:DTr K H a kvs) (s:TK K H H') (e:H' a=H a):DTr K H' a kvs:=by
 obtain ⟨l,y,xs,ea,n,r⟩:=h;exact ⟨l,y,xs,e.trans ea,n,r.keeps s.t⟩
structure CI (K:Frag) (H0:Hp) (qs:List Addr) (ss:List Dd) (as af aw:Addr) (tb:Tb) (H:Hp):Prop where
 s:∀ b o,H0 b=some o->H b=some o
 st:H as=some (.lst (qs.map V.ref))/\Paired (DdAt K H) qs ss
 fo:∃ fs,H af=some (.lst (fs.map V.ref))/\Paired (λ p (x:Dd × List Nat)=>DdAt K H p x.1) fs tb
 wo:∃ kvs,DTr K H aw kvs/\Paired (λ (x:Dd × List Nat) (kv:PyData × V)=>kv.1=dat x.1/\∃ p,kv.2=.ref p/\p≠af/\H p=some (.lst (x.2.map λ n=>V.int (n:Nat)))) tb kvs
 n1:H0 as=none
 n2:H0 af=none
 n3:H0 aw=none
 x1:as≠af
theorem CI.up {K:Frag} {H0 H H':Hp} {qs:List Addr} {ss:List Dd} {as af aw:Addr} {tb:Tb} (h:CI K H0 qs ss as af aw tb H) (s:Same H H'):CI K H0 qs ss as af aw tb H':=by
 obtain ⟨a1,⟨b1,b2⟩,⟨fs,c1,c2⟩,⟨kvs,d1,d2⟩,n1,n2,n3,x1⟩:=h;exact ⟨λ b o e=>s _ _ (a1 _ _ e),⟨s _ _ b1,Paired.mapP b2 λ _ _ z=>z.up s⟩,⟨fs,s _ _ c1,Paired.mapP c2 λ _ _ z=>z.up s⟩,⟨kvs,d1.up s,Paired.mapP d2 λ _ _ z=>let ⟨z1,p,z2,z3,z4⟩:=z; ⟨z1,p,z2,z3,s _ _ z4⟩⟩,n1,n2,n3,x1⟩
theorem t_f {H:Hp} {af:Addr} {x:Dd}:∀ {tb:Tb} {kvs:List (PyData × V)},Paired (λ (x:Dd × List Nat) (kv:PyData × V)=>kv.1=dat x.1/\∃ p,kv.2=.ref p/\p≠af/\H p=some (.lst (x.2.map λ n=>V.int (n:Nat)))) tb kvs ->
  (x ∉ tb.map (·.1)/\vT kvs (dat x)=none)\/∃ w p,(x,w)∈tb/\vT kvs (dat x)=some (.ref p)/\p≠af/\H p=some (.lst (w.map λ n=>V.int (n:Nat))):=by
 intro tb kvs h
 induction h with
 | nil=>exact .inl ⟨by simp,rfl⟩
 | @cons y kv tb kvs hy _ ih =>
  obtain ⟨e1,p,e2,e3,e4⟩:=hy
  by_cases z:y.1=x
  ·refine .inr ⟨y.2,p,by rw [← z]; exact .head _,?_,e3,e4⟩;rw [i_o (by rw [e1,z]),e2]
  ·have ne:¬ kv.1=dat x:=λ q=>z (g_F.mp (e1.symm.trans q));rw [g_S ne];rcases ih with ⟨i1,i2⟩ | ⟨w,p,i1,i2⟩
   ·exact .inl ⟨by rw [List.map_cons,List.mem_cons,not_or]; exact ⟨λ q=>z q.symm,i1⟩,i2⟩
   ·exact .inr ⟨w,p,.tail _ i1,i2⟩
theorem q_A {d:Nat} {x:Dd} {w:List Nat} {tb:Tb} {ks:Dd × Nat} (h:(tb.map (·.1)).Nodup):((nxt d x w tb ks).map (·.1)).Nodup:=by
 unfold nxt;split
 ·exact h
 ·next q =>
  rw [List.map_append,List.nodup_append];refine ⟨h,by simp,λ y hy z hz=>?_⟩;simp only [List.map_cons,List.map_nil,List.mem_singleton] at hz;rw [hz];exact λ e=>q (e ▸ hy)
theorem t_g {d:Nat} {x:Dd} {w:List Nat} {tb:Tb} {ks:Dd × Nat} {G:Dd->Prop} (h:∀ y∈tb,G y.1) (hs:G (d_z d x ks.1)):∀ y∈nxt d x w tb ks,G y.1:=by
 unfold nxt;split
 ·exact h
 ·intro y hy;rcases List.mem_append.mp hy with hy | hy
  ·exact h y hy
  ·rw [List.mem_singleton.mp hy]; exact hs
theorem t_h {tb:Tb} (h:(tb.map (·.1)).Nodup) {i:Nat} {x:Dd} {w w':List Nat} (e:tb[i]?=some (x,w)) (m:(x,w')∈tb):w=w':=by
 obtain ⟨j,hj⟩:=List.getElem?_of_mem m;have e1:(tb.map (·.1))[i]?=some x:=by rw [zH,e]; rfl
 have e2:(tb.map (·.1))[j]?=some x:=by rw [zH,hj]; rfl
 have hi:i < (tb.map (·.1)).length:=(zqa e1).1;have:i=j:=(List.getElem?_inj hi h).mp (e1.trans e2.symm);subst this;rw [e] at hj;cases hj;rfl
theorem q_B {d:Nat} {ss:List Dd} {n i:Nat} {tb:Tb} (h:tb.length<=i):c_B d ss n i tb=tb:=by
 cases n with
 | zero=>rfl
 | succ n=>unfold c_B; rw [if_neg (by omega)]
theorem n_U {d:Nat} {ss:List Dd} {n i:Nat} {tb:Tb} (h:i < tb.length) (hn:0 < n):c_B d ss n i tb=c_B d ss (n - 1) (i+1) (i_J d ss tb i):=by
 obtain ⟨m,rfl⟩:∃ m,n=m+1:=⟨n - 1,by omega⟩;show (if i < tb.length then _ else _)=_;rw [if_pos h];rfl
theorem u_F {d:Nat} {ss:List Dd} {tb:Tb} {i:Nat} {x:Dd} {w:List Nat} (e:tb[i]?=some (x,w)):i_J d ss tb i=ss.zipIdx.foldl (nxt d x w) tb:=by
 unfold i_J;rw [e]
noncomputable def part (d:Nat) (x:Dd) (w:List Nat) (ss:List Dd) (tb:Tb) (i:Nat):Tb:=(ss.zipIdx.take i).foldl (nxt d x w) tb
theorem f_V {d:Nat} {x s:Dd} {w:List Nat} {ss:List Dd} {tb:Tb} {i:Nat} (e:ss[i]?=some s):part d x w ss tb (i+1)=nxt d x w (part d x w ss tb i) (s,i):=by
 unfold part;rw [List.take_add_one,List.getElem?_zipIdx,e,List.foldl_append];simp
theorem t_i {d:Nat} {x:Dd} {w:List Nat} {ss:List Dd} {tb:Tb}:part d x w ss tb ss.length=ss.zipIdx.foldl (nxt d x w) tb:=by
 unfold part;rw [List.take_of_length_le (by simp)]
theorem t_j {d:Nat} {x:Dd} {w:List Nat} {ss:List Dd} {tb:Tb} (i:Nat):∃ r,part d x w ss tb i=tb++r:=g_G ..
theorem t_k {d:Nat} {x:Dd} {w:List Nat} {ss:List Dd} {tb:Tb} (i:Nat):(part d x w ss tb i).length<=(ss.zipIdx.foldl (nxt d x w) tb).length:=by
 have e:ss.zipIdx.foldl (nxt d x w) tb=(ss.zipIdx.drop i).foldl (nxt d x w) (part d x w ss tb i):=by
  unfold part;rw [← List.foldl_append,List.take_append_drop]
 obtain ⟨r,er⟩:=g_G d x w (ss.zipIdx.drop i) (part d x w ss tb i);rw [e,er,List.length_append];omega
noncomputable def ND (tb:Tb):Prop:=(tb.map (·.1)).Nodup/\∀ y∈tb,y.2.length < tb.length
theorem w_k {d:Nat} {x:Dd} {w:List Nat} {tb:Tb} {ks:Dd × Nat} (h:ND tb) (hm:(x,w)∈tb):ND (nxt d x w tb ks):=by
 refine ⟨q_A h.1,?_⟩;have hw:=h.2 _ hm;unfold nxt;split
 ·exact h.2
 ·intro y hy;rw [List.length_append];rcases List.mem_append.mp hy with hy | hy
  ·have:=h.2 y hy;simp only [List.length_cons,List.length_nil];omega
  ·rw [List.mem_singleton.mp hy];simp only [List.length_append,List.length_cons,List.length_nil];have hw':w.length < tb.length:=hw;omega
theorem ok_k (T:Txt K mg t):FnOk P w K mg base CX0 2 t.a_k t.d_k ["most"] sp_k:=by
 refine T.F_k.ok sc_k (by walk_at "v") (λ cdv A outer s H vs Q E hr h=>?_)
 ·obtain ⟨n,rfl,h1,h2,hQ⟩:=h;refine ⟨_,(a_G (b_G (PW.pt (d_N (a_K f_X (pv 0) a_E (a_U _)) (d_H (a_K h_X (pv 0) (g_u (v:=(.int 200)) rfl T.g_MOST_MEMBERS) (a_U _)))))
   (a_G e_Z)
   a_S)),?_⟩
  show tIfS _ _ _ _ [some (.int n)] H;walk_at "r";rw [zX (show ¬ (n:Int) < 1 by omega),zX (show ¬ (200:Int) < n by omega)];refine iteF (iteF ?_);exact hQ
theorem b_S {α β:Type} {F:α->β->Prop} {xs:List α} {ys:List β} (h:Paired F xs ys):∀ {i:Nat} {x:α},xs[i]?=some x->∃ y,ys[i]?=some y/\F x y:=by
 induction h with
 | nil=>intro i x e; simp at e
 | cons h1 _ ih =>
  intro i x e;cases i with
  | zero=>cases e; exact ⟨_,rfl,h1⟩
  | succ i=>exact ih (by simpa using e)
theorem ok_j (T:Txt K mg t):FnOk P w K mg base CX0 2 t.a_j t.d_j pp' (sp_j K):=by
 refine T.F_j.ok sc_j (by walk_at "v") (λ cdv A outer s H vs Q E hr h=>?_)
 ·obtain ⟨b,d,a,ps,ms,rfl,hd,hS,hp,hl,hQ⟩:=h;refine ⟨_,(a_D (b_G (a_K d_Y (pv 0) (b_P (a_A a_E (a_A a_E a_C))) rfl)
   (a_G e_Z)
   a_S)
   (a_G (d_A zG rfl (b_W (pv 1)) (b_R (i:=2) sc_j.nd rfl (Or.inl rfl))
   (a_G (b_G (a_K d_I (a_O b_C rfl T.z_len (by decide +kernel) (a_A (a_J ix_B (pv 2) a_E (λ _ _=>rfl)) a_C)) (pv 0) (a_U _))
   (a_G e_Z)
   a_S))))),?_⟩
  show tSeq _ _ _ [some (.int d),some (.ref a),none] H;refine st λ N1 e1=>?_;walk_at "r";refine ⟨by show 2<=sizeLine; decide,λ p1 hp1=>?_⟩;have s1:Same H (upd H p1 (.tup [.int 2,.int 3])):=Same.new hp1;refine ⟨p1,_,rfl,.inr (SqT.of a_F),rfl,rfl,_,rfl,?_⟩;generalize upd H p1 (.tup [.int 2,.int 3])=H1 at s1;rw [inV2,zW (by omega)];refine iteF ?_;subst e1;refine d_B λ B eB=>?_;simp only [iSeq];walk_at "r";refine ⟨b,⟨_,hS.up s1⟩,?_⟩;refine e_L (g:=a_T 2) (tb:=B) (nx:=λ _ H'=>Q .non H') (rt:=Q) (λ i σ H2=>∃ v,σ=[some (.int d),some (.ref a),v]/\Same H H2) ⟨_,rfl,s1⟩ (λ i σ H2 _ ⟨_,_,s2⟩=>hS.up s2) ?_ ?_
  ·rintro i x σ H2 ex ⟨v,rfl,s2⟩;rw [zH] at ex;cases hp':ps[i]? with
   | none=>rw [hp'] at ex; cases ex
   | some q =>
    rw [hp'] at ex;cases ex;obtain ⟨m,em,hm⟩:=b_S hp hp';subst eB;show tIfS _ _ _ _ [some (.int d),some (.ref a),some (.ref q)] H2;walk_at "r";refine e_A (DdAt.up hm s2) λ x hx=>j_X hx ?_
    try walk_at "r"
    rw [hl m (zqb em),zW rfl];refine iteF ?_;exact s2
  ·rintro σ H2 ⟨v,rfl,s2⟩;exact hQ H2 s2
noncomputable def offH (a:Addr) (H:Hp):Hp:=λ b=>if b=a then none else H b
theorem q_C {a:Addr} {H:Hp}:Same (offH a H) H:=λ b o e=>by
 unfold offH at e
 by_cases z:b=a
 ·rw [if_pos z] at e; cases e
 ·rw [if_neg z] at e; exact e
theorem q_D {a:Addr} {H1 H2:Hp} (s:e_U a H1 H2):Same (offH a H1) (offH a H2):=λ b o e=>by
 unfold offH at e ⊢
 by_cases z:b=a
 ·rw [if_pos z] at e; cases e
 ·rw [if_neg z] at e ⊢; exact s _ _ z e
theorem o_V {K:Frag} {a:Addr} {H:Hp} {xs:List V} (e:H a=some (.lst xs)):TK K H (offH a H):=TK.off e (λ _ z=>by cases z) (λ _ _ z=>by cases z) λ c hc=>by unfold offH; rw [if_neg hc]
noncomputable def DdR (K:Frag) (a:Addr) (ms:List Dd) (j:Nat) (y:V) (H:Hp):Prop:=∃ q m,y=.ref q/\ms[j]?=some m/\DdAt K (offH a H) q m
theorem DdR.mono {K:Frag} {a:Addr} {ms:List Dd} (i:Nat) (y:V) (H1 H2:Hp) (h:DdR K a ms i y H1) (s:e_U a H1 H2):DdR K a ms i y H2:=let ⟨q,m,e,em,d⟩:=h; ⟨q,m,e,em,d.up (q_D s)⟩
theorem k_I {K:Frag} {a:Addr} {H:Hp}:∀ {ms:List Dd} {ys:List V},ys.length=ms.length->(∀ j y,ys[j]?=some y->DdR K a ms j y H)->∃ qs:List Addr,ys=qs.map V.ref/\Paired (DdAt K H) qs ms
 | [],[],_,_=>⟨[],rfl,.nil⟩
 | m :: ms,y :: ys,hl,h=>by
  obtain ⟨q,m',e,em,d⟩:=h 0 y rfl;cases em;obtain ⟨qs,e2,p2⟩:=k_I (K:=K) (a:=a) (H:=H) (ms:=ms) (ys:=ys) (by simpa using hl) λ j y' ej=>by
   obtain ⟨q,m',e,em,d⟩:=h (j+1) y' (by simpa using ej);exact ⟨q,m',e,by simpa using em,d⟩
  exact ⟨q :: qs,by rw [e,e2]; rfl,.cons (d.up q_C) p2⟩
theorem k_J {H:Hp} {p:Addr} {x:V} {xs:List V} {i:Nat} {I:Int} {Q:VK} (e:H p=some (.lst xs)) (ei:xs[i]?=some x) (hi:I=i) (q:Q x H):rIxB K (.ref p) (.int I) H Q:=⟨false,p,_,_,_,rfl,rfl,SqB.lst e,a_V ei hi,q⟩
theorem tyL {H:Hp} {p:Addr} {xs:List V} (e:H p=some (.lst xs)):tyV K "list" (.ref p) H:=.inl ⟨rfl,xs,.inl (.inl e)⟩
noncomputable def CPv (K:Frag) (H0:Hp) (G:Dd->Prop) (qs:List Addr) (ss:List Dd) (a as af aw:Addr) (d i most:Nat) (f:Nat->Tb) (k:Nat) (σ:St) (H:Hp):Prop :=
 ∃ v7 v8 v9,σ=[some (.int d),some (.ref a),some (.int most),some (.ref as),some (.ref af),some (.ref aw),some (.int i),v7,v8,v9]/\CI K H0 qs ss as af aw (f k) H/\ND (f k)/\(∀ y∈f k,G y.1)
theorem ok_y (T:Txt K mg t):FnOk P w K mg base CX0 10 t.a_y t.d_y pf' (sp_y K):=by
 have G_16:=@ok_16 P w K mg base t T;have G_14:=@ok_14 P w K mg base t T;have G_10:=@ok_10 P w K mg base t T;refine T.F_y.ok sc_y (by walk_at "v") (λ cdv A outer s H vs Q E hr h=>?_)
 ·have hu:=hr.units;obtain ⟨b,d,a,ps,ms,most,G,N,rfl,hd,hS,hp,hm,hf1,hf2,hG,hG0,hGs,h200,hlen,hN,hQ⟩:=h;refine ⟨_,(a_D (g_r (i:=3) (xs:=["maker"]) (fr:=[]) (g:=(a_T 0)) (tt:=(tEl (e_u (sp_16 K) [] E0 (b_X (tVar 0) tNil)))) (b_D (sc:=a_B s_y) (N:=N_y) rfl rfl (by decide +kernel)) rfl sc_y.nd rfl rfl (b_W (pv 1)) (λ _ _ _ hE1=>(b_T (N:=["maker"]) (i:=0) hE1 rfl (by decide +kernel))) (λ _ _ _ hE1=>(c_R (a_P G_16 hr.mo rfl T.m_16 T.F_16.kp T.b_16 .nil b_B (a_A (pv 0) a_C)))))
   (a_D (a_R (i:=4) sc_y.nd rfl (Or.inl rfl) (d_T (a_A (a_P G_14 hr.mo rfl T.m_14 T.F_14.kp T.b_14 .nil b_B (a_A (pv 0) a_C)) a_C)))
   (a_D (a_R (i:=5) sc_y.nd rfl (Or.inr rfl) (r_D hu (a_J ix_B (pv 4) a_E (λ _ _=>rfl)) (d_T a_C)))
   (a_D (a_R (i:=6) sc_y.nd rfl (Or.inl rfl) a_E)
   (a_D (h_U zG (a_K f_X (pv 6) (a_O b_C rfl T.z_len (by decide +kernel) (a_A (pv 4) a_C)) (a_U _))
   (a_D (d_A zG rfl (h_I rfl T.z_enumerate (a_A (pv 3) a_C)) (e_G rfl (b_N (b_R (i:=7) sc_y.nd rfl (Or.inl rfl)) (b_N (b_R (i:=8) sc_y.nd rfl (Or.inl rfl)) d_W)))
   (a_D (a_R (i:=9) sc_y.nd rfl (Or.inl rfl) (a_P G_16 hr.mo rfl T.m_16 T.F_16.kp T.b_16 .nil b_B (a_A (a_P G_10 hr.mo rfl T.m_10 T.F_10.kp T.b_10 .nil b_B (a_A (a_J ix_B (pv 4) (pv 6) (λ _ _=>rfl)) (a_A (pv 8) a_C))) a_C)))
   (a_D (b_G (a_K (p_z hu) (pv 9) (pv 5) rfl)
   (a_D (q_K (a_Z j_M (a_J (ix_T hu) (pv 5) (a_J ix_B (pv 4) (pv 6) (λ _ _=>rfl)) (λ _ _=>rfl)) (d_T (a_A (pv 7) a_C))) (q_J (pv 5) (pv 9) (w_G hu)))
   (a_G (e_F (f_Y PySem.F.plainAttrs_list PySem.F.slot_list_append PySem.F.type_list_append f_L (pv 4) (a_A (pv 9) a_C)))))
   a_S)
   (a_G (b_G (a_K h_X (a_O b_C rfl T.z_len (by decide +kernel) (a_A (pv 4) a_C)) (pv 2) (a_U _))
   (a_G e_Z)
   a_S)))))
   (a_G (q_L (i:=6) sc_y.nd rfl (Or.inl rfl) a_E q_M))))
   (a_G (a_N (pv 5)))))))),?_⟩
  show tSeq _ _ _ [some (.int d),some (.ref a),some (.int most),none,none,none,none,none,none,none] H;have hpl:ps.length=ms.length:=a_Q hp;refine st λ N1 e1=>?_;walk_at "r";refine b_E λ B eB=>?_;simp only [iSeq];walk_at "r";refine ⟨b,⟨_,hS⟩,λ as has=>?_⟩;refine c_T (DdR K as (ms.map a_W)) has hS (by rw [zqe]; omega) DdR.mono ?_ ?_
  ·intro i x H1 zs ex s1 ez Q' hQ';rw [zH] at ex;cases hp':ps[i]? with
   | none=>rw [hp'] at ex; cases ex
   | some q =>
    rw [hp'] at ex;cases ex;obtain ⟨m,em,hdm⟩:=b_S hp hp';have fm:=hf1 m (zqb em);subst eB;show e_u _ _ _ _ [some (.ref q)] H1 Q';walk_at "r";refine ⟨q,m.1,m.2.1,m.2.2,rfl,DdAt.up hdm s1,by rw [fm.sq.1]; omega,by rw [fm.len]; omega,fm.pos,λ r H2 s2 hr2=>?_⟩;refine hQ' _ _ s2 ⟨r,a_W m,rfl,by rw [zH,em]; rfl,?_⟩;exact DdAt.tk (show DdAt K H2 r (a_W m) from hr2) (o_V (s2 _ _ ez))
  ·intro H1 ys s1 e1' hl1 hr1;obtain ⟨qs,rfl,hqs⟩:=k_I (by rw [hl1,zqe,zqe]; omega) hr1;subst e1;refine st λ N1 e1=>?_;walk_at "r";refine ⟨d,rfl,hd,λ q0 H2 s2 hq0=>⟨by show 1<=sizeLine; decide,λ af haf=>?_⟩⟩;have s3:Same H2 (upd H2 af (.lst [.ref q0])):=Same.new haf;have ef:(upd H2 af (.lst [.ref q0])) af=some (.lst [.ref q0]):=a_F;generalize upd H2 af (.lst [.ref q0])=H3 at *
   have hq3:DdAt K H3 q0 (b_K d):=DdAt.up hq0 s3;have es3:=s3 _ _ (s2 _ _ e1');have hqs3:=Paired.mapP hqs λ _ _ z=>z.up (s2.trans s3);have s03:=(s1.trans s2).trans s3;have hfa:H af=none:=by
    cases z:H af with
    | none=>rfl
    | some o=>rw [s2 _ _ (s1 _ _ z)] at haf; cases haf
   have xsf:as≠af:=λ z=>by rw [z] at e1'; rw [s2 _ _ e1'] at haf; cases haf
   subst e1;refine st λ N1 e1=>?_;simp only [r_C];walk_at "r";intro aw haw;have s4:Same H3 (upd H3 aw (d_Q aw [])):=Same.new haw;have ew:(upd H3 aw (d_Q aw [])) aw=some (d_Q aw []):=a_F;have hwa:H aw=none:=by
    cases z:H aw with
    | none=>rfl
    | some o=>rw [s03 _ _ z] at haw; cases haw
   generalize upd H3 aw (d_Q aw [])=H4 at *;walk_at "r";refine k_J (i:=0) (s4 _ _ ef) rfl rfl ?_;refine ⟨Nat.zero_le _,λ p0 hp0=>?_⟩;have s5:Same H4 (upd H4 p0 (.lst [])):=Same.new hp0;have ep:(upd H4 p0 (.lst [])) p0=some (.lst []):=a_F;have xp:p0≠af:=λ z=>by rw [z,s4 _ _ ef] at hp0; cases hp0
   have xw:p0≠aw:=λ z=>by rw [z,ew] at hp0; cases hp0
   generalize upd H4 p0 (.lst [])=H5 at *;refine ⟨q0,rfl,dat (b_K d),d_E _,(DdAt.up hq3 (s4.trans s5)).dt,s5 _ _ ew,λ H6 h6 hD=>?_⟩;have xaw:∀ b o,H b=some o->b≠aw:=λ b o e z=>by rw [z,hwa] at e; cases e
   have tk6:TK K H5 H6:=TK.off (s5 _ _ ew) (λ _ z=>by cases z) (λ _ _ z=>by cases z) h6;have asw:as≠aw:=λ z=>by rw [z] at es3; rw [es3] at haw; cases haw
   have afw:af≠aw:=λ z=>by rw [z] at ef; rw [ef] at haw; cases haw
   have ci:CI K H qs (ms.map a_W) as af aw [(b_K d,[])] H6:=⟨λ b o e=>by rw [h6 b (xaw b o e)]; exact s5 _ _ (s4 _ _ (s03 _ _ e)),⟨by rw [h6 _ asw]; exact s5 _ _ (s4 _ _ es3),Paired.mapP hqs3 λ _ _ z=>DdAt.tk (z.up (s4.trans s5)) tk6⟩,
    ⟨[q0],by rw [h6 _ afw]; exact s5 _ _ (s4 _ _ ef),.cons (DdAt.tk (DdAt.up hq3 (s4.trans s5)) tk6) .nil⟩,⟨_,hD,.cons ⟨rfl,p0,rfl,xp,by rw [h6 _ xw]; exact ep⟩ .nil⟩,has,hfa,hwa,xsf⟩
   clear hD tk6 ep xp xw hp0 s5 ew s4 haw hqs3 es3 hq3 ef s3 haf hq0 s2 hqs hr1 hl1 e1' s1 s03 afw asw xaw h6;subst e1;refine st λ N1 e1=>?_;walk_at "r";subst e1;refine st λ N1 e1=>r_j λ B eB=>?_;refine ⟨λ m σ H'=>∃ (i:Nat) (tb:Tb) (v7 v8 v9:Option V),σ=[some (.int d),some (.ref a),some (.int most),some (.ref as),some (.ref af),some (.ref aw),some (.int i),v7,v8,v9]/\CI K H qs (ms.map a_W) as af aw tb H'/\c_B d (ms.map a_W) (N - i) i tb=c_B d (ms.map a_W) N 0 [(b_K d,[])]/\ND tb/\(∀ y∈tb,G y.1)/\m=N - i,
    ⟨N,0,_,none,none,none,rfl,ci,rfl,⟨by simp,λ y hy=>by rw [List.mem_singleton.mp hy]; exact Nat.zero_lt_one⟩,λ y hy=>by rw [List.mem_singleton.mp hy]; exact hG0,rfl⟩,?_⟩
   clear ci;rintro m σ H7 ⟨i,tb,v7,v8,v9,rfl,ci,hc,nd,gd,rfl⟩;walk_at "r";obtain ⟨fs,f1,f2⟩:=ci.fo;have fl:fs.length=tb.length:=a_Q f2;refine ⟨false,af,_,rfl,SqB.lst f1,?_⟩
   try walk_at "r"
   rw [zqe,fl]
   by_cases hi:i < tb.length
   case neg =>
    rw [zX (by omega)];refine iteF ?_;subst e1;walk_at "r";rw [q_B (by omega)] at hc;obtain ⟨kvs,d1,d2⟩:=ci.wo;refine hQ aw kvs H7 ci.s ci.n3 d1 ?_;rw [← hc];exact Paired.mapP d2 λ _ _ z=>let ⟨z1,p,z2,_,z4⟩:=z; ⟨z1,p,z2,z4⟩
   rw [zW (show (i:Int) < tb.length by omega)];obtain ⟨⟨x,wd⟩,ex⟩:∃ xw,tb[i]?=some xw:=⟨_,zqd hi⟩;have preF:=h_e d (ms.map a_W) (N - i) i tb;have hNi:0 < N - i:=by
    obtain ⟨r,er⟩:=preF;rw [hc] at er;rw [er,List.length_append] at hN;omega
   rw [n_U hi hNi,u_F ex] at hc;have leF:((ms.map a_W).zipIdx.foldl (nxt d x wd) tb).length<=most:=by
    obtain ⟨r,er⟩:=h_e d (ms.map a_W) (N - i - 1) (i+1) ((ms.map a_W).zipIdx.foldl (nxt d x wd) tb);rw [hc] at er;rw [er,List.length_append] at hlen;omega
   refine iteT ⟨λ σ' H'=>∃ (tb':Tb) (v7 v8 v9:Option V),σ'=[some (.int d),some (.ref a),some (.int most),some (.ref as),some (.ref af),some (.ref aw),some (.int (i+1:Nat)),v7,v8,v9]/\CI K H qs (ms.map a_W) as af aw tb' H'/\c_B d (ms.map a_W) (N - (i+1)) (i+1) tb'=c_B d (ms.map a_W) N 0 [(b_K d,[])]/\ND tb'/\(∀ y∈tb',G y.1),?_,?_⟩
   ·rintro σ' H' ⟨tb',v7,v8,v9,rfl,k1,k2,k3,k4⟩;exact ⟨N - (i+1),by omega,i+1,tb',v7,v8,v9,rfl,k1,k2,k3,k4,rfl⟩
   subst eB;refine st λ N2 e2=>d_B λ B eB=>?_;simp only [k_X];walk_at "r";refine ⟨false,⟨_,SqB.lst ci.st.1⟩,?_⟩;refine o_s (g:=gTup K 2 (c_N (a_T 7) (c_N (a_T 8) gNil))) (tb:=B) (CPv K H G qs (ms.map a_W) a as af aw d i most (part d x wd (ms.map a_W) tb))
    ⟨_,_,_,rfl,ci,nd,gd⟩ (λ k σ H' _ ⟨_,_,_,_,c,_⟩=>SqB.lst c.st.1) ?_ ?_
   ·rintro k y p σ H8 ey ⟨v7,v8,v9,rfl,c8,nd8,gd8⟩ hp8;rw [zH] at ey;cases hq':qs[k]? with
    | none=>rw [hq'] at ey; cases ey
    | some q =>
     rw [hq'] at ey;cases ey;obtain ⟨sd,esd,_⟩:=b_S c8.st.2 hq';have sp:=Same.new (o:=.tup [.int (k:Int),.ref q]) hp8;refine ⟨p,[.int k,.ref q],rfl,SqT.of a_F,rfl,_,[.ref q],rfl,_,[],rfl,rfl,?_⟩;have c9:=c8.up sp;generalize upd H8 p (.tup [.int (k:Int),.ref q])=H9 at *
     clear c8;obtain ⟨r0,er0⟩:=t_j (d:=d) (x:=x) (w:=wd) (ss:=ms.map a_W) (tb:=tb) k;have exk:(part d x wd (ms.map a_W) tb k)[i]?=some (x,wd):=by rw [er0,yC hi]; exact ex
     have lek:=t_k (d:=d) (x:=x) (w:=wd) (ss:=ms.map a_W) (tb:=tb) k;have lek1:=t_k (d:=d) (x:=x) (w:=wd) (ss:=ms.map a_W) (tb:=tb) (k+1);have hnx:∀ v7 v8 v9 H',CI K H qs (ms.map a_W) as af aw (nxt d x wd (part d x wd (ms.map a_W) tb k) (sd,k)) H'->G (d_z d x sd)->CPv K H G qs (ms.map a_W) a as af aw d i most (part d x wd (ms.map a_W) tb) (k+1) [some (.int d),some (.ref a),some (.int most),some (.ref as),some (.ref af),some (.ref aw),some (.int i),v7,v8,v9] H':=λ v7 v8 v9 H' c gs=>⟨v7,v8,v9,rfl,by rw [f_V esd]; exact c,by rw [f_V esd]; exact w_k nd8 (zqb exk),by rw [f_V esd]; exact t_g gd8 gs⟩;rw [f_V esd] at lek1;generalize CPv K H G qs (ms.map a_W) a as af aw d i most (part d x wd (ms.map a_W) tb) (k+1)=NX at *
     generalize part d x wd (ms.map a_W) tb k=tk at *;obtain ⟨md,hmd,emd⟩:∃ m∈ms,a_W m=sd:=by
      have:=zqb esd;obtain ⟨m,hm1,hm2⟩:=List.mem_map.mp this;exact ⟨m,hm1,hm2⟩
     have gx:G x:=gd8 _ (zqb exk);have gs:G (d_z d x sd):=by rw [← emd]; exact hGs x md gx hmd
     have fx:=hG x gx;have fs':e_E d sd:=by rw [← emd]; exact hf2 md hmd
     have fst:=hG _ gs;subst eB;show tSeq _ _ _ [some (.int d),some (.ref a),some (.int most),some (.ref as),some (.ref af),some (.ref aw),some (.int i),some (.int k),some (.ref q),v9] H9;refine st λ N3 e3=>?_;walk_at "r";obtain ⟨fs2,g1,g2⟩:=c9.fo;obtain ⟨fp,efp⟩:∃ fp,fs2[i]?=some fp:=⟨_,zqd (by rw [a_Q g2]; exact (zqa exk).1)⟩;obtain ⟨xw',exw',hfp⟩:=b_S g2 efp;rw [exk] at exw';cases exw';obtain ⟨sd',esd',hqd⟩:=b_S c9.st.2 hq';rw [esd] at esd';cases esd';refine k_J (i:=i) g1 (by rw [zH,efp]; rfl) rfl ?_;refine ⟨fp,q,x.1,sd.1,x.2.1,sd.2.1,x.2.2,sd.2.2,d,rfl,hfp,hqd,fx,fs',by omega,by omega,λ r1 H10 s10 hr1=>?_⟩;have hr1':DdAt K H10 r1 (behD d x sd):=hr1;refine ⟨r1,_,_,_,rfl,hr1',?_,?_,fst.pos,λ r2 H11 s11 hr2=>?_⟩
     ·have:=fst.sq.1;show (mulM d sd.1 x.1).length<=100;have:(mulM d sd.1 x.1).length=d:=this;omega
     ·have:=fst.len;have e:(e_n (behD d x sd).2.2 (behD d x sd).2.1).length=(behD d x sd).2.1.length:=by unfold e_n; simp
      have:(e_n (behD d x sd).2.2 (behD d x sd).2.1).length=d:=this;omega
     have hr2':DdAt K H11 r2 (d_z d x sd):=hr2;have c11:=c9.up (s10.trans s11);subst e3;show tSeq _ _ _ [some (.int d),some (.ref a),some (.int most),some (.ref as),some (.ref af),some (.ref aw),some (.int i),some (.int k),some (.ref q),some (.ref r2)] H11;refine st λ N4 e4=>?_;have key:∀ H',CI K H qs (ms.map a_W) as af aw (nxt d x wd tk (sd,k)) H'->N4 [some (.int d),some (.ref a),some (.int most),some (.ref as),some (.ref af),some (.ref aw),some (.int i),some (.int k),some (.ref q),some (.ref r2)] H':=by
      intro H' c';subst e4;walk_at "r";obtain ⟨fs3,g3,g4⟩:=c'.fo;refine ⟨false,af,_,rfl,SqB.lst g3,?_⟩
      try walk_at "r"
      rw [zqe,a_Q g4,zX (by omega)];refine iteF ?_;exact hnx _ _ _ H' c' gs
     walk_at "r";obtain ⟨kvs,d1,d2⟩:=c11.wo;refine w_j d1 (d_E _) hr2'.dt ?_;rcases t_f (x:=d_z d x sd) d2 with ⟨z1,z2⟩ | ⟨wd',pw,z1,z2,z3,z4⟩
     case inr =>
      rw [z2]
      try walk_at "r"
      refine key H11 ?_;have en:nxt d x wd tk (sd,k)=tk:=if_pos (List.mem_map.mpr ⟨_,z1,rfl⟩);rw [en];exact c11
     rw [z2]
     try walk_at "r"
     rw [if_pos (by rfl)];obtain ⟨fs4,g5,g6⟩:=c11.fo;obtain ⟨fq,efq⟩:∃ fq,fs4[i]?=some fq:=⟨_,zqd (by rw [a_Q g6]; exact (zqa exk).1)⟩;obtain ⟨xw2,exw2,hfq⟩:=b_S g6 efq;rw [exk] at exw2;cases exw2;refine k_J (i:=i) g5 (by rw [zH,efq]; rfl) rfl ?_;rcases t_f (x:=x) d2 with ⟨y1,_⟩ | ⟨wd',pw,y1,y2,y3,y4⟩
     ·exact yJ (List.mem_map.mpr ⟨_,zqb exk,rfl⟩) y1
     have ewd:=t_h nd8.1 exk y1;subst ewd;have hwl:wd.length < tk.length:=nd8.2 _ (zqb exk);have klen:tk.length=kvs.length:=a_Q d2;have hsz:1000<=sizeLine:=by decide
     refine o_U d1 (d_E _) (DdAt.dt hfq) y2 ?_;refine ⟨by show 1<=sizeLine; decide,λ p1 hp1=>?_⟩;have s12:Same H11 (upd H11 p1 (.lst [.int k])):=Same.new hp1;have ep1:(upd H11 p1 (.lst [.int k])) p1=some (.lst [.int k]):=a_F;generalize upd H11 p1 (.lst [.int k])=H12 at *
     refine ⟨pw,p1,_,_,rfl,rfl,s12 _ _ y4,ep1,by rw [zqe]; show wd.length+1<=sizeLine; omega,λ p2 hp2=>?_⟩;have s13:Same H12 (upd H12 p2 (.lst ((wd.map λ n=>V.int (n:Nat))++[.int k]))):=Same.new hp2;have ep2:(upd H12 p2 (.lst ((wd.map λ n=>V.int (n:Nat))++[.int k]))) p2=some (.lst ((wd.map λ n=>V.int (n:Nat))++[.int k])):=a_F;have c13:=c11.up (s12.trans s13);have hp2f:p2≠af:=λ z=>by rw [z,s12 _ _ g5] at hp2; cases hp2
     generalize upd H12 p2 (.lst ((wd.map λ n=>V.int (n:Nat))++[.int k]))=H13 at *;have t13:=s12.trans s13;have d13:=d1.up t13;have d213:=Paired.mapP d2 λ _ _ z=>(let ⟨z1,p,z2,z3,z4⟩:=z; ⟨z1,p,z2,z3,t13 _ _ z4⟩:_/\∃ p,_/\p≠af/\H13 p=_);have r13:=DdAt.up hr2' t13;have g513:=t13 _ _ g5;have g613:=Paired.mapP g6 λ _ _ z=>DdAt.up z t13;simp only [gSub];walk_at "r";have en:nxt d x wd tk (sd,k)=tk++[(d_z d x sd,wd++[k])]:=if_neg z1;have pn:pT kvs (dat (d_z d x sd)) (.ref p2)=kvs++[(dat (d_z d x sd),.ref p2)]:=by
      unfold pT;rw [z2];rfl
     obtain ⟨xsd,edw,_,_⟩:=d13.ex;have afw:af≠aw:=λ z=>by rw [z,edw] at g513; cases g513
     have asw:as≠aw:=λ z=>by have:=c13.st.1; rw [z,edw] at this; cases this
     refine ⟨aw,kvs,r2,dat (d_z d x sd),rfl,rfl,d13,d_E _,r13.dt,by omega,λ H14 _ k14 D14=>?_⟩;rw [pn] at D14;have D14':DTr K H14 aw (kvs++[(dat (d_z d x sd),V.ref p2)]):=D14;have tk1:TK K H13 H14:=TK.off edw (λ _ z=>by cases z) (λ _ _ z=>by cases z) k14;have e14:H14 af=some (.lst (fs4.map V.ref)):=by rw [k14 af afw]; exact g513
     refine ⟨tyL e14,af,_,_,rfl,rfl,e14,by rw [zqe,a_Q g6]; omega,key _ ?_⟩;rw [en];have k15:∀ c,c≠af->upd H14 af (.lst (fs4.map V.ref++[.ref r2])) c=H14 c:=λ c hc=>a_I hc;have e15:upd H14 af (.lst (fs4.map V.ref++[.ref r2])) af=some (.lst (fs4.map V.ref++[.ref r2])):=a_F;generalize upd H14 af (.lst (fs4.map V.ref++[.ref r2]))=H15 at *
     have tk2:TK K H14 H15:=TK.off e14 (λ _ z=>by cases z) (λ _ _ z=>by cases z) k15;have tk3:=tk1.trans tk2;have hlw:∀ p xs,H13 p=some (.lst xs)->p≠aw:=λ p xs e z=>by rw [z,edw] at e; cases e
     refine ⟨λ b o e=>?_,⟨?_,Paired.mapP c13.st.2 λ _ _ z=>DdAt.tk z tk3⟩,⟨fs4++[r2],by rw [e15]; simp,Paired.snoc (Paired.mapP g613 λ _ _ z=>DdAt.tk z tk3) (DdAt.tk r13 tk3)⟩,⟨kvs++[(dat (d_z d x sd),V.ref p2)],DTr.tk D14' tk2 (k15 aw (Ne.symm afw)),Paired.snoc (Paired.mapP d213 λ _ _ z=>?_) ⟨rfl,p2,rfl,hp2f,?_⟩⟩,c13.n1,c13.n2,c13.n3,c13.x1⟩
     ·have b1:b≠af:=λ z=>by rw [z,c13.n2] at e; cases e
      have b2:b≠aw:=λ z=>by rw [z,c13.n3] at e; cases e
      rw [k15 b b1,k14 b b2];exact c13.s b o e
     ·rw [k15 as c13.x1,k14 as asw];exact c13.st.1
     ·obtain ⟨w1,p,w2,w3,w4⟩:=z;refine ⟨w1,p,w2,w3,?_⟩;rw [k15 p w3,k14 p (hlw _ _ w4)];exact w4
     ·rw [k15 p2 hp2f,k14 p2 (hlw _ _ ep2),ep2];simp
   ·rintro σ H8 ⟨v7,v8,v9,rfl,c8,nd8,gd8⟩;have hql:(qs.map V.ref).length=(ms.map a_W).length:=by rw [zqe]; exact a_Q c8.st.2
    rw [hql,t_i] at c8 nd8 gd8;subst e2;refine ⟨.int i,rfl,?_⟩;unfold tC ipI;refine ⟨i,1,rfl,rfl,?_⟩;refine ⟨_,v7,v8,v9,rfl,c8,?_,nd8,gd8⟩;rw [show N - (i+1)=N - i - 1 by omega];exact hc
theorem i_K:∀ {l l':List Int},l.length=l'.length->smA (l.map PyData.int) (l'.map PyData.int)=true
 | [],[],_=>rfl
 | _ :: l,_ :: l',h=>by
  show (sm (.int _) (.int _) && smA (l.map PyData.int) (l'.map PyData.int))=true;rw [i_K (by simpa using h)];rfl
theorem m_D {d:Nat}:∀ {M M':LM},M.length=M'.length->(∀ r∈M,r.length=d)->(∀ r∈M',r.length=d)->smA (M.map λ r=>PyData.tuple (r.map PyData.int)) (M'.map λ r=>PyData.tuple (r.map PyData.int))=true
 | [],[],_,_,_=>rfl
 | r :: M,r' :: M',h,h1,h2=>by
  show (smA (r.map PyData.int) (r'.map PyData.int) && smA (M.map λ r=>PyData.tuple (r.map PyData.int)) (M'.map λ r=>PyData.tuple (r.map PyData.int)))=true;rw [i_K ((h1 r (.head _)).trans (h2 r' (.head _)).symm),m_D (by simpa using h) (λ x hx=>h1 x (.tail _ hx)) λ x hx=>h2 x (.tail _ hx)];rfl
theorem o_W {d:Nat} {x y:Dd} (h1:e_E d x) (h2:e_E d y):sm (dat x) (dat y)=true:=by
 show (smA (x.1.map λ r=>PyData.tuple (r.map PyData.int)) (y.1.map λ r=>PyData.tuple (r.map PyData.int)) && (smA (x.2.1.map PyData.int) (y.2.1.map PyData.int) && (sm (.int _) (.int _) && true)))=true;rw [m_D (h1.sq.1.trans h2.sq.1.symm) h1.sq.2 h2.sq.2,i_K (h1.len.trans h2.len.symm)];rfl
noncomputable def o_X (d:Nat) (lg lo ls ln:Addr):List (Str × V):=[(Str.ofString "dimension",.int d),(Str.ofString "given",.ref lg),(Str.ofString "ordered",.ref lo),(Str.ofString "shortest",.ref ls),(Str.ofString "numbers",.ref ln)]
noncomputable def numT (srt:Tb) (n:Nat):List (PyData × V):=(srt.zipIdx n).map λ p=>(dat p.1.1,V.int ((p.2:Nat):Int))
structure GrpF (K:Frag) (t:Adr) (H:Hp) (g:Addr) (d:Nat) (ms:List Dd) (srt:Tb):Prop where
 ex:∃ dx lg lo ls ln,H g=some (.ins t.a_z dx (o_X d lg lo ls ln))/\(∃ gs:List Addr,H lg=some (.lst (gs.map V.ref))/\Paired (DdAt K H) gs ms) /\
  (∃ os:List Addr,H lo=some (.lst (os.map V.ref))/\Paired (λ p x=>Dt K H (.ref p) (dat x.1)) os srt) /\
  (∃ ws:List Addr,H ls=some (.lst (ws.map V.ref))/\Paired (λ p (x:Dd × List Nat)=>H p=some (.lst (x.2.map λ n=>V.int (n:Nat)))) ws srt)/\DTr K H ln (numT srt 0)
noncomputable def i_W (K:Frag) (t:Adr):Sp:=λ vs H Q _=>∃ (b:Bool) (d:Nat) (a x dx:Addr) (ps:List Addr) (ms:List Dd) (G:Dd->Prop) (N:Nat),vs=[.ref x,.int d,.ref a,.int 200]/\H x=some (.ins t.a_z dx [])/\(d=2\/d=3)/\SqB b K H a (ps.map V.ref)/\Paired (DdAt K H) ps ms /\
 ms.length<=100/\(∀ s∈ms,e_E d s)/\(∀ s∈ms,e_E d (a_W s))/\(∀ x,G x->e_E d x)/\G (b_K d)/\(∀ x s,G x->s∈ms->G (d_z d x (a_W s))) /\
 (c_B d (ms.map a_W) N 0 [(b_K d,[])]).length<=63/\(c_B d (ms.map a_W) N 0 [(b_K d,[])]).length<=N/\(∀ y∈c_B d (ms.map a_W) N 0 [(b_K d,[])],e_E d y.1)/\((c_B d (ms.map a_W) N 0 [(b_K d,[])]).map (·.1)).Nodup /\
 ∀ srt H',(∀ b o,b≠x->H b=some o->H' b=some o)->GrpF K t H' x d ms srt->srt.Perm (c_B d (ms.map a_W) N 0 [(b_K d,[])])->srt.Pairwise (λ p q=>lx (fl (dat q.1)) (fl (dat p.1))=false)->Q .non H'
theorem j_E {α β:Type} {f:α->β}:∀ {l:List β} {tb:List α},l.Perm (tb.map f)->∃ srt:List α,srt.Perm tb/\srt.map f=l
 | [],tb,h=>by
  have:=h.length_eq;rw [zqe] at this;exact ⟨[],by rw [List.length_eq_zero_iff.mp this.symm],rfl⟩
 | b :: l,tb,h=>by
  obtain ⟨a,ha,e⟩:=List.mem_map.mp (h.mem_iff.mp (zU));obtain ⟨s,r,rfl⟩:=List.append_of_mem ha;have h2:(b :: l).Perm (b :: (s++r).map f):=by
   refine h.trans ?_;rw [List.map_append,List.map_cons,e,List.map_append];exact List.perm_middle
  obtain ⟨srt,p,q⟩:=j_E (List.Perm.cons_inv h2);exact ⟨a :: srt,(List.Perm.cons a p).trans List.perm_middle.symm,by rw [List.map_cons,e,q]⟩
noncomputable def KX (x:Addr) (H H':Hp):Prop:=∀ b o,b≠x->H b=some o->H' b=some o
theorem KX.same {x:Addr} {H H':Hp} (s:Same H H'):KX x H H':=λ b o _ e=>s b o e
theorem KX.put {x:Addr} {H:Hp} {o:HO}:KX x H (upd H x o):=λ b o' hb e=>by rw [a_I hb]; exact e
theorem KX.trans {x:Addr} {H H1 H2:Hp} (a:KX x H H1) (b:KX x H1 H2):KX x H H2:=λ c o hc e=>b c o hc (a c o hc e)
theorem KX.tk {K:Frag} {x C dx:Addr} {fs:List (Str × V)} {H H':Hp} (k:KX x H H') (e:H x=some (.ins C dx fs)):TK K H H':=by
 have hk:∀ b xs,H b=some (.tup xs)->H' b=some (.tup xs):=λ b xs q=>k b _ (λ z=>by rw [z,e] at q; cases q) q;refine ⟨hk,λ b xs q=>?_⟩;rcases q with (q | ⟨ob,q⟩) | q
 ·exact .inl (.inl (hk _ _ q))
 ·exact .inl (.inr ⟨ob,k b _ (λ z=>by rw [z,e] at q; cases q) q⟩)
 ·exact .inr q
theorem u_G {H:Hp} {x:Dd} {w:List Nat} {p:Addr}:∀ {tb:Tb} {kvs:List (PyData × V)},TbAt H tb kvs->(tb.map (·.1)).Nodup->(x,w)∈tb->vT kvs (dat x)=some (.ref p)->H p=some (.lst (w.map λ n=>V.int (n:Nat))):=by
 intro tb kvs h
 induction h with
 | nil=>intro _ hm; cases hm
 | @cons y kv tb kvs hy _ ih =>
  intro nd hm e;obtain ⟨e1,q,e2,e3⟩:=hy;rw [List.map_cons,List.nodup_cons] at nd;rcases List.mem_cons.mp hm with hm | hm
  ·rw [← hm] at e1 e3;rw [i_o e1,e2] at e;cases e;exact e3
  ·have ne:¬ kv.1=dat x:=λ q=>nd.1 (by rw [g_F.mp (e1.symm.trans q)]; exact List.mem_map.mpr ⟨_,hm,rfl⟩);rw [g_S ne] at e;exact ih nd.2 hm e
theorem u_H {K:Frag} {H:Hp} {C x dx a:Addr} {fs:List (Str × V)} {o:HO} {b:Bool} {xs:List V} (e:H x=some (.ins C dx fs)) (h:SqB b K H a xs):SqB b K (upd H x o) a xs:=by
 cases b with
 | false =>
  rcases (show SqL K H a xs from h) with (h | ⟨ob,h⟩) | h
  ·exact (.inl (.inl (by rw [a_I (λ z=>by rw [z,e] at h; cases h)]; exact h)):SqL K (upd H x o) a xs)
  ·exact (.inl (.inr ⟨ob,by rw [a_I (λ z=>by rw [z,e] at h; cases h)]; exact h⟩):SqL K (upd H x o) a xs)
  ·exact (.inr h:SqL K (upd H x o) a xs)
 | true =>
  rcases (show SqT K H a xs from h) with (h | ⟨ob,h⟩) | h
  ·exact (.inl (.inl (by rw [a_I (λ z=>by rw [z,e] at h; cases h)]; exact h)):SqT K (upd H x o) a xs)
  ·exact (.inl (.inr ⟨ob,by rw [a_I (λ z=>by rw [z,e] at h; cases h)]; exact h⟩):SqT K (upd H x o) a xs)
  ·exact (.inr h:SqT K (upd H x o) a xs)
theorem n_V {H:Hp} {v:V} {ds:List PyData} (h:Dt K H v (.tuple ds)):∃ q,v=V.ref q:=by
 cases h;exact ⟨_,rfl⟩
theorem g_i {H:Hp} {σ:St} {i:Nat} {C x dx:Addr} {fs:List (Str × V)} {f:Str} {v:V} {Q:VK} (hσ:σ[i]?=some (some (V.ref x))) (e:H x=some (.ins C dx fs)) (c:Cls K C) (n:g_c K C f) (l:fs.lookup f=some v) (q:Q v H):tFld K (tVar i) f σ H Q:=⟨_,hσ,x,C,dx,fs,v,rfl,e,c,n,l,q⟩
theorem w_l {H:Hp}:∀ {tb:Tb} {kvs:List (PyData × V)},TbAt H tb kvs->∀ y∈tb,∃ p,vT kvs (dat y.1)=some (V.ref p):=by
 intro tb kvs h
 induction h with
 | nil=>intro y hy; cases hy
 | @cons z kv tb kvs hz _ ih =>
  intro y hy;obtain ⟨e1,p,e2,_⟩:=hz
  by_cases q:kv.1=dat y.1
  ·exact ⟨p,by rw [i_o q,e2]⟩
  ·rw [g_S q];rcases List.mem_cons.mp hy with hy | hy
   ·exact yJ (by rw [e1,hy]) q
   ·exact ih y hy
theorem o_Y {K:Frag} {H:Hp}:∀ {ps:List (V × PyData)} {zs:List V} {n:Nat},zs.length=ps.length->(∀ p∈ps,tT 4 p.2=true/\Dt K H p.1 p.2/\∃ q,p.1=V.ref q)->(∀ j y,zs[j]?=some y->∃ p m,y=V.ref p/\ps[j]?=some m/\H p=some (.tup [m.1,.int ((n+j:Nat):Int)])) ->
  ∃ ts:List (Addr × PyData × Addr × V),zs=ts.map (λ t=>V.ref t.1)/\(ts.map (·.2.1)=ps.map (·.2)/\ts.map (λ t=>(t.2.1,t.2.2.2))=(ps.zipIdx n).map λ p=>(p.1.2,V.int ((p.2:Nat):Int)))/\∀ t∈ts,SqT K H t.1 [.ref t.2.2.1,t.2.2.2]/\tT 4 t.2.1=true/\Dt K H (.ref t.2.2.1) t.2.1
 | [],[],_,_,_,_=>⟨[],rfl,⟨rfl,rfl⟩,λ _ h=>nomatch h⟩
 | p :: ps,z :: zs,n,hl,hp,hz=>by
  obtain ⟨a,m,e1,e2,e3⟩:=hz 0 z rfl;cases e2;obtain ⟨h1,h2,q,eq⟩:=hp p (.head _);obtain ⟨ts,i1,⟨i2,i2'⟩,i3⟩:=o_Y (K:=K) (H:=H) (ps:=ps) (zs:=zs) (n:=n+1) (by simpa using hl) (λ x hx=>hp x (.tail _ hx)) λ j y ej=>by
   obtain ⟨p',m',f1,f2,f3⟩:=hz (j+1) y (by simpa using ej);exact ⟨p',m',f1,by simpa using f2,by rw [f3,show n+(j+1)=n+1+j by omega]⟩
  rw [eq] at e3 h2;refine ⟨(a,p.2,q,.int ((n+0:Nat):Int)) :: ts,by rw [e1,i1]; rfl,⟨by rw [List.map_cons,List.map_cons,i2],by rw [List.map_cons,List.zipIdx_cons,List.map_cons,i2']; rfl⟩,λ t ht=>?_⟩;rcases List.mem_cons.mp ht with ht | ht
  ·rw [ht]; exact ⟨SqT.of e3,h1,h2⟩
  ·exact i3 t ht
theorem ord_of {K:Frag} {H:Hp}:∀ {ps:List (V × PyData)} {srt:Tb},(srt.map λ y=>dat y.1)=ps.map (·.2)->(∀ p∈ps,Dt K H p.1 p.2/\(∃ q,p.1=V.ref q))->∃ os:List Addr,ps.map (·.1)=os.map V.ref/\Paired (λ p (x:Dd × List Nat)=>Dt K H (.ref p) (dat x.1)) os srt
 | [],[],_,_=>⟨[],rfl,.nil⟩
 | [],_ :: _,h,_=>by simp at h
 | _ :: _,[],h,_=>by simp at h
 | p :: ps,y :: srt,e,h=>by
  rw [List.map_cons,List.map_cons,List.cons.injEq] at e;obtain ⟨os,e1,e3⟩:=ord_of (ps:=ps) (srt:=srt) e.2 λ x hx=>h x (.tail _ hx);obtain ⟨h1,q,eq⟩:=h p (.head _);rw [eq,← e.1] at h1;exact ⟨q :: os,by rw [List.map_cons,List.map_cons,e1,eq],.cons h1 e3⟩
theorem t_l {H:Hp} {kvs:List (PyData × V)}:∀ {srt:Tb} {ys:List V},ys.length=srt.length->(∀ (j:Nat) y,ys[j]?=some y->∃ p m,y=V.ref p/\srt[j]?=some m/\vT kvs (dat m.1)=some (V.ref p)) ->
  (∀ m∈srt,∀ p,vT kvs (dat m.1)=some (V.ref p)->H p=some (.lst (m.2.map λ n=>V.int (n:Nat))))->∃ ws:List Addr,ys=ws.map V.ref/\Paired (λ p (x:Dd × List Nat)=>H p=some (.lst (x.2.map λ n=>V.int (n:Nat)))) ws srt
 | [],[],_,_,_=>⟨[],rfl,.nil⟩
 | m :: srt,y :: ys,hl,h,hw=>by
  obtain ⟨p,m',e1,e2,e3⟩:=h 0 y rfl;cases e2;obtain ⟨ws,w1,w2⟩:=t_l (srt:=srt) (ys:=ys) (by simpa using hl) (λ j y' ej=>by
   obtain ⟨p,m',f1,f2,f3⟩:=h (j+1) y' (by simpa using ej);exact ⟨p,m',f1,by simpa using f2,f3⟩) λ m' hm' p' e=>hw m' (.tail _ hm') p' e
  exact ⟨p :: ws,by rw [e1,w1]; rfl,.cons (hw m (.head _) p e3) w2⟩
theorem o_Z:∀ {srt:Tb} {ps:List (V × PyData)},(srt.map λ y=>dat y.1)=ps.map (·.2)->∀ n,((srt.zipIdx n).map λ p=>(dat p.1.1,V.int ((p.2:Nat):Int)))=(ps.zipIdx n).map λ p=>(p.1.2,V.int ((p.2:Nat):Int))
 | [],[],_,_=>rfl
 | [],_ :: _,h,_=>by simp at h
 | _ :: _,[],h,_=>by simp at h
 | y :: srt,p :: ps,e,n=>by
  rw [List.map_cons,List.map_cons,List.cons.injEq] at e;rw [List.zipIdx_cons,List.zipIdx_cons,List.map_cons,List.map_cons,o_Z e.2 (n+1),e.1]
structure GI (K:Frag) (H0:Hp) (C x dx wd:Addr) (fs:List (Str × V)) (tb:Tb) (kvs:List (PyData × V)) (H:Hp):Prop where
 hx:H x=some (.ins C dx fs)
 s:∀ b o,b≠x->H0 b=some o->H b=some o
 D:DTr K H wd kvs
 T:TbAt H tb kvs
theorem GI.up {K:Frag} {H0 H H':Hp} {C x dx wd:Addr} {fs:List (Str × V)} {tb:Tb} {kvs:List (PyData × V)} (h:GI K H0 C x dx wd fs tb kvs H) (s:Same H H'):GI K H0 C x dx wd fs tb kvs H' :=
 ⟨s _ _ h.hx,λ b o hb e=>s _ _ (h.s b o hb e),h.D.up s,Paired.mapP h.T λ _ _ z=>let ⟨z1,p,z2,z3⟩:=z; ⟨z1,p,z2,s _ _ z3⟩⟩
theorem k_K {K:Frag} {H:Hp} {C x dx:Addr} {fs fs':List (Str × V)} (e:H x=some (.ins C dx fs)):TK K H (upd H x (.ins C dx fs')):=TK.off e (λ _ z=>by cases z) (λ _ _ z=>by cases z) λ _ hc=>a_I hc
theorem GI.put {K:Frag} {H0 H:Hp} {C x dx wd:Addr} {fs:List (Str × V)} {tb:Tb} {kvs:List (PyData × V)} (h:GI K H0 C x dx wd fs tb kvs H) (fs':List (Str × V)):GI K H0 C x dx wd fs' tb kvs (upd H x (.ins C dx fs')):=by
 have xw:wd≠x:=λ z=>by
  obtain ⟨_,_,xs,e,_⟩:=h.D;rw [z,h.hx] at e;cases e
 refine ⟨a_F,λ b o hb e=>?_,DTr.tk h.D (k_K h.hx) (a_I xw),Paired.mapP h.T λ _ _ z=>?_⟩
 ·rw [a_I hb]; exact h.s b o hb e
 ·obtain ⟨z1,p,z2,z3⟩:=z;have:p≠x:=λ q=>by rw [q,h.hx] at z3; cases z3
  exact ⟨z1,p,z2,by rw [a_I this]; exact z3⟩
theorem ok_0 (T:Txt K mg t):FnOk P w K mg base CX0 12 t.a_0 t.d_0 pb' (i_W K t):=by
 have G_k:=@ok_k P w K mg base t T;have G_j:=@ok_j P w K mg base t T;have G_y:=@ok_y P w K mg base t T;refine T.F_0.ok sc_0 (by walk_at "v") (λ cdv A outer s H vs Q E hr h=>?_)
 ·have hu:=hr.units;obtain ⟨b,d,a,x,dx,ps,ms,G,N,rfl,hx,hd,hS,hp,hm,hf1,hf2,hG,hG0,hGs,h63,hN,hfin,hnd,hQ⟩:=h;refine ⟨_,(a_D (e_F (a_P G_k hr.mo rfl T.m_k T.F_k.kp T.b_k .nil b_B (a_A (pv 3) a_C)))
   (a_D (e_F (a_P G_j hr.mo rfl T.m_j T.F_j.kp T.b_j .nil b_B (a_A (pv 1) (a_A (pv 2) a_C))))
   (a_D (a_R (i:=4) sc_0.nd rfl (Or.inr rfl) (a_P G_y hr.mo rfl T.m_y T.F_y.kp T.b_y .nil b_B (a_A (pv 1) (a_A (pv 2) (a_A (pv 3) a_C)))))
   (a_D (i_a (pv 0) (pv 1) rfl)
   (a_D (i_a (pv 0) (b_Q d_K rfl T.z_list (by decide +kernel) (a_A (pv 2) a_C)) rfl)
   (a_D (i_a (pv 0) (a_O (n_D (N:=63) o_T hu rfl) rfl T.z_sorted (by decide +kernel) (a_A (pv 4) a_C)) rfl)
   (a_D (i_a (pv 0) (b_L (xs:=["member"]) (fr:=[("words",4)]) (g:=(a_T 0)) (tt:=(tEl (tOp (r_A K) (tVar 1) (tVar 0)))) (b_D (sc:=a_B s_0) (N:=N_0) rfl rfl (by decide +kernel)) rfl (b_W (g_d (pv 0) rfl)) (λ _ _ _ hE1=>(b_T (N:=["member","words"]) (i:=0) hE1 rfl (by decide +kernel))) (λ _ _ _ hE1=>(c_R (a_J (ix_T hu) (pv 1) (pv 0) (λ _ _=>rfl))))) rfl)
   (a_G (i_a (pv 0) (b_Q (n_G hu rfl) rfl T.z_dict (by decide +kernel) (a_A (b_L (xs:=["number","member"]) (fr:=[]) (g:=(gTup K 2 (c_N (a_T 0) (c_N (a_T 1) gNil)))) (tt:=(tEl (tTup (b_X (tVar 1) (b_X (tVar 0) tNil))))) (b_D (sc:=a_B s_0) (N:=N_0) rfl rfl (by decide +kernel)) rfl (h_I rfl T.z_enumerate (a_A (g_d (pv 0) rfl) a_C)) (λ _ _ _ hE1=>(e_G rfl (b_N (b_T (N:=["number","member"]) (i:=0) hE1 rfl (by decide +kernel)) (b_N (b_T (N:=["number","member"]) (i:=1) hE1 rfl (by decide +kernel)) d_W)))) (λ _ _ _ hE1=>(c_R (b_P (a_A (pv 1) (a_A (pv 0) a_C)))))) a_C)) rfl))))))))),?_⟩
  show tSeq _ _ _ [some (.ref x),some (.int d),some (.ref a),some (.int 200),none] H;refine st λ N1 e1=>?_;walk_at "r";refine ⟨200,rfl,by decide,by decide,?_⟩;subst e1;refine st λ N1 e1=>?_;walk_at "r";refine ⟨b,d,a,ps,ms,rfl,hd,hS,hp,λ s hs=>(hf1 s hs).sq.1,λ H1 s1=>?_⟩;subst e1;refine st λ N1 e1=>?_;walk_at "r";refine ⟨b,d,a,ps,ms,200,G,N,rfl,hd,hS.up s1,Paired.mapP hp λ _ _ z=>z.up s1,hm,hf1,hf2,hG,hG0,hGs,zL _,by omega,hN,λ wd kvs H2 s2 hw hD hT=>?_⟩;generalize c_B d (ms.map a_W) N 0 [(b_K d,[])]=tb at *
  have s02:=s1.trans s2;have hx2:=s02 _ _ hx;subst e1;refine st λ N1 e1=>?_;simp only [sFld];walk_at "r";have g2:GI K H t.a_z x dx wd [] tb kvs H2:=⟨hx2,λ b o _ e=>s02 _ _ e,hD,hT⟩;refine ⟨_,_,_,hx2,T.cl_z,T.h_4,by decide,?_⟩;have g3:=g2.put [(Str.ofString "dimension",.int d)];have sq3:SqB b K (upd H2 x (.ins t.a_z dx [(Str.ofString "dimension",.int d)])) a (ps.map V.ref):=u_H hx2 (hS.up s02);show N1 _ (upd H2 x (.ins t.a_z dx [(Str.ofString "dimension",.int d)]));generalize upd H2 x (.ins t.a_z dx [(Str.ofString "dimension",.int d)])=H3 at *
  clear g2;subst e1;refine st λ N1 e1=>?_;simp only [sFld];walk_at "r";refine ⟨b,a,_,rfl,sq3,λ lg hlg=>?_⟩;have s4:Same H3 (upd H3 lg (.lst (ps.map V.ref))):=Same.new hlg;have elg:(upd H3 lg (.lst (ps.map V.ref))) lg=some (.lst (ps.map V.ref)):=a_F;have xlg:lg≠x:=λ z=>by rw [z,g3.hx] at hlg; cases hlg
  have g4:=g3.up s4;generalize upd H3 lg (.lst (ps.map V.ref))=H4 at *
  refine ⟨_,_,_,g4.hx,T.cl_z,T.h_h,by show 1 < 1000; decide,?_⟩;have g5:=g4.put [(Str.ofString "dimension",.int d),(Str.ofString "given",.ref lg)];have kx5:KX x H4 (upd H4 x (.ins t.a_z dx [(Str.ofString "dimension",.int d),(Str.ofString "given",.ref lg)])):=KX.put;show N1 _ (upd H4 x (.ins t.a_z dx [(Str.ofString "dimension",.int d),(Str.ofString "given",.ref lg)]));generalize upd H4 x (.ins t.a_z dx [(Str.ofString "dimension",.int d),(Str.ofString "given",.ref lg)])=H5 at *
  subst e1;refine st λ N1 e1=>?_;simp only [sFld];walk_at "r";have kl:tb.length=kvs.length:=a_Q g5.T;have kkey:∀ kv∈kvs,∃ y∈tb,kv.1=dat y.1:=λ kv hkv=>by
   obtain ⟨y,hy,z⟩:=g_f g5.T kv hkv;exact ⟨y,hy,z.1⟩
  have fst:=hG _ hG0;refine ⟨wd,kvs,[.tuple ((List.replicate d (0:Int)).map PyData.int),.int 1],(idM d).map (λ r=>PyData.tuple (r.map PyData.int)),rfl,by omega,g5.D,λ kv hkv=>?_,λ lo ps' H6 s6 hlo elo hps pm asc=>?_⟩
  ·obtain ⟨y,hy,e⟩:=kkey kv hkv;rw [e];exact o_W fst (hfin y hy)
  have g6:=g5.up s6;have kx6:=kx5.trans (KX.same s6);refine ⟨_,_,_,g6.hx,T.cl_z,T.h_7,by show 2 < 1000; decide,?_⟩;have pl:ps'.length<=63:=by
   have:=pm.length_eq;rw [zqe,zqe] at this;omega
  have elo6:=elo;have g7:=g6.put [(Str.ofString "dimension",.int d),(Str.ofString "given",.ref lg),(Str.ofString "ordered",.ref lo)];have xlo:lo≠x:=λ z=>by rw [z,g6.hx] at elo; cases elo
  have kx7:KX x H4 (upd H6 x (.ins t.a_z dx [(Str.ofString "dimension",.int d),(Str.ofString "given",.ref lg),(Str.ofString "ordered",.ref lo)])):=kx6.trans KX.put;have elo7:(upd H6 x (.ins t.a_z dx [(Str.ofString "dimension",.int d),(Str.ofString "given",.ref lg),(Str.ofString "ordered",.ref lo)])) lo=some (.lst (ps'.map (·.1))):=by rw [a_I xlo]; exact elo
  have hps7:∀ p∈ps',tT 4 p.2=true/\Dt K (upd H6 x (.ins t.a_z dx [(Str.ofString "dimension",.int d),(Str.ofString "given",.ref lg),(Str.ofString "ordered",.ref lo)])) p.1 p.2:=λ p hp'=>⟨(hps p hp').1,c_U (k_K g6.hx).t 4 (hps p hp').1 (c_U (b_U s6) 4 (hps p hp').1 (hps p hp').2)⟩;show N1 _ (upd H6 x (.ins t.a_z dx [(Str.ofString "dimension",.int d),(Str.ofString "given",.ref lg),(Str.ofString "ordered",.ref lo)]));generalize upd H6 x (.ins t.a_z dx [(Str.ofString "dimension",.int d),(Str.ofString "given",.ref lg),(Str.ofString "ordered",.ref lo)])=H7 at *
  -- every member is a reference to one of the dict's keys
  have mem:∀ p∈ps',∃ y∈tb,p.2=dat y.1:=λ p hp'=>by
   have:p.2∈kvs.map (·.1):=pm.mem_iff.mp (List.mem_map.mpr ⟨p,hp',rfl⟩);obtain ⟨kv,hkv,e⟩:=List.mem_map.mp this;obtain ⟨y,hy,e2⟩:=kkey kv hkv;exact ⟨y,hy,by rw [← e,e2]⟩
  have kf:kvs.map (·.1)=tb.map λ y=>dat y.1:=by
   have:∀ {H':Hp} {tb:Tb} {kvs:List (PyData × V)},TbAt H' tb kvs->kvs.map (·.1)=tb.map λ y=>dat y.1:=by
    intro H' tb kvs h
    induction h with
    | nil=>rfl
    | cons hz _ ih=>rw [List.map_cons,List.map_cons,ih,hz.1]
   exact this g7.T
  obtain ⟨srt,ps1,ps2⟩:=j_E (f:=λ y:Dd × List Nat=>dat y.1) (l:=ps'.map (·.2)) (tb:=tb) (by rw [← kf]; exact pm);have psl:srt.length=ps'.length:=by have:=congrArg List.length ps2; simpa using this
  have isref:∀ p∈ps',∃ q,p.1=V.ref q:=λ p hp'=>by
   obtain ⟨y,_,e⟩:=mem p hp';have hD':=(hps7 p hp').2;rw [e] at hD';exact n_V hD'
  subst e1;refine st λ N1 e1=>?_;simp only [sFld];refine b_E λ B eB=>?_;simp only [iSeq];refine g_i rfl g7.hx T.cl_z T.h_7 rfl ?_;refine ⟨false,lo,rfl,⟨_,SqB.lst elo7⟩,λ ls hls=>?_⟩;refine c_T (λ j y _=>∃ (p:Addr) (m:Dd × List Nat),y=V.ref p/\srt[j]?=some m/\vT kvs (dat m.1)=some (V.ref p)) hls (SqB.lst elo7) (by rw [zqe]; omega) (λ _ _ _ _ h _=>h) ?_ ?_
  ·intro i y H8 zs ey s8 ez Q' hQ';rw [zH] at ey;cases hp':ps'[i]? with
   | none=>rw [hp'] at ey; cases ey
   | some p =>
    rw [hp'] at ey;cases ey;have hm':=zqb hp';obtain ⟨q,eq⟩:=isref p hm';obtain ⟨yy,hyy,ey2⟩:=mem p hm';obtain ⟨t1,t2⟩:=hps7 p hm';subst eB;show tOp _ _ _ [some p.1,some (.ref wd)] H8 Q';walk_at "r";rw [eq] at t2 ⊢;have g8:=g7.up s8;obtain ⟨p2,ep2⟩:=w_l g8.T yy hyy;rw [← ey2] at ep2;refine o_U g8.D t1 (c_U (b_U s8) 4 t1 t2) ep2 ?_;have hsm:∃ m,srt[i]?=some m/\dat m.1=p.2:=by
     have e:=congrArg (λ l=>l[i]?) ps2;simp only [zH,hp',Option.map_some] at e;cases hm2:srt[i]? with
     | none=>rw [hm2] at e; cases e
     | some m=>rw [hm2] at e; exact ⟨m,rfl,zT e⟩
    obtain ⟨m,em,edm⟩:=hsm;exact hQ' _ _ (Same.refl _) ⟨p2,m,rfl,em,by rw [edm]; exact ep2⟩
  ·intro H8 ys s8 e8 hl8 hr8;have g8:=g7.up s8;have xls:ls≠x:=λ z=>by rw [z,g7.hx] at hls; cases hls
   have kx8:=kx7.trans (KX.same s8);have kx9:KX x H4 (upd H8 x (.ins t.a_z dx [(Str.ofString "dimension",.int d),(Str.ofString "given",.ref lg),(Str.ofString "ordered",.ref lo),(Str.ofString "shortest",.ref ls)])):=kx8.trans KX.put;have els9:(upd H8 x (.ins t.a_z dx [(Str.ofString "dimension",.int d),(Str.ofString "given",.ref lg),(Str.ofString "ordered",.ref lo),(Str.ofString "shortest",.ref ls)])) ls=some (.lst ys):=by rw [a_I xls]; exact e8
   refine ⟨.ref x,rfl,x,_,_,_,rfl,g8.hx,T.cl_z,T.h_5,by show 3 < 1000; decide,?_⟩;have g9:=g8.put [(Str.ofString "dimension",.int d),(Str.ofString "given",.ref lg),(Str.ofString "ordered",.ref lo),(Str.ofString "shortest",.ref ls)];have elo9:(upd H8 x (.ins t.a_z dx [(Str.ofString "dimension",.int d),(Str.ofString "given",.ref lg),(Str.ofString "ordered",.ref lo),(Str.ofString "shortest",.ref ls)])) lo=some (.lst (ps'.map (·.1))):=by rw [a_I xlo]; exact s8 _ _ elo7
   have hps9:∀ p∈ps',tT 4 p.2=true/\Dt K (upd H8 x (.ins t.a_z dx [(Str.ofString "dimension",.int d),(Str.ofString "given",.ref lg),(Str.ofString "ordered",.ref lo),(Str.ofString "shortest",.ref ls)])) p.1 p.2:=λ p hp'=>⟨(hps7 p hp').1,c_U (k_K g8.hx).t 4 (hps7 p hp').1 (c_U (b_U s8) 4 (hps7 p hp').1 (hps7 p hp').2)⟩;show N1 _ (upd H8 x (.ins t.a_z dx [(Str.ofString "dimension",.int d),(Str.ofString "given",.ref lg),(Str.ofString "ordered",.ref lo),(Str.ofString "shortest",.ref ls)]));generalize upd H8 x (.ins t.a_z dx [(Str.ofString "dimension",.int d),(Str.ofString "given",.ref lg),(Str.ofString "ordered",.ref lo),(Str.ofString "shortest",.ref ls)])=H9 at *
   subst e1;simp only [sFld];walk_at "r";refine b_E λ B eB=>?_;simp only [k_X];walk_at "r";refine g_i rfl g9.hx T.cl_z T.h_7 rfl ?_;refine ⟨false,lo,rfl,⟨_,SqB.lst elo9⟩,λ lp hlp=>?_⟩;refine t_W (λ j y H=>∃ p m,y=V.ref p/\p≠lp/\ps'[j]?=some m/\H p=some (.tup [m.1,.int (j:Int)])) hlp (SqB.lst elo9) (by rw [zqe]; omega) (λ _ _ _ _ ⟨p,m,e,n,em,h⟩ sx=>⟨p,m,e,n,em,sx _ _ n h⟩) ?_ ?_
   ·intro i y H10 zs ey s10 ez Q' hQ';rw [zH] at ey;cases hp':ps'[i]? with
    | none=>rw [hp'] at ey; cases ey
    | some p =>
     rw [hp'] at ey;cases ey;subst eB;show tTup _ [some (.int i),some p.1] H10 Q';walk_at "r";refine ⟨by show 2<=sizeLine; decide,λ q hq=>?_⟩;refine hQ' _ _ (Same.new hq) ⟨q,p,rfl,(λ z=>by rw [z,ez] at hq; cases hq),hp',a_F⟩
   ·intro H10 zs s10 e10 hlz hz;obtain ⟨ts,i1,⟨i2,i2'⟩,i3⟩:=o_Y (K:=K) (H:=H10) (ps:=ps') (zs:=zs) (n:=0) (by rw [hlz,zqe]) (λ p hp'=>⟨(hps9 p hp').1,c_U (b_U s10) 4 (hps9 p hp').1 (hps9 p hp').2,isref p hp'⟩) λ j y ej=>by
     obtain ⟨p,m,f1,_,f2,f3⟩:=hz j y ej;exact ⟨p,m,f1,f2,by rw [Nat.zero_add]; exact f3⟩
    have g10:=g9.up s10;have nds:(ps'.map (·.2)).Nodup:=pm.nodup_iff.mpr (by
     rw [kf,show (tb.map λ y=>dat y.1)=(tb.map (·.1)).map dat by rw [List.map_map]; rfl];exact List.Pairwise.map dat (λ a b h e=>h (g_F.mp e)) hnd)
    refine ⟨lp,ts,rfl,by rw [← i1]; exact .inl (.inl e10),i3,by rw [i2]; exact nds,λ ln H11 s11 _ hDn=>?_⟩;have g11:=g10.up s11;refine ⟨_,_,_,g11.hx,T.cl_z,T.h_8,by show 4 < 1000; decide,?_⟩;have t11:=s10.trans s11;have tkx:=k_K (K:=K) (fs':=[(Str.ofString "dimension",.int d),(Str.ofString "given",.ref lg),(Str.ofString "ordered",.ref lo),(Str.ofString "shortest",.ref ls),(Str.ofString "numbers",.ref ln)]) g11.hx;have g12:=g11.put [(Str.ofString "dimension",.int d),(Str.ofString "given",.ref lg),(Str.ofString "ordered",.ref lo),(Str.ofString "shortest",.ref ls),(Str.ofString "numbers",.ref ln)];show Q .non (upd H11 x (.ins t.a_z dx [(Str.ofString "dimension",.int d),(Str.ofString "given",.ref lg),(Str.ofString "ordered",.ref lo),(Str.ofString "shortest",.ref ls),(Str.ofString "numbers",.ref ln)]));have kxl:KX x H11 (upd H11 x (.ins t.a_z dx [(Str.ofString "dimension",.int d),(Str.ofString "given",.ref lg),(Str.ofString "ordered",.ref lo),(Str.ofString "shortest",.ref ls),(Str.ofString "numbers",.ref ln)])):=KX.put;have els12:(upd H11 x (.ins t.a_z dx [(Str.ofString "dimension",.int d),(Str.ofString "given",.ref lg),(Str.ofString "ordered",.ref lo),(Str.ofString "shortest",.ref ls),(Str.ofString "numbers",.ref ln)])) ls=some (.lst ys):=by rw [a_I xls]; exact t11 _ _ els9
    have xln:ln≠x:=λ z=>by
     obtain ⟨_,_,xs,e,_⟩:=hDn;rw [z,g11.hx] at e;cases e
    have hDn12:=DTr.tk hDn tkx (a_I xln);have elo12:(upd H11 x (.ins t.a_z dx [(Str.ofString "dimension",.int d),(Str.ofString "given",.ref lg),(Str.ofString "ordered",.ref lo),(Str.ofString "shortest",.ref ls),(Str.ofString "numbers",.ref ln)])) lo=some (.lst (ps'.map (·.1))):=by rw [a_I xlo]; exact t11 _ _ elo9
    generalize upd H11 x (.ins t.a_z dx [(Str.ofString "dimension",.int d),(Str.ofString "given",.ref lg),(Str.ofString "ordered",.ref lo),(Str.ofString "shortest",.ref ls),(Str.ofString "numbers",.ref ln)])=H12 at *;have kx12:KX x H4 H12:=((kx9.trans (KX.same t11)).trans kxl);have tk12:TK K H H12:=KX.tk (λ b o hb e=>g12.s b o hb e) hx;refine hQ srt H12 g12.s ⟨dx,lg,lo,ls,ln,g12.hx,⟨ps,kx12 _ _ xlg elg,Paired.mapP hp λ _ _ z=>DdAt.tk z tk12⟩,?_,?_,?_⟩ ps1 ?_
    ·obtain ⟨os,j1,j3⟩:=ord_of (K:=K) (H:=H12) (ps:=ps') (srt:=srt) ps2 λ p hp'=>⟨c_U tkx.t 4 (hps9 p hp').1 (c_U (b_U t11) 4 (hps9 p hp').1 (hps9 p hp').2),isref p hp'⟩;exact ⟨os,by rw [elo12,j1],j3⟩
    ·obtain ⟨ws,w1,w2⟩:=t_l (H:=H12) (srt:=srt) (kvs:=kvs) (ys:=ys) (by rw [hl8,zqe,psl]) hr8 λ m hm p e=>u_G (x:=m.1) (w:=m.2) g12.T hnd (ps1.mem_iff.mp hm) e;exact ⟨ws,by rw [← w1]; exact els12,w2⟩
    ·have e2:numT srt 0=ts.map λ t=>(t.2.1,t.2.2.2):=by
      rw [i2'];unfold numT;exact o_Z ps2 0
     rw [e2];exact hDn12
    ·have a2:(ps'.map (·.2)).Pairwise λ p q=>lx (fl q) (fl p)=false:=List.pairwise_map.mpr asc;rw [← ps2] at a2;exact List.pairwise_map.mp a2
noncomputable def Cong (u:Int) (xs ys:List Int):Prop:=xs.length=ys.length/\∀ (i:Nat) (x y:Int),xs[i]?=some x->ys[i]?=some y->u∣x - y
theorem q_E {u x y:Int} (hu:0 < u) (h:u∣x - y):x.fmod u=y.fmod u:=by
 rw [Int.fmod_eq_emod_of_nonneg _ (Int.le_of_lt hu),Int.fmod_eq_emod_of_nonneg _ (Int.le_of_lt hu)];exact Int.emod_eq_emod_iff_emod_sub_eq_zero.mpr (Int.emod_eq_zero_of_dvd h)
theorem Cong.rest {u:Int} (hu:0 < u) (ns:List Int):Cong u ns (e_n u ns):=by
 refine ⟨by simp [e_n],λ i x y e1 e2=>?_⟩;unfold e_n at e2;rw [zH,e1] at e2;cases zT e2;have:=p_L hu x;have h2:=Int.fmod_eq_emod_of_nonneg (x.fmod u - x) (Int.le_of_lt hu);rw [h2] at this;have h3:=Int.dvd_of_emod_eq_zero this;have:=Int.dvd_neg.mpr h3
 rwa [Int.neg_sub] at this
theorem Cong.gl {u:Int} {xs ys:List Int} (h:Cong u xs ys):Cw.gl u xs=Cw.gl u ys:=by
 have half:∀ {xs ys:List Int} {d:Int},Cong u xs ys->d∣u->(∀ t∈xs,d∣t)->∀ t∈ys,d∣t:=λ {xs ys d} h hd hx t ht=>by
  obtain ⟨i,hi,e⟩:=yF ht;have hix:i < xs.length:=by rw [h.1]; exact hi
  have h1:=h.2 i xs[i] t (by simp [hix]) (by simp [hi,e]);have h2:=hx _ (yA hix);have h3:=Int.dvd_sub h2 (Int.dvd_trans hd h1)
  rwa [show xs[i] - (xs[i] - t)=t by omega] at h3
 have sym:Cong u ys xs:=⟨h.1.symm,λ i x y e1 e2=>by
  have:=Int.dvd_neg.mpr (h.2 i y x e2 e1)
  rwa [Int.neg_sub] at this⟩
 exact r_R λ d=>⟨λ ⟨h1,h2⟩=>⟨h1,half h h1 h2⟩,λ ⟨h1,h2⟩=>⟨h1,half sym h1 h2⟩⟩
theorem Cong.red {u:Int} {xs ys:List Int} (hu:0 < u) (h:Cong u xs ys):redU u xs=redU u ys/\e_n (redU u xs) (redT u xs)=e_n (redU u ys) (redT u ys):=by
 have hg:=h.gl;have hc:cs u xs=cs u ys:=by unfold cs; rw [hg]
 have hne:=g_z xs (show u≠0 by omega);have hU:redU u xs=redU u ys:=by unfold redU; rw [hc]
 refine ⟨hU,?_⟩;have hpos:0 < redU u xs:=g_V xs (by omega);have eU:redU u xs*cs u xs=u:=b_Z hne (d_U (gl_u u xs));rw [← hU];unfold e_n redT;refine yG (by simp [h.1]) λ i h1 h2=>?_;simp at h1 h2;simp only [List.getElem_map];have hx:=h.2 i xs[i] ys[i] (by simp [h1]) (by simp [h2]);have key:∀ x y:Int,u∣x - y->cs u xs∣x->cs u ys∣y->redU u xs∣x.fdiv (cs u xs) - y.fdiv (cs u ys):=λ x y hxy d1 d2=>by
  have e1:x.fdiv (cs u xs)*cs u xs=x:=b_Z hne d1;rw [← hc] at d2 ⊢;have e2:y.fdiv (cs u xs)*cs u xs=y:=b_Z hne d2;refine Int.dvd_of_mul_dvd_mul_right hne ?_;rw [eU,Int.sub_mul,e1,e2];exact hxy
 exact q_E hpos (key _ _ hx (d_U (g_U (yA h1))) (d_U (g_U (yA h2))))
theorem m_E {u:Int}:∀ (r ts ts':List Int),Cong u ts ts'->u∣dotI r ts - dotI r ts'
 | [],ts,ts',_=>by simp [dotI]
 | x :: r,[],ts',h=>by
  have:ts'=[]:=zO h.1.symm;subst this;simp [dotI]
 | x :: r,t :: ts,[],h=>by have:=h.1; simp at this
 | x :: r,t :: ts,t' :: ts',h=>by
  have ih:=m_E r ts ts' ⟨by have:=h.1; simpa using this,λ i a b e1 e2=>h.2 (i+1) a b (by simpa using e1) (by simpa using e2)⟩;have h0:=h.2 0 t t' rfl rfl;have e1:dotI (x :: r) (t :: ts)=x*t+dotI r ts:=by simp [dotI]
  have e2:dotI (x :: r) (t' :: ts')=x*t'+dotI r ts':=by simp [dotI]
  rw [e1,e2,show x*t+dotI r ts - (x*t'+dotI r ts')=x*(t - t')+(dotI r ts - dotI r ts') by rw [Int.mul_sub]; omega];exact Int.dvd_add (Int.dvd_mul_of_dvd_right h0) ih
theorem t_m {N:LM} {ns ts ns' ts':List Int} {v u:Int} (h1:Cong v ns ns') (h2:Cong u ts ts'):Cong (v*u) (movT N ns v ts u) (movT N ns' v ts' u):=by
 refine ⟨by unfold movT; rw [List.length_zipWith,List.length_zipWith,h1.1],λ i x y e1 e2=>?_⟩;unfold movT at e1 e2;rw [List.getElem?_zipWith] at e1 e2;cases en:N[i]? with
 | none=>rw [en] at e1; cases e1
 | some r =>
  rw [en] at e1 e2;cases e3:ns[i]? with
  | none=>rw [e3] at e1; cases e1
  | some n =>
   cases e4:ns'[i]? with
   | none=>rw [e4] at e2; cases e2
   | some n' =>
    rw [e3] at e1;rw [e4] at e2;cases zT e1;cases zT e2;obtain ⟨k,hk⟩:=m_E r ts ts' h2;obtain ⟨m,hm⟩:=h1.2 i n n' e3 e4;refine ⟨k+m,?_⟩;have a1:dotI r ts=dotI r ts'+u*k:=by omega
    have a2:n=n'+v*m:=by omega
    rw [a1,a2];grind
theorem t_n {d:Nat} {x s:Dd} (hx:0 < x.2.2) (hs:0 < s.2.2):a_W (behD d x s)=d_z d (a_W x) (a_W s):=by
 obtain ⟨h1,h2⟩:=Cong.red (Int.mul_pos hs hx) (t_m (N:=s.1) (Cong.rest hs s.2.1) (Cong.rest hx x.2.1));unfold d_z a_W behD;show (_,_,_)=(_,_,_);rw [Prod.mk.injEq,Prod.mk.injEq];exact ⟨rfl,h2,h1⟩
noncomputable def g_H:Dd:=([[-1,0],[0,-1]],[0,0],1)
noncomputable def i_L:Dd:=([[-1,0],[0,1]],[0,0],1)
noncomputable def g_I:Dd:=([[0,1],[1,0]],[0,0],1)
noncomputable def n_W:Dd:=([[0,-1],[-1,0]],[0,0],1)
noncomputable def g_j:Dd:=([[0,-1],[1,0]],[0,0],1)
noncomputable def g_k:Dd:=([[0,-1],[1,-1]],[0,0],1)
noncomputable def i_M:Dd:=([[1,-1],[1,0]],[0,0],1)
noncomputable def p_a:Dd:=([[-1,0],[0,1]],[0,1],2)
noncomputable def p_b:Dd:=([[-1,0],[0,1]],[1,0],2)
noncomputable def h_R:Dd:=([[-1,0],[0,1]],[1,1],2)
noncomputable def v_e:Dd:=([[1,0],[0,-1]],[0,0],1)
noncomputable def tgL:List (List Dd):=[[],[g_H],[i_L],[p_a],[g_I],[i_L,v_e],[g_H,p_b],[g_H,h_R],[g_H,g_I],[g_j],[g_j,i_L],[g_j,h_R],[g_k],[g_k,n_W],[g_k,g_I],[i_M],[i_M,g_I]]
noncomputable def mkT:List (List Str):=[[],["-x,-y"],["-x,y"],["-x,y+1/2"],["y,x"],["-x,y","x,-y"],["-x,-y","-x+1/2,y"],["-x,-y","-x+1/2,y+1/2"],["-x,-y","y,x"],["-y,x"],["-y,x","-x,y"],["-y,x","-x+1/2,y+1/2"],["-y,x-y"],["-y,x-y","-y,-x"],["-y,x-y","y,x"],["x-y,x"],["x-y,x","y,x"]]
noncomputable def tgM (i:Nat):List Dd:=tgL.getD i []
noncomputable def tgT (i:Nat):List Str:=mkT.getD i []
noncomputable def n_X (l:List Int):Bool:=l.all λ z=>decide (z.natAbs < 100)
noncomputable def m_F (d:Nat) (x:Dd):Bool:=decide (x.1.length=d) && x.1.all (λ r=>decide (r.length=d) && n_X r) && decide (x.2.1.length=d) && n_X x.2.1 && decide (0 < x.2.2) && decide (x.2.2 < 100)
theorem f_W {d:Nat} {x:Dd} (h:m_F d x=true):e_E d x:=by
 simp only [m_F,Bool.and_eq_true,decide_eq_true_eq,List.all_eq_true,n_X] at h;obtain ⟨⟨⟨⟨⟨h1,h2⟩,h3⟩,h4⟩,h5⟩,h6⟩:=h;have big:∀ z:Int,z.natAbs < 100->z.natAbs < 2 ^ 200000:=λ z hz=>zI (show z.natAbs < 2 ^ 7 by omega) (zM (by decide) (by decide));exact ⟨⟨h1,λ r hr=>(h2 r hr).1⟩,h3,h5,λ r hr z hz=>big z ((h2 r hr).2 z hz),λ z hz=>big z (h4 z hz),Int.lt_of_lt_of_le h6 (by decide +kernel)⟩
noncomputable def clo (i:Nat):Tb:=c_B 2 ((tgM i).map a_W) 12 0 [(b_K 2,[])]
noncomputable def insT (x:Dd × List Nat):Tb->Tb
 | []=>[x]
 | y :: l=>if lx (fl (dat x.1)) (fl (dat y.1))=true then x :: y :: l else y :: insT x l
noncomputable def tgS (i:Nat):Tb:=(clo i).foldr insT []
theorem j_F (x:Dd × List Nat):∀ l:Tb,(insT x l).Perm (x :: l)
 | []=>.refl _
 | y :: l=>by
  unfold insT;split
  ·exact .refl _
  ·exact (List.Perm.cons y (j_F x l)).trans (List.Perm.swap x y l)
theorem i_N:∀ l:Tb,(l.foldr insT []).Perm l
 | []=>.refl _
 | x :: l=>(j_F x _).trans (List.Perm.cons x (i_N l))
theorem i_O (i:Nat):(tgS i).Perm (clo i):=i_N _
noncomputable def memG (i:Nat) (x:Dd):Bool:=((clo i).map (·.1)).contains x
noncomputable def ascB:Tb->Bool
 | []=>true
 | x :: l=>(l.all λ y=>lx (fl (dat x.1)) (fl (dat y.1))) && ascB l
noncomputable def tgOk (i:Nat):Bool:=(tgM i).all (m_F 2) && (tgM i).all (λ s=>m_F 2 (a_W s)) && (clo i).all (λ y=>m_F 2 y.1) && memG i (b_K 2) && (clo i).all (λ y=>(tgM i).all λ s=>memG i (d_z 2 y.1 (a_W s))) &&
 decide ((clo i).length<=12) && ascB (tgS i)
theorem w_m:(List.range 17).all tgOk=true:=by decide +kernel
theorem t_o {i:Nat} (hi:i < 17):tgOk i=true:=List.all_eq_true.mp w_m i (List.mem_range.mpr hi)
theorem w_n (l:List Int):lx l l=false:=by
 unfold lx;exact zX (List.lt_irrefl l)
theorem p_c {a b:List Int} (h:lx a b=true):lx b a=false:=by
 unfold lx at *;exact zX (List.lt_asymm (zY h))
theorem k_L:∀ {l:Tb},ascB l=true->l.Pairwise λ p q=>lx (fl (dat p.1)) (fl (dat q.1))=true
 | [],_=>.nil
 | x :: l,h=>by
  simp only [ascB,Bool.and_eq_true,List.all_eq_true] at h;exact .cons (λ y hy=>h.1 y hy) (k_L h.2)
theorem t_p {l:Tb} (h:ascB l=true):(l.map (·.1)).Nodup:=by
 refine List.pairwise_map.mpr ((k_L h).imp λ {p q} hl e=>?_);rw [e,w_n] at hl;cases hl
theorem w_o {i:Nat} (hi:i < 17) {srt:Tb} (pm:srt.Perm (clo i)) (asc:srt.Pairwise λ p q=>lx (fl (dat q.1)) (fl (dat p.1))=false):srt=tgS i:=by
 have ok:=t_o hi;simp only [tgOk,Bool.and_eq_true] at ok;have pw:=k_L ok.2;have p2:srt.Perm (tgS i):=pm.trans (i_O i).symm;refine List.Perm.eq_of_pairwise (le:=λ p q=>lx (fl (dat q.1)) (fl (dat p.1))=false) (λ a b ha hb h1 h2=>?_) asc (pw.imp λ h=>p_c h) p2
 -- two members of the sorted table that neither goes ahead are one
 have hA:=p2.mem_iff.mp ha;have key:∀ {l:Tb},(l.Pairwise λ p q=>lx (fl (dat p.1)) (fl (dat q.1))=true)->∀ a∈l,∀ b∈l,lx (fl (dat b.1)) (fl (dat a.1))=false->lx (fl (dat a.1)) (fl (dat b.1))=false->a=b:=by
  intro l hl
  induction hl with
  | nil=>intro a ha; cases ha
  | @cons x l hx _ ih =>
   intro a ha b hb h1 h2;rcases List.mem_cons.mp ha with ea | ha'
   ·rcases List.mem_cons.mp hb with eb | hb'
    ·rw [ea,eb]
    ·rw [ea,hx b hb'] at h2; cases h2
   ·rcases List.mem_cons.mp hb with eb | hb'
    ·rw [eb,hx a ha'] at h1; cases h1
    ·exact ih a ha' b hb' h1 h2
 exact key pw a hA b hb h1 h2
noncomputable def rdD (x:Str):Dd:=(matG (Txt.split x b_A),lawT (prsG (Txt.split x b_A)),lawU (prsG (Txt.split x b_A)))
noncomputable def rdB (x:Str):Bool:=decide (x.length<=3000) && (Txt.split x b_A).all (λ y=>decide (y.length<=1400)) && decide ((Txt.split x b_A).length=2) && (Txt.split x b_A).all (λ y=>(d_G (Txt.split x b_A).length y).isSome) && (decide (detM (Txt.split x b_A).length (matG (Txt.split x b_A))=1) || decide (detM (Txt.split x b_A).length (matG (Txt.split x b_A))=-1))
noncomputable def rdOk (i:Nat):Bool:=(tgT i).all rdB && decide ((tgT i).map rdD=tgM i) && decide ((tgM i).length<=2)
theorem w_p:(List.range 17).all rdOk=true:=by decide +kernel
theorem w_O {i:Nat} (hi:i < 17):(∀ x∈tgT i,rdB x=true)/\(tgT i).map rdD=tgM i/\(tgM i).length<=2:=by
 have:=List.all_eq_true.mp w_p i (List.mem_range.mpr hi);simp only [rdOk,Bool.and_eq_true,List.all_eq_true,decide_eq_true_eq] at this;exact ⟨this.1.1,this.1.2,this.2⟩
theorem w_P {x:Str} (h:rdB x=true):x.length<=3000/\(∀ y∈Txt.split x b_A,y.length<=1400)/\okR (Txt.split x b_A)/\(detM (Txt.split x b_A).length (matG (Txt.split x b_A))=1\/detM (Txt.split x b_A).length (matG (Txt.split x b_A))=-1):=by
 simp only [rdB,Bool.and_eq_true,Bool.or_eq_true,decide_eq_true_eq,List.all_eq_true] at h;obtain ⟨⟨⟨⟨h1,h2⟩,h3⟩,h4⟩,h5⟩:=h;exact ⟨h1,h2,⟨.inl h3,λ y hy=>Option.isSome_iff_exists.mp (h4 y hy)⟩,h5⟩
noncomputable def sp_e (K:Frag) (t:Adr) (C:Addr):Sp:=λ vs H Q E=>∃ n:Int,vs=[.int n]/\((n < 1\/17 < n)->E (.ref C) none H)/\∀ i:Nat,n=i+1->i < 17->∀ g H',Same H H'->GrpF K t H' g 2 (tgM i) (tgS i)->Q (.ref g) H'
theorem GrpF.up {H H':Hp} {g:Addr} {d:Nat} {ms:List Dd} {srt:Tb} (h:GrpF K t H g d ms srt) (s:Same H H'):GrpF K t H' g d ms srt:=by
 obtain ⟨dx,lg,lo,ls,ln,h1,⟨gs,h2,h3⟩,⟨os,h4,h5⟩,⟨ws,h6,h7⟩,h8⟩:=h;exact ⟨dx,lg,lo,ls,ln,s _ _ h1,⟨gs,s _ _ h2,Paired.mapP h3 λ _ _ z=>z.up s⟩,⟨os,s _ _ h4,Paired.mapP h5 λ _ x z=>c_U (b_U s) 4 (d_E x.1) z⟩,⟨ws,s _ _ h6,Paired.mapP h7 λ _ _ z=>s _ _ z⟩,h8.up s⟩
noncomputable def sp_m (K:Frag) (t:Adr):Sp:=λ vs H Q _=>∃ (g:Addr) (d:Nat) (ms:List Dd) (srt:Tb),vs=[.ref g]/\GrpF K t H g d ms srt/\Q (.int d) H
noncomputable def sp_7 (K:Frag) (t:Adr):Sp:=λ vs H Q _=>∃ (g:Addr) (d:Nat) (ms:List Dd) (srt:Tb),vs=[.ref g]/\GrpF K t H g d ms srt/\∀ l gs H',Same H H'->H l=none->H' l=some (.lst (gs.map V.ref))->Paired (DdAt K H') gs ms->Q (.ref l) H'
noncomputable def sp_3 (K:Frag) (t:Adr):Sp:=λ vs H Q _=>∃ (g:Addr) (d:Nat) (ms:List Dd) (srt:Tb),vs=[.ref g]/\GrpF K t H g d ms srt/\∀ l os H',Same H H'->H l=none->H' l=some (.lst (os.map V.ref))->Paired (λ p x=>Dt K H' (.ref p) (dat x.1)) os srt->Q (.ref l) H'
noncomputable def sp_d (K:Frag) (t:Adr):Sp:=λ vs H Q _=>∃ (g:Addr) (d:Nat) (ms:List Dd) (srt:Tb),vs=[.ref g]/\GrpF K t H g d ms srt/\srt.length<=200/\∀ l ws H',Same H H'->H l=none->H' l=some (.lst (ws.map V.ref))->Paired (λ p (x:Dd × List Nat)=>H' p=some (.lst (x.2.map λ n=>V.int (n:Nat)))) ws srt->Q (.ref l) H'
noncomputable def sp_s (K:Frag) (t:Adr):Sp:=λ vs H Q _=>∃ (g p:Addr) (d:Nat) (ms:List Dd) (srt:Tb) (x:Dd),vs=[.ref g,.ref p]/\GrpF K t H g d ms srt/\DdAt K H p x/\x.1.length<=100/\x.2.1.length<=100/\0 < x.2.2/\∀ H',Same H H'->Q ((vT (numT srt 0) (dat (a_W x))).getD .non) H'
theorem ok_m (T:Txt K mg t):FnOk P w K mg base CX0 2 t.a_m t.d_m pw' (sp_m K t):=by
 refine T.F_m.ok sc_m (by walk_at "v") (λ cdv A outer s H vs Q E hr h=>?_)
 ·obtain ⟨g,d,ms,srt,rfl,⟨dx,lg,lo,ls,ln,h1,_⟩,hQ⟩:=h;refine ⟨_,(a_G (a_N (g_d (pv 0) rfl))),?_⟩;show tRet _ _ [some (.ref g)] H;simp only [tRet];exact g_i rfl h1 T.cl_z T.h_4 rfl hQ
theorem ok_7 (T:Txt K mg t):FnOk P w K mg base CX0 2 t.a_7 t.d_7 pw' (sp_7 K t):=by
 refine T.F_7.ok sc_7 (by walk_at "v") (λ cdv A outer s H vs Q E hr h=>?_)
 ·obtain ⟨g,d,ms,srt,rfl,⟨dx,lg,lo,ls,ln,h1,⟨gs,h2,h3⟩,_⟩,hQ⟩:=h;refine ⟨_,(a_G (a_N (b_Q d_K rfl T.z_list (by decide +kernel) (a_A (g_d (pv 0) rfl) a_C)))),?_⟩;show tRet _ _ [some (.ref g)] H;simp only [tRet,tCB,b_X,tNil];refine g_i rfl h1 T.cl_z T.h_h rfl ?_;refine ⟨false,lg,_,rfl,SqB.lst h2,λ l hl=>?_⟩;exact hQ l gs _ (Same.new hl) hl a_F (Paired.mapP h3 λ _ _ z=>z.up (Same.new hl))
theorem ok_3 (T:Txt K mg t):FnOk P w K mg base CX0 2 t.a_3 t.d_3 pw' (sp_3 K t):=by
 refine T.F_3.ok sc_3 (by walk_at "v") (λ cdv A outer s H vs Q E hr h=>?_)
 ·obtain ⟨g,d,ms,srt,rfl,⟨dx,lg,lo,ls,ln,h1,_,⟨os,h4,h5⟩,_⟩,hQ⟩:=h;refine ⟨_,(a_G (a_N (b_Q d_K rfl T.z_list (by decide +kernel) (a_A (g_d (pv 0) rfl) a_C)))),?_⟩;show tRet _ _ [some (.ref g)] H;simp only [tRet,tCB,b_X,tNil];refine g_i rfl h1 T.cl_z T.h_7 rfl ?_;refine ⟨false,lo,_,rfl,SqB.lst h4,λ l hl=>?_⟩;exact hQ l os _ (Same.new hl) hl a_F (Paired.mapP h5 λ _ x z=>c_U (b_U (Same.new hl)) 4 (d_E x.1) z)
noncomputable def WdR (a:Addr) (srt:Tb) (j:Nat) (y:V) (H:Hp):Prop:=∃ p m,y=V.ref p/\p≠a/\srt[j]?=some m/\H p=some (.lst (m.2.map λ n=>V.int ((n:Nat):Int)))
theorem p_d {a:Addr} {H:Hp}:∀ {srt:Tb} {ys:List V},ys.length=srt.length->(∀ (j:Nat) y,ys[j]?=some y->WdR a srt j y H)->∃ ws:List Addr,ys=ws.map V.ref/\Paired (λ p (x:Dd × List Nat)=>H p=some (.lst (x.2.map λ n=>V.int (n:Nat)))) ws srt
 | [],[],_,_=>⟨[],rfl,.nil⟩
 | m :: srt,y :: ys,hl,h=>by
  obtain ⟨p,m',e1,_,e2,e3⟩:=h 0 y rfl;cases e2;obtain ⟨ws,w1,w2⟩:=p_d (a:=a) (H:=H) (srt:=srt) (ys:=ys) (by simpa using hl) λ j y' ej=>by
   obtain ⟨p,m',f1,f0,f2,f3⟩:=h (j+1) y' (by simpa using ej);exact ⟨p,m',f1,f0,by simpa using f2,f3⟩
  exact ⟨p :: ws,by rw [e1,w1]; rfl,.cons e3 w2⟩
theorem ok_d (T:Txt K mg t):FnOk P w K mg base CX0 2 t.a_d t.d_d pw' (sp_d K t):=by
 refine T.F_d.ok sc_d (by walk_at "v") (λ cdv A outer s H vs Q E hr h=>?_)
 ·obtain ⟨g,d,ms,srt,rfl,⟨dx,lg,lo,ls,ln,h1,_,_,⟨ws,h6,h7⟩,_⟩,h200,hQ⟩:=h;refine ⟨_,(a_G (a_N (b_L (xs:=["word"]) (fr:=[]) (g:=(a_T 0)) (tt:=(tEl (tCB (j_S K) (b_X (tVar 0) tNil)))) (b_D (sc:=a_B s_d) (N:=N_d) rfl rfl (by decide +kernel)) rfl (b_W (g_d (pv 0) rfl)) (λ _ _ _ hE1=>(b_T (N:=["word"]) (i:=0) hE1 rfl (by decide +kernel))) (λ _ _ _ hE1=>(c_R (b_Q d_K rfl T.z_list (by decide +kernel) (a_A (pv 0) a_C))))))),?_⟩;show tRet _ _ [some (.ref g)] H;simp only [tRet];refine b_E λ B eB=>?_;simp only [iSeq];refine g_i rfl h1 T.cl_z T.h_5 rfl ?_;have hl7:ws.length=srt.length:=a_Q h7;refine ⟨false,ls,rfl,⟨_,SqB.lst h6⟩,λ l hl=>?_⟩;refine c_T (WdR l srt) hl (SqB.lst h6) (by rw [zqe]; omega) (λ _ _ _ _ ⟨p,m,e,n,em,h⟩ sx=>⟨p,m,e,n,em,sx _ _ n h⟩) ?_ ?_
  ·intro i y H8 zs ey s8 ez Q' hQ';rw [zH] at ey;cases hp':ws[i]? with
   | none=>rw [hp'] at ey; cases ey
   | some p =>
    rw [hp'] at ey;cases ey;obtain ⟨m,em,hm⟩:=b_S h7 hp';subst eB;show tCB _ _ [some (.ref p)] H8 Q';simp only [tCB,b_X,tNil,tVar];refine ⟨_,rfl,false,p,_,rfl,SqB.lst (s8 _ _ hm),λ q hq=>?_⟩;exact hQ' _ _ (Same.new hq) ⟨q,m,rfl,(λ z=>by rw [z,ez] at hq; cases hq),em,a_F⟩
  ·intro H8 ys s8 e8 hl8 hr8;obtain ⟨ws',w1,w2⟩:=p_d (by rw [hl8,zqe,hl7]) hr8;exact hQ l ws' H8 s8 hl (by rw [e8,w1]) w2
theorem ok_s (T:Txt K mg t):FnOk P w K mg base CX0 3 t.a_s t.d_s pq' (sp_s K t):=by
 have G_16:=@ok_16 P w K mg base t T;refine T.F_s.ok sc_s (by walk_at "v") (λ cdv A outer s H vs Q E hr h=>?_)
 ·have hu:=hr.units;obtain ⟨g,p,d,ms,srt,x,rfl,⟨dx,lg,lo,ls,ln,h1,_,_,_,h8⟩,hx,hx1,hx2,hx3,hQ⟩:=h;refine ⟨_,(a_G (a_N (v_M (T := "") PySem.F.plainAttrs_dict PySem.F.slot_dict_get PySem.F.type_dict_get (u_g hu) (g_d (pv 0) rfl) (a_A (a_P G_16 hr.mo rfl T.m_16 T.F_16.kp T.b_16 .nil b_B (a_A (pv 1) a_C)) a_C)))),?_⟩;show tRet _ _ [some (.ref g),some (.ref p)] H;simp only [tRet,tBMR];refine g_i rfl h1 T.cl_z T.h_8 rfl ?_;refine ⟨⟨ln,_,rfl,h8⟩,?_⟩;walk_at "r";refine ⟨p,x.1,x.2.1,x.2.2,rfl,hx,hx1,hx2,hx3,λ r H2 s2 hr2=>?_⟩;have hr2':DdAt K H2 r (a_W x):=hr2;exact ⟨ln,_,r,dat (a_W x),rfl,rfl,h8.up s2,d_E _,hr2'.dt,hQ H2 s2⟩
theorem ok_e (T:Txt K mg t):FnOk P w K mg base (CX1 P w) 15 t.a_e t.d_e ["number"] (sp_e K t t.a_15):=by
 have G_0:=@ok_0 P w K mg base t T;have G_17:=@ok_17 P w K mg base t T;refine T.F_e.okX sc_e (λ vs H Q E h=>?_) (λ cdv A outer s H vs Q E hr h=>?_)
 ·obtain ⟨n,rfl,_⟩:=h;rfl
 ·obtain ⟨n,rfl,hE,hQ⟩:=h;obtain ⟨bs,hb,hbl,hbr⟩:=p_G (rows:=mkT) T.h_i (by decide) (by decide);have hbl':bs.length=17:=hbl;refine ⟨_,(a_D (b_G (PW.pt (d_N (a_K f_X (pv 0) a_E (a_U _)) (d_H (a_K h_X (pv 0) (a_O b_C rfl T.z_len (by decide +kernel) (a_A (f_K (v:=.ref t.a_MAKERS) rfl T.m_MAKERS rfl) a_C)) (a_U _)))))
   (a_G (b_V rfl b_F rfl T.m_15 T.x_15 PySem.F.excBase_ValueError (a_A b_O a_C)))
   a_S)
   (a_G (a_N (t_M (C:=t.a_z) (T.mk_z) G_0 hr.mo rfl T.m_z T.bd_Group___init__ (dvs:=[.int 200]) (.cons ⟨_,rfl⟩ .nil) b_B (a_A a_E (a_A (b_L (xs:=["text"]) (fr:=[]) (g:=(a_T 0)) (tt:=(tEl (e_u (sp_17 K t.a_1b) [] E0 (b_X (tVar 0) tNil)))) (b_D (sc:=a_B s_e) (N:=N_e) rfl rfl (by decide +kernel)) rfl (b_W (a_J ix_B (f_K (v:=.ref t.a_MAKERS) rfl T.m_MAKERS rfl) (a_Z h_W (pv 0) a_E) (λ _ _=>rfl))) (λ _ _ _ hE1=>(b_T (N:=["text"]) (i:=0) hE1 rfl (by decide +kernel))) (λ _ _ _ hE1=>(c_R (a_P G_17 hr.mo rfl T.m_17 T.F_17.kp T.b_17 .nil f_O (a_A (pv 0) a_C))))) a_C)))))),?_⟩
  show tSeq _ _ _ [some (.int n)] H;refine st λ N1 e1=>?_;simp only [b_Y];walk_at "r"
  by_cases hn1:n < 1
  ·rw [zW hn1];exact iteT ⟨by decide,hE (.inl hn1)⟩
  rw [zX hn1];refine iteF ⟨true,_,_,rfl,hb H,?_⟩
  try walk_at "r"
  rw [zqe,hbl']
  by_cases hn2:17 < n
  ·rw [zW (show ((17:Nat):Int) < n by omega)];exact iteT ⟨by decide,hE (.inr hn2)⟩
  rw [zX (show ¬ ((17:Nat):Int) < n by omega)];refine iteF ?_;obtain ⟨i,hi⟩:∃ i:Nat,n=i+1:=⟨(n - 1).toNat,by omega⟩;have hi17:i < 17:=by omega
  subst hi;subst e1;walk_at "r";simp only [u_R];walk_at "r";refine b_E λ B eB=>?_;simp only [iSeq];walk_at "r";obtain ⟨b0,eb0⟩:∃ b0,bs[i]?=some b0:=⟨_,zqd (by omega)⟩;have hmk:mkT[i]?=some (tgT i):=by
   unfold tgT;rw [zqc,zqd (show i < mkT.length from hi17)];rfl
  have hT:=hbr _ b0 _ eb0 hmk;obtain ⟨rd1,rd2,rd3⟩:=w_O hi17;have hl2:(tgT i).length=(tgM i).length:=by rw [← rd2,zqe]
  refine ⟨true,_,_,_,_,rfl,rfl,hb H,a_V (k:=i) (by rw [zH,eb0]; rfl) (by omega),?_⟩;refine ⟨true,b0,rfl,⟨_,hT H⟩,λ a1 ha1=>?_⟩;refine c_T (DdR K a1 (tgM i)) ha1 (hT H) (by rw [zqe]; omega) DdR.mono ?_ ?_
  ·intro j x H1 zs ex s1 ez Q' hQ';rw [zH] at ex;cases hx:(tgT i)[j]? with
   | none=>rw [hx] at ex; cases ex
   | some tx =>
    rw [hx] at ex;cases ex;obtain ⟨r1,r2,r3,r4⟩:=w_P (rd1 tx (zqb hx));have em:(tgM i)[j]?=some (rdD tx):=by rw [← rd2,zH,hx]; rfl
    subst eB;show e_u _ _ _ _ [some (.str tx)] H1 Q';walk_at "r";refine ⟨tx,rfl,r1,r2,r3,r4,λ q H2 s2 hq=>?_⟩;refine hQ' _ _ s2 ⟨q,rdD tx,rfl,em,?_⟩;exact DdAt.tk (show DdAt K H2 q (rdD tx) from hq) (o_V (s2 _ _ ez))
  ·intro H1 ys s1 e1' hl1 hr1;obtain ⟨qs,rfl,hqs⟩:=k_I (by rw [hl1,zqe]; exact hl2) hr1;intro x dx hx hdx hne;have ok:=t_o hi17;simp only [tgOk,Bool.and_eq_true,decide_eq_true_eq,List.all_eq_true] at ok;obtain ⟨⟨⟨⟨⟨⟨o1,o2⟩,o3⟩,o4⟩,o5⟩,o6⟩,o7⟩:=ok;have s2:Same H1 (upd (upd H1 dx (.own x)) x (.ins t.a_z dx [])):=(Same.new hdx).trans (Same.new (by rw [a_I (Ne.symm hne)]; exact hx));have mem:∀ y,memG i y=true->∃ z∈clo i,z.1=y:=λ y hy=>by
    have:y∈(clo i).map (·.1):=by simpa [memG] using hy
    exact List.mem_map.mp this
   have nd:((clo i).map (·.1)).Nodup:=((i_O i).map (·.1)).nodup_iff.mp (t_p o7);refine ⟨false,2,a1,x,dx,qs,tgM i,(λ y=>memG i y=true),12,rfl,a_F,.inl rfl,SqB.lst (s2 _ _ e1'),Paired.mapP hqs λ _ _ z=>z.up s2,by omega,λ s hs=>f_W (o1 s hs),λ s hs=>f_W (o2 s hs),
    λ y hy=>?_,o4,λ y s hy hs=>?_,zS o6 (by decide),o6,λ y hy=>f_W (o3 y hy),nd,λ srt H3 s3 hg pm asc=>⟨rfl,?_⟩⟩
   ·obtain ⟨z,hz,rfl⟩:=mem y hy;exact f_W (o3 z hz)
   ·obtain ⟨z,hz,rfl⟩:=mem y hy;exact o5 z hz s hs
   rw [w_o hi17 pm asc] at hg;refine hQ i rfl hi17 x H3 (λ b o e=>s3 b o (λ z=>?_) (s2 _ _ (s1 _ _ e))) hg;rw [z] at e;rw [s1 _ _ e] at hx;cases hx
noncomputable def LstD (K:Frag) (H:Hp) (l:Addr) (ms:List Dd):Prop:=∃ gs:List Addr,H l=some (.lst (gs.map V.ref))/\Paired (DdAt K H) gs ms
theorem LstD.up {H H':Hp} {l:Addr} {ms:List Dd} (h:LstD K H l ms) (s:Same H H'):LstD K H' l ms:=let ⟨gs,h1,h2⟩:=h; ⟨gs,s _ _ h1,Paired.mapP h2 λ _ _ z=>z.up s⟩
noncomputable def MemD (K:Frag) (H:Hp) (l:Addr) (srt:Tb):Prop:=∃ os:List Addr,H l=some (.lst (os.map V.ref))/\Paired (λ p x=>Dt K H (.ref p) (dat x.1)) os srt
theorem MemD.up {H H':Hp} {l:Addr} {srt:Tb} (h:MemD K H l srt) (s:Same H H'):MemD K H' l srt:=let ⟨os,h1,h2⟩:=h; ⟨os,s _ _ h1,Paired.mapP h2 λ _ x z=>c_U (b_U s) 4 (d_E x.1) z⟩
noncomputable def sp_n (K:Frag):Sp:=λ vs H Q _=>∃ i:Nat,vs=[.int (i+1)]/\i < 17/\∀ l H',Same H H'->LstD K H' l (tgM i)->Q (.ref l) H'
structure Wee (B:Nat) (x:Dd):Prop where
 sq:Sq 2 x.1
 len:x.2.1.length=2
 pos:0 < x.2.2
 m:∀ r∈x.1,∀ z∈r,z.natAbs<=1
 t:∀ z∈x.2.1,z.natAbs < 2 ^ B
 u:x.2.2 < 2 ^ B
noncomputable abbrev DdV (K:Frag) (H:Hp) (p:Addr) (x:Dd):Prop:=Dt K H (.ref p) (dat x)
theorem DdV.up {H H':Hp} {p:Addr} {x:Dd} (h:DdV K H p x) (s:Same H H'):DdV K H' p x:=c_U (b_U s) 4 (d_E x) h
theorem i_P:∀ {ns:List Int} {xs:List V} {H:Hp},Dts K H xs (ns.map PyData.int)->xs=ns.map V.int
 | [],_,_,.nil=>rfl
 | n :: ns,_,_,.cons (.int _) h=>by rw [List.map_cons,← i_P h]
theorem m_G:∀ {M:LM} {xs:List V} {H:Hp},Dts K H xs (M.map (e_f true))->∃ ps:List Addr,xs=ps.map V.ref/\ps.length=M.length/\∀ (i:Nat) (p:Addr) (r:List Int),ps[i]?=some p->M[i]?=some r->SqB true K H p (r.map V.int)
 | [],_,_,.nil=>⟨[],rfl,rfl,λ i p r e=>by simp at e⟩
 | r :: M,_,H,.cons (x:=x) (xs:=xs) h1 h2=>by
  obtain ⟨ps,e1,e2,e3⟩:=m_G (M:=M) h2;have h1':Dt K H x (.tuple (r.map PyData.int)):=h1;cases h1' with
  | @tup a ys ds hq hd =>
   refine ⟨a :: ps,by rw [e1]; rfl,by simp [e2],λ i p r' ep er=>?_⟩;cases i with
   | zero=>cases ep; cases er; rw [← i_P hd]; exact hq
   | succ i=>exact e3 i p r' (by simpa using ep) (by simpa using er)
theorem q_F {H:Hp} {p:Addr} {M:LM} (h:Dt K H (.ref p) (matD true true M)):MatB true true K H p M:=by
 have h':Dt K H (.ref p) (.tuple (M.map (e_f true))):=h;cases h' with
 | @tup a xs ds hq hd =>
  obtain ⟨ps,e1,e2,e3⟩:=m_G hd;exact ⟨ps,by rw [← e1]; exact hq,e2,e3⟩
theorem g_J {H:Hp} {p:Addr} {x:Dd} (h:DdV K H p x):∃ v0 v1,SqT K H p [.ref v0,.ref v1,.int x.2.2]/\MatB true true K H v0 x.1/\SqT K H v1 (x.2.1.map V.int):=by
 have h':Dt K H (.ref p) (.tuple [matD true true x.1,e_f true x.2.1,.int x.2.2]):=h;cases h' with
 | @tup a xs ds hq hd =>
  cases hd with
  | @cons y ys d ds h1 h2 =>
   cases h2 with
   | @cons y2 ys2 d2 ds2 h3 h4 =>
    cases h4 with
    | @cons y3 ys3 d3 ds3 h5 h6 =>
     cases h6;cases h5;obtain ⟨q,rfl⟩:∃ q,y=V.ref q:=n_V (ds:=x.1.map (e_f true)) h1;obtain ⟨q2,rfl⟩:∃ q,y2=V.ref q:=n_V (ds:=x.2.1.map PyData.int) h3;have h3':Dt K H (.ref q2) (.tuple (x.2.1.map PyData.int)):=h3;cases h3' with
     | @tup b zs es hq2 hd2 =>
      rw [i_P hd2] at hq2;exact ⟨q,q2,hq,q_F h1,hq2⟩
noncomputable def sp_5 (K:Frag):Sp:=λ vs H Q _=>∃ (p q:Addr) (x s:Dd) (B C:Nat),vs=[.ref p,.ref q]/\DdV K H p x/\DdV K H q s/\Wee B x/\Wee C s/\B<=300/\C<=10/\∀ r H',Same H H'->DdAt K H' r (behD 2 x s)->Q (.ref r) H'
noncomputable def sp_q (K:Frag):Sp:=λ vs H Q _=>∃ (p:Addr) (x:Dd),vs=[.ref p]/\DdV K H p x/\x.2.1.length=2/\0 < x.2.2/\∀ r H',Same H H'->DdV K H' r (a_W x)->Q (.ref r) H'
noncomputable def sp_b (K:Frag):Sp:=λ vs H Q _=>∃ (p:Addr) (x:Dd),vs=[.ref p]/\DdV K H p x/\Sq 2 x.1/\x.2.1.length=2/\∀ H',Same H H'->Q (.bl true) H'
noncomputable def sp_a (K:Frag) (t:Adr):Sp:=λ vs H Q _=>∃ (g l m:Addr) (i:Nat),vs=[.ref g,.ref l,.ref m]/\i < 17/\GrpF K t H g 2 (tgM i) (tgS i)/\LstD K H l (tgM i)/\MemD K H m (tgS i)/\∀ H',Same H H'->Q (.bl true) H'
noncomputable def sp_r (C:Addr):Sp:=λ vs H Q _=>∃ e,vs=[.ref e]/\H e=some (k_U e (.ref C))/\Q (.bl true) H
noncomputable def sp_6:Sp:=λ vs H Q _=>∃ n:Int,vs=[.int n]/\(n < 1\/17 < n)/\∀ H',Same H H'->Q (.bl true) H'
noncomputable def n_Y (K:Frag):Sp:=λ vs H Q _=>∃ (a:Addr) (ns:List Int),vs=[.ref a]/\SqL K H a (ns.map V.int)/\∀ n H',Same H H'->Q (.int n) H'
theorem t_q {K:Frag} {b1 b2:Bool} {a1 a2:Addr} {xs ys:List V} {g:TG} {tb:TS} {nx:St->Hp->Prop} {rt:VK} {σ:St} {H:Hp} (Pv:Nat->St->Hp->Prop) (h0:Pv 0 σ H) (hlen:xs.length=ys.length) (hl:∀ i σ H,i<=xs.length->Pv i σ H->SqB b1 K H a1 xs/\SqB b2 K H a2 ys)
  (hs:∀ i x y p σ H,xs[i]?=some x->ys[i]?=some y->Pv i σ H->H p=none->g (.ref p) σ (upd H p (.tup [x,y])) λ σ2 H2=>tb { nx:=Pv (i+1),rt:=rt,bk:=nx,ct:=Pv (i+1) } σ2 H2) (hd:∀ σ H,Pv xs.length σ H->nx σ H):o_r (Itz K b1 a1 b2 a2) g tb nx rt σ H :=
 t_V (D:={ nx:=nx,rt:=rt,bk:=nx,ct:=nx }) Pv h0 hlen hl hs hd
theorem ecls (T:Txt K mg t):j_P K t.a_15:=⟨T.h_o,T.h_p,T.h_q,T.h_r,T.h_s,T.h_t,T.h_u,by
 have q:=T.h_t;unfold PySem.W.mroIn at q;cases e:PySem.W.clsIn K t.a_15 with
 | none=>rw [e] at q; cases q
 | some c=>rfl⟩
theorem ok_r (T:Txt K mg t):j_h P w K mg base 2 t.a_r t.d_r pu' (sp_r t.a_15):=by
 refine T.F_r.okA sc_r (λ vs H Q E h=>?_) (λ cdv A outer s H vs Q E hrA h=>?_)
 ·obtain ⟨e,rfl,_⟩:=h;rfl
 ·obtain ⟨e,rfl,he,q⟩:=h;refine ⟨_,(a_G (a_N (j_G (a_O e_d rfl T.z_isinstance (by decide +kernel) (a_A (pv 0) (a_A (f_K (v:=.ref t.a_15) rfl T.m_15 rfl) a_C))) (j_G (m_I (a_O e_d rfl T.z_isinstance (by decide +kernel) (a_A (pv 0) (a_A (f_K (v:=.ref t.a_1c) rfl T.m_1c rfl) a_C)))) (m_H (m_I (a_O e_d rfl T.z_isinstance (by decide +kernel) (a_A (pv 0) (a_A (f_K (v:=.ref t.a_1f) rfl T.m_1f rfl) a_C))))))))),?_⟩;show tRet _ _ [some (.ref e)] H;have isi:∀ (c:V) (b:Bool) (Q':VK),u_T c=true->kitOne K (.ref t.a_15) (clsV c)=some b->Q' (.bl b) H->rIsi K [.ref e,c] H Q':=λ c b Q' h1 h2 h3=>⟨_,_,_,_,rfl,.exc he (ecls T),h1,h2,h3⟩;walk_at "r";refine isi _ _ _ rfl T.i_15 ⟨_,rfl,iteT (isi _ _ _ rfl T.i_1c ⟨_,rfl,?_⟩)⟩;walk_at "r";refine isi _ _ _ rfl T.i_1f ?_;walk_at "r";exact q
theorem ok_6 (T:Txt K mg t):FnOk P w K mg base CX0 16 t.a_6 t.d_6 pg' sp_6:=by
 have G_e:=@ok_e P w K mg base t T;have G_r:j_h P w K mg base 2 t.a_r t.d_r pu' (sp_r t.a_15):=ok_r T;refine T.F_6.ok sc_6 (by walk_at "v") (λ cdv A outer s H vs Q E hr h=>?_)
 ·obtain ⟨n,rfl,hn,hQ⟩:=h;refine ⟨_,(a_D (a_R (i:=1) sc_6.nd rfl (Or.inl rfl) d_V)
   (a_D (a_R (i:=2) sc_6.nd rfl (Or.inl rfl) d_V)
   (a_D (v_B (i:=3) rfl rfl rfl sc_6.nd rfl rfl rfl T.m_1d (λ _ _ _ hL =>
   (a_G (e_F (c_K G_e hr.mo rfl T.m_e T.F_e.kp T.b_e .nil hL (a_A (pv 0) a_C))))) (λ _ =>
   (a_D (a_R (i:=1) sc_6.nd rfl (Or.inl rfl) d_V)
   (a_G (a_R (i:=2) sc_6.nd rfl (Or.inl rfl) (r_h G_r ((hr.a.mark _).mono (by omega)) rfl T.m_r T.F_r.kp T.b_r .nil (a_A (pv 3) a_C)))))))
   (a_G (a_N (j_G (pv 1) (m_H (pv 2)))))))),?_⟩
  show tSeq _ _ _ [some (.int n),none,none,none] H;refine st λ N1 e1=>?_;walk_at "r";subst e1;refine st λ N1 e1=>?_;walk_at "r";subst e1;refine st λ N1 e1=>?_;simp only [tTry];walk_at "r";refine ⟨n,rfl,λ _=>⟨T.xm,λ e he=>?_⟩,λ i hi hi17=>by omega⟩;refine ⟨e,rfl,a_F,?_⟩;show N1 [some (.int n),some (.bl true),some (.bl true),none] _;subst e1;walk_at "r";exact hQ _ (Same.new he)
theorem ok_l (T:Txt K mg t):FnOk P w K mg base CX0 2 t.a_l t.d_l pm' (n_Y K):=by
 have G_f:=@ok_f P w K mg base t T;refine T.F_l.ok sc_l (by walk_at "v") (λ cdv A outer s H vs Q E hr h=>?_)
 ·obtain ⟨a,ns,rfl,hS,hQ⟩:=h;refine ⟨_,(a_D (a_R (i:=1) sc_l.nd rfl (Or.inl rfl) (a_P G_f hr.mo rfl T.m_f T.F_f.kp T.b_f .nil b_B (a_A (pv 0) (a_A a_E a_C))))
   (a_D (b_G (a_K f_X (a_Z c_P (pv 1) a_E) a_E (a_U _))
   (a_G (a_N (a_Z g_b a_E (a_Z c_P (pv 1) a_E))))
   a_S)
   (a_D (b_G (a_K f_X (a_Z c_P (pv 1) a_E) a_E (a_U _))
   (a_G (a_N (a_Z c_G (a_Z h_W (a_Z c_P (pv 1) a_E) a_E) a_E)))
   a_S)
   (a_D (b_G (a_K f_X (a_Z c_P (pv 1) a_E) a_E (a_U _))
   (a_G (a_N (a_Z g_b a_E (a_Z c_P (a_Z d_P (pv 1) a_E) (a_Z q_Q a_E a_E)))))
   a_S)
   (a_G (a_N (a_Z h_W (e_S d_S a_E) (a_Z c_P (a_Z d_P (pv 1) a_E) (a_Z q_Q a_E a_E))))))))),?_⟩
  show tSeq _ _ _ [some (.ref a),none] H;refine st λ N1 e1=>?_;walk_at "r";refine ⟨a,ns,0,rfl,hS,by decide,?_⟩;generalize ns.getD (0:Int).toNat 0=c;subst e1;refine st λ N1 e1=>?_;walk_at "r";have z23:¬ (23:Int)=0:=by decide
  refine ⟨z23,?_⟩
  by_cases k1:c.fmod 23 < 17
  ·rw [zW k1];exact iteT ⟨z23,hQ _ H (Same.refl _)⟩
  rw [zX k1];refine iteF ?_;subst e1;refine st λ N1 e1=>?_;walk_at "r";refine ⟨z23,?_⟩
  by_cases k2:c.fmod 23 < 19
  ·rw [zW k2];have:=fms c 23 (by decide);exact iteT ⟨z23,IntMulOk.of_left (intBits_le_iff.mpr (by omega)),hQ _ H (Same.refl _)⟩
  rw [zX k2];refine iteF ?_;subst e1;refine st λ N1 e1=>?_;walk_at "r";refine ⟨z23,?_⟩
  by_cases k3:c.fmod 23 < 21
  ·rw [zW k3];refine iteT ?_;exact ⟨dvs c 23 (by decide) (by decide),⟨by decide,by decide,by decide⟩,by decide,hQ _ H (Same.refl _)⟩
  rw [zX k3];refine iteF ?_;subst e1;walk_at "r";exact ⟨dvs c 23 (by decide) (by decide),⟨by decide,by decide,by decide⟩,by decide,hQ _ H (Same.refl _)⟩
theorem ok_q (T:Txt K mg t):FnOk P w K mg base CX0 1 t.a_q t.d_q pt' (sp_q K):=by
 refine T.F_q.ok sc_q (by walk_at "v") (λ cdv A outer s H vs Q E hr h=>?_)
 ·obtain ⟨p,x,rfl,hx,hl,hu,hQ⟩:=h;obtain ⟨M,ts,u⟩:=x;obtain ⟨t0,t1,rfl⟩:∃ t0 t1,ts=[t0,t1]:=match ts,hl with | [t0,t1],_=>⟨t0,t1,rfl⟩
  obtain ⟨v0,v1,h1,h2,h3⟩:=g_J hx;refine ⟨_,(a_G (a_N (b_P (a_A (a_J ix_B (pv 0) a_E (λ _ _=>rfl)) (a_A (b_P (a_A (a_Z c_P (a_J ix_B (a_J ix_B (pv 0) a_E (λ _ _=>rfl)) a_E (λ _ _=>rfl)) (a_J ix_B (pv 0) a_E (λ _ _=>rfl))) (a_A (a_Z c_P (a_J ix_B (a_J ix_B (pv 0) a_E (λ _ _=>rfl)) a_E (λ _ _=>rfl)) (a_J ix_B (pv 0) a_E (λ _ _=>rfl))) a_C))) (a_A (a_J ix_B (pv 0) a_E (λ _ _=>rfl)) a_C)))))),?_⟩;show tRet _ _ [some (.ref p)] H;walk_at "r";have i0:∀ (Q':VK),Q' (.ref v0) H->rIxB K (.ref p) (.int 0) H Q':=λ Q' q=>⟨true,p,_,_,_,rfl,rfl,h1,a_V (k:=0) rfl rfl,q⟩;have i1:∀ (Q':VK),Q' (.ref v1) H->rIxB K (.ref p) (.int 1) H Q':=λ Q' q=>⟨true,p,_,_,_,rfl,rfl,h1,a_V (k:=1) rfl rfl,q⟩;have i2:∀ (Q':VK),Q' (.int u) H->rIxB K (.ref p) (.int 2) H Q':=λ Q' q=>⟨true,p,_,_,_,rfl,rfl,h1,a_V (k:=2) rfl rfl,q⟩;have j0:∀ (Q':VK),Q' (.int t0) H->rIxB K (.ref v1) (.int 0) H Q':=λ Q' q=>⟨true,v1,_,_,_,rfl,rfl,h3,a_V (k:=0) rfl rfl,q⟩;have j1:∀ (Q':VK),Q' (.int t1) H->rIxB K (.ref v1) (.int 1) H Q':=λ Q' q=>⟨true,v1,_,_,_,rfl,rfl,h3,a_V (k:=1) rfl rfl,q⟩;refine i0 _ (i1 _ (j0 _ (i2 _ ⟨_,_,rfl,rfl,(by show ¬ u=0; have:0 < u:=hu; omega),i1 _ (j1 _ (i2 _ ⟨_,_,rfl,rfl,(by show ¬ u=0; have:0 < u:=hu; omega),?_⟩))⟩)));refine ⟨by show 2<=sizeLine; decide,λ pt hpt=>?_⟩;have s1:=Same.new (o:=.tup [V.int (t0.fmod u),V.int (t1.fmod u)]) hpt;have e1:(upd H pt (.tup [V.int (t0.fmod u),V.int (t1.fmod u)])) pt=_:=a_F;show rIxB K (.ref p) (.int 2) (upd H pt (.tup [V.int (t0.fmod u),V.int (t1.fmod u)])) _;generalize upd H pt (.tup [V.int (t0.fmod u),V.int (t1.fmod u)])=H1 at *
  refine ⟨true,p,_,_,_,rfl,rfl,b_U s1 _ _ h1,a_V (k:=2) rfl rfl,?_⟩;refine ⟨by show 3<=sizeLine; decide,λ pr hpr=>?_⟩;have s2:=Same.new (o:=.tup [V.ref v0,V.ref pt,V.int u]) hpr;refine hQ pr _ (s1.trans s2) ?_;show Dt K _ (.ref pr) (.tuple [matD true true M,e_f true [t0.fmod u,t1.fmod u],.int u]);exact .tup (SqT.of a_F) (.cons (Dt.matB (h2.up (s1.trans s2))) (.cons (Dt.intsB (SqB.tup (s2 _ _ e1))) (.cons (.int u) .nil)))
theorem ok_b (T:Txt K mg t):FnOk P w K mg base CX0 2 t.a_b t.d_b pt' (sp_b K):=by
 have G_p:=@ok_p P w K mg base t T;refine T.F_b.ok sc_b (by walk_at "v") (λ cdv A outer s H vs Q E hr h=>?_)
 ·obtain ⟨p,x,rfl,hx,hs,hl,hQ⟩:=h;obtain ⟨M,ts,u⟩:=x;obtain ⟨t0,t1,rfl⟩:∃ t0 t1,ts=[t0,t1]:=match ts,hl with | [t0,t1],_=>⟨t0,t1,rfl⟩
  obtain ⟨a0,a1,a2,a3,rfl⟩:=sq2 hs;obtain ⟨v0,v1,h1,h2,h3⟩:=g_J hx;refine ⟨_,(a_D (a_R (i:=1) sc_b.nd rfl (Or.inl rfl) (d_T (a_A (a_J ix_B (a_J ix_B (a_J ix_B (pv 0) a_E (λ _ _=>rfl)) a_E (λ _ _=>rfl)) a_E (λ _ _=>rfl)) (a_A (a_J ix_B (a_J ix_B (a_J ix_B (pv 0) a_E (λ _ _=>rfl)) a_E (λ _ _=>rfl)) a_E (λ _ _=>rfl)) (a_A (a_J ix_B (a_J ix_B (a_J ix_B (pv 0) a_E (λ _ _=>rfl)) a_E (λ _ _=>rfl)) a_E (λ _ _=>rfl)) (a_A (a_J ix_B (a_J ix_B (a_J ix_B (pv 0) a_E (λ _ _=>rfl)) a_E (λ _ _=>rfl)) a_E (λ _ _=>rfl)) (a_A (a_J ix_B (a_J ix_B (pv 0) a_E (λ _ _=>rfl)) a_E (λ _ _=>rfl)) (a_A (a_J ix_B (a_J ix_B (pv 0) a_E (λ _ _=>rfl)) a_E (λ _ _=>rfl)) (a_A (a_J ix_B (pv 0) a_E (λ _ _=>rfl)) a_C)))))))))
   (a_D (d_A zG rfl (b_W (pv 1)) (b_R (i:=2) sc_b.nd rfl (Or.inl rfl))
   (a_G (b_G (g_a (e_c (a_P G_p hr.mo rfl T.m_p T.F_p.kp T.b_p .nil b_B (a_A (pv 2) a_C))))
   (a_G (a_N d_V))
   a_S)))
   (a_G (a_N d_V)))),?_⟩
  show tSeq _ _ _ [some (.ref p),none,none] H;refine st λ N1 e1=>?_;walk_at "r";have i0:∀ (Q':VK),Q' (.ref v0) H->rIxB K (.ref p) (.int 0) H Q':=λ Q' q=>⟨true,p,_,_,_,rfl,rfl,h1,a_V (k:=0) rfl rfl,q⟩;have i1:∀ (Q':VK),Q' (.ref v1) H->rIxB K (.ref p) (.int 1) H Q':=λ Q' q=>⟨true,p,_,_,_,rfl,rfl,h1,a_V (k:=1) rfl rfl,q⟩;have i2:∀ (Q':VK),Q' (.int u) H->rIxB K (.ref p) (.int 2) H Q':=λ Q' q=>⟨true,p,_,_,_,rfl,rfl,h1,a_V (k:=2) rfl rfl,q⟩;refine i0 _ (i_l (i:=0) (k:=0) h2 rfl rfl rfl rfl ?_);refine i0 _ (i_l (i:=0) (k:=1) h2 rfl rfl rfl rfl ?_);refine i0 _ (i_l (i:=1) (k:=0) h2 rfl rfl rfl rfl ?_);refine i0 _ (i_l (i:=1) (k:=1) h2 rfl rfl rfl rfl ?_);refine i1 _ ⟨true,v1,_,_,_,rfl,rfl,h3,a_V (k:=0) rfl rfl,?_⟩;refine i1 _ ⟨true,v1,_,_,_,rfl,rfl,h3,a_V (k:=1) rfl rfl,?_⟩;refine i2 _ ⟨by show 7<=sizeLine; decide,λ l hl=>?_⟩;have s1:=Same.new (o:=.lst [V.int a0,V.int a1,V.int a2,V.int a3,V.int t0,V.int t1,V.int u]) hl;have e1':(upd H l (.lst [V.int a0,V.int a1,V.int a2,V.int a3,V.int t0,V.int t1,V.int u])) l=some (.lst (([a0,a1,a2,a3,t0,t1,u]:List Int).map V.int)):=a_F;generalize upd H l (.lst [V.int a0,V.int a1,V.int a2,V.int a3,V.int t0,V.int t1,V.int u])=H1 at *
  subst e1;refine st λ N1 e1=>d_B λ B eB=>?_;simp only [iSeq];walk_at "r";refine ⟨false,⟨_,SqB.lst e1'⟩,?_⟩;refine e_L (g:=a_T 2) (tb:=B) (nx:=N1) (rt:=Q) (xs:=([a0,a1,a2,a3,t0,t1,u]:List Int).map V.int) (λ i σ H2=>∃ v,σ=[some (.ref p),some (.ref l),v]/\Same H1 H2) ⟨_,rfl,Same.refl _⟩ (λ i σ H2 _ ⟨_,_,s2⟩=>SqB.lst (s2 _ _ e1')) ?_ ?_
  ·rintro i x σ H2 ex ⟨v,rfl,s2⟩;rw [zH] at ex;cases hp:([a0,a1,a2,a3,t0,t1,u]:List Int)[i]? with
   | none=>rw [hp] at ex; cases ex
   | some z =>
    rw [hp] at ex;cases ex;subst eB;show tIfS _ _ _ _ [some (.ref p),some (.ref l),some (.int z)] H2;walk_at "r";refine ⟨z,rfl,_,rfl,?_⟩;walk_at "r";exact s2
  ·rintro σ H2 ⟨v,rfl,s2⟩;subst e1;walk_at "r";exact hQ H2 (s1.trans s2)
theorem i_Q {α:Type} {l:List α} (h:l.length=2):∃ a b,l=[a,b]:=match l,h with | [a,b],_=>⟨a,b,rfl⟩
theorem w_Q (b0 b1 b2 b3 a0 a1 a2 a3:Int):mulM 2 [[b0,b1],[b2,b3]] [[a0,a1],[a2,a3]]=[[b0*a0+b1*a2,b0*a1+b1*a3],[b2*a0+b3*a2,b2*a1+b3*a3]]:=by
 simp [mulM,dotI,colI,List.range_succ]
theorem p_e (b0 b1 b2 b3 t0 t1 v s0 s1 u:Int):movT [[b0,b1],[b2,b3]] [t0,t1] v [s0,s1] u=[(b0*s0+b1*s1)*v+t0*u,(b2*s0+b3*s1)*v+t1*u]:=by
 simp [movT,dotI]
theorem cs22 {U T0 T1:Int} (hU:0 < U):cs U [T0,T1]=gcdI (gcdI T0 T1) U:=by
 unfold cs gl;rw [if_neg (by omega)];show gcdI (gcdI (absI U) T0) T1=_;have e:absI U=U:=by unfold absI; rw [if_neg (by omega)]
 rw [e];unfold gcdI;simp only [Int.gcd_eq_natAbs_gcd_natAbs,Int.natAbs_natCast];rw [Nat.gcd_assoc,Nat.gcd_comm]
noncomputable def BhI (H:Hp) (p q l1 l2:Addr) (MM:LM) (TT:List Int) (i:Nat) (σ:St) (H1:Hp):Prop:=∃ (v4 v5 v6:Option V) (rs:List Addr),σ=[some (.ref p),some (.ref q),some (.ref l1),some (.ref l2),v4,v5,v6,none,none]/\Same H H1/\H1 l1=some (.lst (rs.map V.ref))/\rs.length=i/\(∀ (j:Nat) a r,rs[j]?=some a->MM[j]?=some r->H1 a=some (.tup (r.map V.int)))/\H1 l2=some (.lst ((TT.take i).map V.int))
theorem ok_5 (T:Txt K mg t):FnOk P w K mg base CX0 2 t.a_5 t.d_5 pc' (sp_5 K):=by
 have G_g:=@ok_g P w K mg base t T;refine T.F_5.ok sc_5 (by walk_at "v") (λ cdv A outer s H vs Q E hr h=>?_)
 ·obtain ⟨p,q,x,y,B,C,rfl,hx,hy,wx,wy,hB,hC,hQ⟩:=h;obtain ⟨M,ss,u⟩:=x;obtain ⟨N,ts,v⟩:=y;obtain ⟨s0,s1,rfl⟩:=i_Q wx.len;obtain ⟨t0,t1,rfl⟩:=i_Q wy.len;obtain ⟨a0,a1,a2,a3,rfl⟩:=sq2 wx.sq;obtain ⟨b0,b1,b2,b3,rfl⟩:=sq2 wy.sq;obtain ⟨pm,pt,h1,h2,h3⟩:=g_J hx;obtain ⟨qm,qt,k1,k2,k3⟩:=g_J hy;refine ⟨_,(a_D (a_R (i:=2) sc_5.nd rfl (Or.inl rfl) (d_T a_C))
   (a_D (a_R (i:=3) sc_5.nd rfl (Or.inl rfl) (d_T a_C))
   (a_D (d_A zG rfl (i_i rfl T.z_zip (a_A (a_J ix_B (pv 1) a_E (λ _ _=>rfl)) (a_A (a_J ix_B (pv 1) a_E (λ _ _=>rfl)) a_C))) (e_G rfl (b_N (b_R (i:=4) sc_5.nd rfl (Or.inr rfl)) (b_N (b_R (i:=5) sc_5.nd rfl (Or.inl rfl)) d_W)))
   (a_D (e_F (f_Y PySem.F.plainAttrs_list PySem.F.slot_list_append PySem.F.type_list_append f_L (pv 2) (a_A (b_Q d_Z rfl T.z_tuple (by decide +kernel) (a_A (b_L (xs:=["_law_a","_law_b"]) (fr:=[("_law_row",4)]) (g:=(gTup K 2 (c_N (a_T 0) (c_N (a_T 1) gNil)))) (tt:=(tEl (tOp (rI0 λ i j=>.int (i+j)) (tOp (rI (λ i j=>IntMulOk i j) λ i j=>.int (i*j)) (tOp (rIxB K) (tVar 2) (tC (.int 0))) (tVar 0)) (tOp (rI (λ i j=>IntMulOk i j) λ i j=>.int (i*j)) (tOp (rIxB K) (tVar 2) (tC (.int 1))) (tVar 1))))) (b_D (sc:=a_B s_5) (N:=N_5) rfl rfl (by decide +kernel)) rfl (i_i rfl T.z_zip (a_A (a_J ix_B (a_J ix_B (pv 0) a_E (λ _ _=>rfl)) a_E (λ _ _=>rfl)) (a_A (a_J ix_B (a_J ix_B (pv 0) a_E (λ _ _=>rfl)) a_E (λ _ _=>rfl)) a_C))) (λ _ _ _ hE1=>(e_G rfl (b_N (b_T (N:=["_law_a","_law_b","_law_row"]) (i:=0) hE1 rfl (by decide +kernel)) (b_N (b_T (N:=["_law_a","_law_b","_law_row"]) (i:=1) hE1 rfl (by decide +kernel)) d_W)))) (λ _ _ _ hE1=>(c_R (a_Z g_b (a_Z c_G (a_J ix_B (pv 2) a_E (λ _ _=>rfl)) (pv 0)) (a_Z c_G (a_J ix_B (pv 2) a_E (λ _ _=>rfl)) (pv 1)))))) a_C)) a_C)))
   (a_D (a_R (i:=6) sc_5.nd rfl (Or.inl rfl) (a_Z g_b (a_Z c_G (a_J ix_B (pv 4) a_E (λ _ _=>rfl)) (a_J ix_B (a_J ix_B (pv 0) a_E (λ _ _=>rfl)) a_E (λ _ _=>rfl))) (a_Z c_G (a_J ix_B (pv 4) a_E (λ _ _=>rfl)) (a_J ix_B (a_J ix_B (pv 0) a_E (λ _ _=>rfl)) a_E (λ _ _=>rfl)))))
   (a_G (e_F (f_Y PySem.F.plainAttrs_list PySem.F.slot_list_append PySem.F.type_list_append f_L (pv 3) (a_A (a_Z g_b (a_Z c_G (pv 6) (a_J ix_B (pv 1) a_E (λ _ _=>rfl))) (a_Z c_G (pv 5) (a_J ix_B (pv 0) a_E (λ _ _=>rfl)))) a_C)))))))
   (a_D (a_R (i:=7) sc_5.nd rfl (Or.inl rfl) (a_Z c_G (a_J ix_B (pv 0) a_E (λ _ _=>rfl)) (a_J ix_B (pv 1) a_E (λ _ _=>rfl))))
   (a_D (a_R (i:=8) sc_5.nd rfl (Or.inl rfl) (a_P G_g hr.mo rfl T.m_g T.F_g.kp T.b_g .nil b_B (a_A (a_P G_g hr.mo rfl T.m_g T.F_g.kp T.b_g .nil b_B (a_A (a_J ix_B (pv 3) a_E (λ _ _=>rfl)) (a_A (a_J ix_B (pv 3) a_E (λ _ _=>rfl)) a_C))) (a_A (pv 7) a_C))))
   (a_G (a_N (b_P (a_A (b_Q d_Z rfl T.z_tuple (by decide +kernel) (a_A (pv 2) a_C)) (a_A (b_P (a_A (a_Z d_P (a_J ix_B (pv 3) a_E (λ _ _=>rfl)) (pv 8)) (a_A (a_Z d_P (a_J ix_B (pv 3) a_E (λ _ _=>rfl)) (pv 8)) a_C))) (a_A (a_Z d_P (pv 7) (pv 8)) a_C))))))))))),?_⟩
  show tSeq _ _ _ [some (.ref p),some (.ref q),none,none,none,none,none,none,none] H;refine st λ N1 e1=>?_;walk_at "r";refine ⟨Nat.zero_le _,λ l1 hl1=>?_⟩;have z1:Same H (upd H l1 (.lst [])):=Same.new hl1;have f1:(upd H l1 (.lst [])) l1=some (.lst []):=a_F;generalize upd H l1 (.lst [])=H1 at *
  subst e1;refine st λ N1 e1=>?_;walk_at "r";refine ⟨Nat.zero_le _,λ l2 hl2=>?_⟩;have z2:Same H1 (upd H1 l2 (.lst [])):=Same.new hl2;have f2:(upd H1 l2 (.lst [])) l2=some (.lst []):=a_F;generalize upd H1 l2 (.lst [])=H2 at *
  have l12:l2≠l1:=λ z=>by rw [z,f1] at hl2; cases hl2
  have hn2:H l2=none:=by
   cases z:H l2 with
   | none=>rfl
   | some o=>rw [z1 _ _ z] at hl2; cases hl2
  have f12:=z2 _ _ f1;have z02:=z1.trans z2;subst e1;refine st λ N1 e1=>d_B λ B eB=>?_;simp only [iZip];walk_at "r";have i0:∀ (G:Hp) (Q':VK),Same H G->Q' (.ref pm) G->rIxB K (.ref p) (.int 0) G Q':=λ G Q' sG q=>⟨true,p,_,_,_,rfl,rfl,b_U sG _ _ h1,a_V (k:=0) rfl rfl,q⟩;have i1:∀ (G:Hp) (Q':VK),Same H G->Q' (.ref pt) G->rIxB K (.ref p) (.int 1) G Q':=λ G Q' sG q=>⟨true,p,_,_,_,rfl,rfl,b_U sG _ _ h1,a_V (k:=1) rfl rfl,q⟩;have i2:∀ (G:Hp) (Q':VK),Same H G->Q' (.int u) G->rIxB K (.ref p) (.int 2) G Q':=λ G Q' sG q=>⟨true,p,_,_,_,rfl,rfl,b_U sG _ _ h1,a_V (k:=2) rfl rfl,q⟩;have m0:∀ (G:Hp) (Q':VK),Same H G->Q' (.ref qm) G->rIxB K (.ref q) (.int 0) G Q':=λ G Q' sG z=>⟨true,q,_,_,_,rfl,rfl,b_U sG _ _ k1,a_V (k:=0) rfl rfl,z⟩;have m1:∀ (G:Hp) (Q':VK),Same H G->Q' (.ref qt) G->rIxB K (.ref q) (.int 1) G Q':=λ G Q' sG z=>⟨true,q,_,_,_,rfl,rfl,b_U sG _ _ k1,a_V (k:=1) rfl rfl,z⟩;have m2:∀ (G:Hp) (Q':VK),Same H G->Q' (.int v) G->rIxB K (.ref q) (.int 2) G Q':=λ G Q' sG z=>⟨true,q,_,_,_,rfl,rfl,b_U sG _ _ k1,a_V (k:=2) rfl rfl,z⟩;have j0:∀ (G:Hp) (Q':VK),Same H G->Q' (.int s0) G->rIxB K (.ref pt) (.int 0) G Q':=λ G Q' sG q=>⟨true,pt,_,_,_,rfl,rfl,b_U sG _ _ h3,a_V (k:=0) rfl rfl,q⟩;have j1:∀ (G:Hp) (Q':VK),Same H G->Q' (.int s1) G->rIxB K (.ref pt) (.int 1) G Q':=λ G Q' sG q=>⟨true,pt,_,_,_,rfl,rfl,b_U sG _ _ h3,a_V (k:=1) rfl rfl,q⟩;obtain ⟨ns,n1,n2,n3⟩:=k2;obtain ⟨as,o1,o2,o3⟩:=h2;obtain ⟨ar0,ar1,rfl⟩:=i_Q o2;have r0:SqB true K H ar0 ([a0,a1].map V.int):=o3 0 ar0 _ rfl rfl;have r1:SqB true K H ar1 ([a2,a3].map V.int):=o3 1 ar1 _ rfl rfl;have pr:∀ (G:Hp) (k:Nat) (I:Int) (a:Addr) (Q':VK),Same H G->([ar0,ar1]:List Addr)[k]?=some a->I=k->Q' (.ref a) G->rIxB K (.ref pm) (.int I) G Q':=λ G k I a Q' sG ek eI z=>⟨true,pm,_,_,_,rfl,rfl,o1.up sG,a_V (k:=k) (by rw [zH,ek]; rfl) eI,z⟩;refine m0 _ _ z02 (m1 _ _ z02 ?_);refine ⟨true,true,qm,rfl,qt,rfl,⟨_,n1.up z02⟩,⟨_,b_U z02 _ _ k3⟩,?_⟩;have uv:0 < u/\0 < v:=⟨wx.pos,wy.pos⟩;have vC:v < 2 ^ 10:=Int.lt_of_lt_of_le wy.u (by have:(2:Nat) ^ C<=2 ^ 10:=zM (by decide) hC; exact_mod_cast this);have tC:t0.natAbs < 2 ^ 10/\t1.natAbs < 2 ^ 10:=⟨zI (wy.t t0 (.head _)) (zM (by decide) hC),zI (wy.t t1 (.tail _ (.head _))) (zM (by decide) hC)⟩;refine t_q (g:=gTup K 2 (c_N (a_T 4) (c_N (a_T 5) gNil))) (tb:=B) (nx:=N1) (rt:=Q) (xs:=ns.map V.ref) (ys:=([t0,t1]:List Int).map V.int) (BhI H p q l1 l2 (mulM 2 [[b0,b1],[b2,b3]] [[a0,a1],[a2,a3]]) (movT [[b0,b1],[b2,b3]] [t0,t1] v [s0,s1] u)) ⟨_,_,_,[],rfl,z02,f12,rfl,λ j a r e=>by simp at e,f2⟩ (by rw [zqe,n2]; rfl) (λ i σ H3 _ ⟨_,_,_,_,_,s3,_⟩=>⟨n1.up s3,b_U s3 _ _ k3⟩) ?_ ?_
  ·rintro i xx yy pp σ H3 ex ey ⟨v4,v5,v6,rs,rfl,s3,e3,hl3,hr3,g3⟩ hpp;rw [zH] at ex ey;cases hp:ns[i]? with
   | none=>rw [hp] at ex; cases ex
   | some na =>
    rw [hp] at ex;cases ex;have hi:i < 2:=by have:=(zqa hp).1; simp only [List.length_cons,List.length_nil] at n2; omega
    obtain ⟨x0,x1,tt,er,et,i01,w0,w1,wt⟩:∃ x0 x1 tt,([[b0,b1],[b2,b3]]:LM)[i]?=some [x0,x1]/\([t0,t1]:List Int)[i]?=some tt/\((i=0/\x0=b0/\x1=b1/\tt=t0)\/(i=1/\x0=b2/\x1=b3/\tt=t1))/\x0.natAbs<=1/\x1.natAbs<=1/\tt.natAbs < 2 ^ 10:=by
     match i,hi with
     | 0,_=>exact ⟨b0,b1,t0,rfl,rfl,.inl ⟨rfl,rfl,rfl,rfl⟩,wy.m _ (.head _) _ (.head _),wy.m _ (.head _) _ (.tail _ (.head _)),tC.1⟩
     | 1,_=>exact ⟨b2,b3,t1,rfl,rfl,.inr ⟨rfl,rfl,rfl,rfl⟩,wy.m _ (.tail _ (.head _)) _ (.head _),wy.m _ (.tail _ (.head _)) _ (.tail _ (.head _)),tC.2⟩
    rw [et] at ey;cases ey;have hna:SqB true K H na ([x0,x1].map V.int):=n3 i na _ hp er;have sp:=Same.new (o:=.tup [V.ref na,V.int tt]) hpp;refine ⟨pp,[.ref na,.int tt],rfl,SqT.of a_F,rfl,_,[.int tt],rfl,_,[],rfl,rfl,?_⟩;have s4:=s3.trans sp;have e4:=sp _ _ e3;have g4:=sp _ _ g3;have hr4:∀ (j:Nat) a r,rs[j]?=some a->(mulM 2 [[b0,b1],[b2,b3]] [[a0,a1],[a2,a3]])[j]?=some r->(upd H3 pp (.tup [V.ref na,V.int tt])) a=some (.tup (r.map V.int)):=λ j a r ea er=>sp _ _ (hr3 j a r ea er);generalize upd H3 pp (.tup [V.ref na,V.int tt])=H4 at *
    clear hr3 e3 g3 s3 sp hpp;subst eB;show tSeq _ _ _ [some (.ref p),some (.ref q),some (.ref l1),some (.ref l2),some (.ref na),some (.int tt),v6,none,none] H4;refine st λ N2 e2=>?_;simp only [tBM];walk_at "r";refine ⟨tyL e4,?_⟩;refine b_E λ B eB=>?_;simp only [iZip];walk_at "r";refine i0 _ _ s4 (pr _ 0 _ ar0 _ s4 rfl rfl (i0 _ _ s4 (pr _ 1 _ ar1 _ s4 rfl rfl ?_)));refine ⟨true,true,ar0,rfl,ar1,rfl,⟨_,r0.up s4⟩,⟨_,r1.up s4⟩,λ c hc=>?_⟩;refine m_X (λ j y _=>y=.int (x0*([a0,a1]:List Int).getD j 0+x1*([a2,a3]:List Int).getD j 0)) hc (r0.up s4) (r1.up s4) rfl (by show 2<=1000; decide) (λ _ _ _ _ h _=>h) ?_ ?_
    ·intro j xa xb H5 zs ea eb s5 ez Q' hQ';obtain ⟨ya,yb,rfl,rfl,ha,hb⟩:∃ ya yb,xa=.int ya/\xb=.int yb/\ya=([a0,a1]:List Int).getD j 0/\yb=([a2,a3]:List Int).getD j 0:=by
      match j with
      | 0=>cases ea; cases eb; exact ⟨a0,a2,rfl,rfl,rfl,rfl⟩
      | 1=>cases ea; cases eb; exact ⟨a1,a3,rfl,rfl,rfl,rfl⟩
      | n+2=>cases ea
     have i5:SqB true K H5 na ([x0,x1].map V.int):=hna.up (s4.trans s5);subst eB;show tOp _ _ _ [some (.int ya),some (.int yb),some (.ref na)] H5 Q';walk_at "r";refine ⟨true,na,_,_,_,rfl,rfl,i5,a_V (k:=0) rfl rfl,⟨_,_,rfl,rfl,IntMulOk.of_left (intBits_le_iff.mpr (by omega)),?_⟩⟩;refine ⟨true,na,_,_,_,rfl,rfl,i5,a_V (k:=1) rfl rfl,⟨_,_,rfl,rfl,IntMulOk.of_left (intBits_le_iff.mpr (by omega)),_,_,rfl,rfl,?_⟩⟩;exact hQ' _ _ (Same.refl _) (by rw [ha,hb])
    ·intro H5 ys s5 e5 hl5 hr5;have em:(mulM 2 [[b0,b1],[b2,b3]] [[a0,a1],[a2,a3]])[i]?=some ((List.range 2).map λ j=>x0*([a0,a1]:List Int).getD j 0+x1*([a2,a3]:List Int).getD j 0):=by
      rw [w_Q];rcases i01 with ⟨e,ea,eb,_⟩ | ⟨e,ea,eb,_⟩ <;> (rw [e,ea,eb]; rfl)
     have emt:(movT [[b0,b1],[b2,b3]] [t0,t1] v [s0,s1] u)[i]?=some ((x0*s0+x1*s1)*v+tt*u):=by
      rw [p_e];rcases i01 with ⟨e,ea,eb,ec⟩ | ⟨e,ea,eb,ec⟩ <;> (rw [e,ea,eb,ec]; rfl)
     generalize mulM 2 [[b0,b1],[b2,b3]] [[a0,a1],[a2,a3]]=MM at *;generalize movT [[b0,b1],[b2,b3]] [t0,t1] v [s0,s1] u=TT at *
     have ey:ys=((List.range 2).map λ j=>x0*([a0,a1]:List Int).getD j 0+x1*([a2,a3]:List Int).getD j 0).map V.int:=by
      rw [List.map_map];refine d_L (by rw [hl5]; rfl) λ j y ej=>⟨j,?_,hr5 j y ej⟩;have:j < 2:=by have:=(zqa ej).1; rw [hl5] at this; exact this
      rw [yH this]
     generalize ((List.range 2).map λ j=>x0*([a0,a1]:List Int).getD j 0+x1*([a2,a3]:List Int).getD j 0)=row at *;refine ⟨c,ys,rfl,.inl ⟨.inl (.inl e5),λ c2 hc2=>?_⟩⟩;rw [ey];have s6:=Same.new (o:=.tup (row.map V.int)) hc2;have e6:(upd H5 c2 (.tup (row.map V.int))) c2=_:=a_F;generalize upd H5 c2 (.tup (row.map V.int))=H6 at *
     have el6:=s6 _ _ (s5 _ _ e4);have eg6:=s6 _ _ (s5 _ _ g4);have cl:c2≠l1:=λ z=>by rw [z,s5 _ _ e4] at hc2; cases hc2
     refine ⟨l1,_,_,rfl,rfl,el6,by rw [zqe,hl3]; exact Nat.lt_trans hi (by decide),?_⟩;have s7:Same H (upd H6 l1 (.lst (rs.map V.ref++[.ref c2]))):=λ b' o e=>by
      have:b'≠l1:=λ z=>by rw [z,hl1] at e; cases e
      rw [a_I this];exact s6 _ _ (s5 _ _ (s4 _ _ e))
     have e7:(upd H6 l1 (.lst (rs.map V.ref++[.ref c2]))) l1=some (.lst ((rs++[c2]).map V.ref)):=by rw [a_F,List.map_append]; rfl
     have eg7:(upd H6 l1 (.lst (rs.map V.ref++[.ref c2]))) l2=some (.lst ((TT.take i).map V.int)):=by rw [a_I l12]; exact eg6
     have hr7:∀ (j:Nat) a r,(rs++[c2])[j]?=some a->MM[j]?=some r->(upd H6 l1 (.lst (rs.map V.ref++[.ref c2]))) a=some (.tup (r.map V.int)):=λ j a r ea err=>by
      by_cases hj:j < rs.length
      ·rw [yC hj] at ea;have h2:=hr4 j a r ea err;have:a≠l1:=λ z=>by rw [z,e4] at h2; cases h2
       rw [a_I this];exact s6 _ _ (s5 _ _ h2)
      ·have hj2:j=rs.length:=by
        have:=(zqa ea).1;rw [List.length_append] at this;simp only [List.length_cons,List.length_nil] at this;omega
       rw [hj2,yD (zL _),Nat.sub_self] at ea;cases ea;rw [hj2,hl3,em] at err;cases err;rw [a_I cl];exact e6
     show N2 [some (.ref p),some (.ref q),some (.ref l1),some (.ref l2),some (.ref na),some (.int tt),v6,none,none] (upd H6 l1 (.lst (rs.map V.ref++[.ref c2])));generalize upd H6 l1 (.lst (rs.map V.ref++[.ref c2]))=H7 at *
     clear hr4 el6 eg6 e6 s6 hc2 e5 hr5 ey hl5 s5;have i7:SqB true K H7 na ([x0,x1].map V.int):=hna.up s7;subst e2;refine st λ N3 e3=>?_;walk_at "r";refine ⟨true,na,_,_,_,rfl,rfl,i7,a_V (k:=0) rfl rfl,i1 _ _ s7 (j0 _ _ s7 ⟨_,_,rfl,rfl,IntMulOk.of_left (intBits_le_iff.mpr (by omega)),?_⟩)⟩;refine ⟨true,na,_,_,_,rfl,rfl,i7,a_V (k:=1) rfl rfl,i1 _ _ s7 (j1 _ _ s7 ⟨_,_,rfl,rfl,IntMulOk.of_left (intBits_le_iff.mpr (by omega)),_,_,rfl,rfl,?_⟩)⟩;show N3 [some (.ref p),some (.ref q),some (.ref l1),some (.ref l2),some (.ref na),some (.int tt),some (.int (x0*s0+x1*s1)),none,none] H7;subst e3;simp only [tBM];walk_at "r";refine ⟨tyL eg7,m2 _ _ s7 ⟨_,_,rfl,rfl,IntMulOk.of_right (intBits_le_iff.mpr (by omega)),?_⟩⟩;refine i2 _ _ s7 ⟨_,_,rfl,rfl,IntMulOk.of_left (intBits_le_iff.mpr (by omega)),_,_,rfl,rfl,?_⟩;refine ⟨l2,_,_,rfl,rfl,eg7,by rw [zqe,List.length_take]; exact Nat.lt_of_le_of_lt (Nat.min_le_left _ _) (Nat.lt_trans hi (by decide)),?_⟩;refine ⟨_,_,_,rs++[c2],rfl,λ b' o e=>?_,by rw [a_I (Ne.symm l12)]; exact e7,by rw [List.length_append,hl3]; rfl,λ j a r ea err=>?_,?_⟩
     ·have:b'≠l2:=λ z=>by rw [z,hn2] at e; cases e
      rw [a_I this];exact s7 _ _ e
     ·have h2:=hr7 j a r ea err;have:a≠l2:=λ z=>by rw [z,eg7] at h2; cases h2
      rw [a_I this];exact h2
     ·rw [a_F,List.take_add_one,emt,List.map_append];rfl
  ·rintro σ H3 ⟨v4,v5,v6,rs,rfl,s3,e3,hl3,hr3,g3⟩;subst e1;refine st λ N1 e1=>?_;walk_at "r";refine i2 _ _ s3 (m2 _ _ s3 ⟨_,_,rfl,rfl,IntMulOk.of_right (intBits_le_iff.mpr (by omega)),?_⟩);show N1 [some (.ref p),some (.ref q),some (.ref l1),some (.ref l2),v4,v5,v6,some (.int (u*v)),none] H3;have hlen:(ns.map V.ref).length=2:=by rw [zqe,n2]; rfl
   rw [hlen] at hl3 g3;have hTT:∃ T0 T1,movT [[b0,b1],[b2,b3]] [t0,t1] v [s0,s1] u=[T0,T1]:=⟨_,_,p_e ..⟩;obtain ⟨T0,T1,eT⟩:=hTT;have hQ':∀ r H',Same H H'->DdAt K H' r (mulM 2 [[b0,b1],[b2,b3]] [[a0,a1],[a2,a3]],redT (v*u) [T0,T1],redU (v*u) [T0,T1])->Q (.ref r) H':=λ r H' s' h'=>hQ r H' s' (by unfold behD; rw [← eT] at h'; exact h');have hMl:(mulM 2 [[b0,b1],[b2,b3]] [[a0,a1],[a2,a3]]).length=2:=rfl;rw [eT] at g3;have g3':H3 l2=some (.lst [.int T0,.int T1]):=g3;have uvp:0 < u*v:=Int.mul_pos uv.1 uv.2;generalize mulM 2 [[b0,b1],[b2,b3]] [[a0,a1],[a2,a3]]=MM at *
   subst e1;refine st λ N1 e1=>?_;walk_at "r";have tix:∀ (G:Hp) (k:Nat) (I:Int) (z:Int) (Q':VK),Same H3 G->([.int T0,.int T1]:List V)[k]?=some (.int z)->I=k->Q' (.int z) G->rIxB K (.ref l2) (.int I) G Q':=λ G k I z Q' sG ek eI q=>⟨false,l2,_,_,_,rfl,rfl,SqB.lst (sG _ _ g3'),a_V ek eI,q⟩;refine tix _ 0 _ T0 _ (Same.refl _) rfl rfl (tix _ 1 _ T1 _ (Same.refl _) rfl rfl ?_);refine ⟨_,_,rfl,_,_,rfl,?_⟩;have ec:gcdI (gcdI T0 T1) (u*v)=cs (v*u) [T0,T1]:=by rw [Int.mul_comm v u,cs22 uvp]
   rw [ec];have hvu:0 < v*u:=Int.mul_pos uv.2 uv.1;have csn:=g_z [T0,T1] (show v*u≠0 by omega);have p15:∀ {z:Int} {D:Nat},z < 2 ^ D->D<=1500->z < 2 ^ 1500:=λ {z D} h1 h2=>Int.lt_of_lt_of_le h1 (by have:(2:Nat) ^ D<=2 ^ 1500:=zM (by decide) h2; exact_mod_cast this);have sm:=(i_w uv.2 (p15 wy.u (by omega)) uv.1 (p15 wx.u (by omega))).1;have sc1:=j_x sm (show v*u≠0 by omega) (d_U (gl_u (v*u) [T0,T1]));have hd:∀ x,h_z x (cs (v*u) [T0,T1]):=λ x=>⟨csn,j_w sc1 csn⟩;have hrT:redT (v*u) [T0,T1]=[T0.fdiv (cs (v*u) [T0,T1]),T1.fdiv (cs (v*u) [T0,T1])]:=rfl;have hrU:redU (v*u) [T0,T1]=(v*u).fdiv (cs (v*u) [T0,T1]):=rfl;rw [hrT,hrU] at hQ';rw [Int.mul_comm u v];generalize cs (v*u) [T0,T1]=cc at *
   generalize v*u=U at *;show N1 [some (.ref p),some (.ref q),some (.ref l1),some (.ref l2),v4,v5,v6,some (.int U),some (.int cc)] H3;subst e1;walk_at "r";refine ⟨l1,_,rfl,.inl ⟨.inl (.inl e3),λ c1 hc1=>?_⟩⟩;have w1:=Same.new (o:=.tup (rs.map V.ref)) hc1;have ew1:(upd H3 c1 (.tup (rs.map V.ref))) c1=_:=a_F;generalize upd H3 c1 (.tup (rs.map V.ref))=H4 at *
   refine tix _ 0 _ T0 _ w1 rfl rfl ⟨_,_,rfl,rfl,hd T0,tix _ 1 _ T1 _ w1 rfl rfl ⟨_,_,rfl,rfl,hd T1,?_⟩⟩;refine ⟨by show 2<=sizeLine; decide,λ c2 hc2=>?_⟩;have w2:=Same.new (o:=.tup [V.int (T0.fdiv cc),V.int (T1.fdiv cc)]) hc2;have ew2:(upd H4 c2 (.tup [V.int (T0.fdiv cc),V.int (T1.fdiv cc)])) c2=_:=a_F;show h_z U cc/\[V.ref c1,V.ref c2,V.int (U.fdiv cc)].length<=sizeLine/\∀ p,upd H4 c2 (.tup [V.int (T0.fdiv cc),V.int (T1.fdiv cc)]) p=none->Q (V.ref p) (upd (upd H4 c2 (.tup [V.int (T0.fdiv cc),V.int (T1.fdiv cc)])) p (.tup [V.ref c1,V.ref c2,V.int (U.fdiv cc)]));generalize upd H4 c2 (.tup [V.int (T0.fdiv cc),V.int (T1.fdiv cc)])=H5 at *
   refine ⟨hd U,by show 3<=sizeLine; decide,λ c3 hc3=>?_⟩;have w3:=Same.new (o:=.tup [V.ref c1,V.ref c2,V.int (U.fdiv cc)]) hc3;refine hQ' c3 _ (s3.trans (w1.trans (w2.trans w3))) ⟨c1,c2,a_F,⟨rs,SqB.tup (w3 _ _ (w2 _ _ ew1)),by rw [hl3,hMl],λ j a r ea er=>SqB.tup (w3 _ _ (w2 _ _ (w1 _ _ (hr3 j a r ea er))))⟩,w3 _ _ ew2⟩
theorem tup2 {H:Hp} {a b c d:Int} {R:Addr->Hp->Prop} (q:∀ p H',Same H H'->MatB true true K H' p [[a,b],[c,d]]->R p H') :
  [V.int a,V.int b].length<=sizeLine/\∀ p,H p=none->[V.int c,V.int d].length<=sizeLine/\∀ p1,upd H p (.tup [.int a,.int b]) p1=none->[V.ref p,V.ref p1].length<=sizeLine /\
   ∀ p2,upd (upd H p (.tup [.int a,.int b])) p1 (.tup [.int c,.int d]) p2=none->R p2 (upd (upd (upd H p (.tup [.int a,.int b])) p1 (.tup [.int c,.int d])) p2 (.tup [.ref p,.ref p1])):=by
 refine ⟨by show 2<=sizeLine; decide,λ p hp=>⟨by show 2<=sizeLine; decide,λ p1 hp1=>⟨by show 2<=sizeLine; decide,λ p2 hp2=>?_⟩⟩⟩;have t1:Same H (upd H p (.tup [.int a,.int b])):=Same.new hp;have f1:(upd H p (.tup [.int a,.int b])) p=some (.tup [.int a,.int b]):=a_F;generalize upd H p (.tup [.int a,.int b])=H1 at *
 have t2:Same H1 (upd H1 p1 (.tup [.int c,.int d])):=Same.new hp1;have f2:(upd H1 p1 (.tup [.int c,.int d])) p1=some (.tup [.int c,.int d]):=a_F;generalize upd H1 p1 (.tup [.int c,.int d])=H2 at *
 have t3:Same H2 (upd H2 p2 (.tup [.ref p,.ref p1])):=Same.new hp2;have f3:(upd H2 p2 (.tup [.ref p,.ref p1])) p2=some (.tup [.ref p,.ref p1]):=a_F;generalize upd H2 p2 (.tup [.ref p,.ref p1])=H3 at *
 refine q p2 H3 ((t1.trans t2).trans t3) ⟨[p,p1],SqB.tup f3,rfl,λ i x r ei er=>?_⟩
 match i with
 | 0=>cases ei; cases er; exact SqB.tup (t3 _ _ (t2 _ _ f1))
 | 1=>cases ei; cases er; exact SqB.tup (t3 _ _ f2)
 | n+2=>cases ei
theorem w_R {H:Hp} {a b c d e f u:Int} {R:Addr->Hp->Prop} (q:∀ p H',Same H H'->DdAt K H' p ([[a,b],[c,d]],[e,f],u)->R p H') :
  [V.int a,V.int b].length<=sizeLine/\∀ p,H p=none->[V.int c,V.int d].length<=sizeLine/\∀ p1,upd H p (.tup [.int a,.int b]) p1=none->[V.ref p,V.ref p1].length<=sizeLine /\
   ∀ p2,upd (upd H p (.tup [.int a,.int b])) p1 (.tup [.int c,.int d]) p2=none->[V.int e,V.int f].length<=sizeLine/\∀ p3,upd (upd (upd H p (.tup [.int a,.int b])) p1 (.tup [.int c,.int d])) p2 (.tup [.ref p,.ref p1]) p3=none ->
    [V.ref p2,V.ref p3,V.int u].length<=sizeLine/\∀ p4,upd (upd (upd (upd H p (.tup [.int a,.int b])) p1 (.tup [.int c,.int d])) p2 (.tup [.ref p,.ref p1])) p3 (.tup [.int e,.int f]) p4=none ->
     R p4 (upd (upd (upd (upd (upd H p (.tup [.int a,.int b])) p1 (.tup [.int c,.int d])) p2 (.tup [.ref p,.ref p1])) p3 (.tup [.int e,.int f])) p4 (.tup [.ref p2,.ref p3,.int u])):=by
 refine tup2 (K:=K) (R:=λ p2 H3=>[V.int e,V.int f].length<=sizeLine/\∀ p3,H3 p3=none->[V.ref p2,V.ref p3,V.int u].length<=sizeLine/\∀ p4,upd H3 p3 (.tup [.int e,.int f]) p4=none->R p4 (upd (upd H3 p3 (.tup [.int e,.int f])) p4 (.tup [.ref p2,.ref p3,.int u]))) λ p2 H3 s3 h3=>?_;refine ⟨by show 2<=sizeLine; decide,λ p3 hp3=>⟨by show 3<=sizeLine; decide,λ p4 hp4=>?_⟩⟩;have t4:=Same.new (o:=.tup [V.int e,V.int f]) hp3;have f4:(upd H3 p3 (.tup [V.int e,V.int f])) p3=_:=a_F;generalize upd H3 p3 (.tup [V.int e,V.int f])=H4 at *
 have t5:=Same.new (o:=.tup [V.ref p2,V.ref p3,V.int u]) hp4;refine q p4 _ (s3.trans (t4.trans t5)) ⟨p2,p3,a_F,h3.up (t4.trans t5),t5 _ _ f4⟩
theorem w_S {H:Hp} {x:Dd} {px pm:Addr} {e f u:Int} {R:Addr->Hp->Prop} (hm:MatB true true K H pm x.1) (q:∀ p H',Same H H'->DdAt K H' p (x.1,[e,f],u)->R p H') :
  [V.int e,V.int f].length<=sizeLine/\∀ p3,H p3=none->[V.ref pm,V.ref p3,V.int u].length<=sizeLine/\∀ p4,upd H p3 (.tup [.int e,.int f]) p4=none->R p4 (upd (upd H p3 (.tup [.int e,.int f])) p4 (.tup [.ref pm,.ref p3,.int u])):=by
 refine ⟨by show 2<=sizeLine; decide,λ p3 hp3=>⟨by show 3<=sizeLine; decide,λ p4 hp4=>?_⟩⟩;have t4:=Same.new (o:=.tup [V.int e,V.int f]) hp3;have f4:(upd H p3 (.tup [V.int e,V.int f])) p3=_:=a_F;generalize upd H p3 (.tup [V.int e,V.int f])=H4 at *
 have t5:=Same.new (o:=.tup [V.ref pm,V.ref p3,V.int u]) hp4;refine q p4 _ (t4.trans t5) ⟨pm,p3,a_F,hm.up (t4.trans t5),t5 _ _ f4⟩
inductive DL where
 | var (k:Nat) (x:Str)
 | cut (k:Nat) (x:Str) (e f u:Int)
 | lit (a b c d e f u:Int)
noncomputable def dlOk (N:List Str):Expr->DL->Bool
 | .Name y _,.var k x=>decide (y=x) && decide (N[k]?=some x)
 | .Tuple [.Subscript (.Name y _) i0 _,.Tuple [e1,f1] _ _,u1] _ _,.cut k x e f u=>decide (y=x) && decide (N[k]?=some x) && decide (litI i0=some 0) && decide (litI e1=some e) && decide (litI f1=some f) && decide (litI u1=some u)
 | .Tuple [.Tuple [.Tuple [a1,b1] _ _,.Tuple [c1,d1] _ _] _ _,.Tuple [e1,f1] _ _,u1] _ _,.lit a b c d e f u=>decide (litI a1=some a) && decide (litI b1=some b) && decide (litI c1=some c) && decide (litI d1=some d) && decide (litI e1=some e) && decide (litI f1=some f) && decide (litI u1=some u)
 | _,_=>false
noncomputable def DlAt (K:Frag) (σ:St) (H:Hp):DL->Dd->Prop
 | .var k _,z=>∃ p,σ[k]?=some (some (V.ref p))/\DdAt K H p z
 | .cut k _ e f u,z=>∃ p y,σ[k]?=some (some (V.ref p))/\DdAt K H p y/\z=(y.1,[e,f],u)
 | .lit a b c d e f u,z=>z=([[a,b],[c,d]],[e,f],u)
theorem DlAt.up {σ:St} {H H':Hp} {dl:DL} {z:Dd} (h:DlAt K σ H dl z) (s:Same H H'):DlAt K σ H' dl z:=by
 cases dl with
 | var k x=>obtain ⟨p,e,d⟩:=h; exact ⟨p,e,d.up s⟩
 | cut k x e f u=>obtain ⟨p,y,e1,d,e2⟩:=h; exact ⟨p,y,e1,d.up s,e2⟩
 | lit=>exact h
section
variable {X:Cx}
noncomputable def tDl (K:Frag) (dl:DL):TE:=λ σ H Q=>∃ z,DlAt K σ H dl z/\∀ p H',Same H H'->DdAt K H' p z->Q (.ref p) H'
noncomputable abbrev NsOk (X:Cx):Prop:=∀ (k:Nat) (x:Str),X.N[k]?=some x->Vis X.env.scope x/\(x == ("__debug__" : Str))=false/\(x == ("__classdict__" : Str))=false
theorem v_f {e:Expr} {dl:DL} (nv:NsOk X) (h:dlOk X.N e dl=true):PE X e (tDl X.K dl)/\∀ es,starEach (e :: es) X.env=(false,eval e X.env) :: starEach es X.env:=by
 unfold dlOk at h;split at h
 ·next y pos k x =>
  simp only [Bool.and_eq_true,decide_eq_true_eq] at h;obtain ⟨rfl,hk⟩:=h;obtain ⟨v1,v2,v3⟩:=nv k _ hk;refine ⟨(pv k hk v1 v2 v3).weak λ σ H Q q=>?_,λ _=>rfl⟩;obtain ⟨z,⟨p,e1,d⟩,q⟩:=q;exact ⟨_,e1,q p H (Same.refl _) d⟩
 ·next y py i0 ps e1 f1 x1 p1 u1 x2 p2 k x e f u =>
  simp only [Bool.and_eq_true,decide_eq_true_eq] at h;obtain ⟨⟨⟨⟨⟨rfl,hk⟩,h0⟩,he⟩,hf⟩,hu⟩:=h;obtain ⟨v1,v2,v3⟩:=nv k _ hk;have pi:o_m i0:=by
   unfold litI at h0;split at h0
   ·exact λ _ _=>rfl
   ·exact λ _ _=>rfl
   ·cases h0
  refine ⟨(b_P (a_A (a_J ix_B (pv k hk v1 v2 v3) (b_I h0).1 pi) (a_A (b_P (a_A (b_I he).1 (a_A (b_I hf).1 a_C ((b_I hf).2 _)) ((b_I he).2 _))) (a_A (b_I hu).1 a_C ((b_I hu).2 _)) rfl) rfl)).weak λ σ H Q q=>?_,λ _=>rfl⟩;obtain ⟨z,⟨p,y,e1,d,rfl⟩,q⟩:=q;simp only [tTup,b_X,tNil,tOp,tVar,tC];refine ⟨_,e1,e_A d λ pm hm=>?_⟩;exact w_S (K:=X.K) (x:=y) (px:=p) (R:=λ p4 H4=>Q (.ref p4) H4) hm λ p4 H4 s4 d4=>q p4 H4 s4 d4
 ·simp only [Bool.and_eq_true,decide_eq_true_eq] at h;obtain ⟨⟨⟨⟨⟨⟨ha,hb⟩,hc⟩,hd⟩,he⟩,hf⟩,hu⟩:=h;refine ⟨(b_P (a_A (b_P (a_A (b_P (a_A (b_I ha).1 (a_A (b_I hb).1 a_C ((b_I hb).2 _)) ((b_I ha).2 _))) (a_A (b_P (a_A (b_I hc).1 (a_A (b_I hd).1 a_C ((b_I hd).2 _)) ((b_I hc).2 _))) a_C rfl) rfl)) (a_A (b_P (a_A (b_I he).1 (a_A (b_I hf).1 a_C ((b_I hf).2 _)) ((b_I he).2 _))) (a_A (b_I hu).1 a_C ((b_I hu).2 _)) rfl) rfl)).weak λ σ H Q q=>?_,λ _=>rfl⟩;obtain ⟨z,rfl,q⟩:=q;simp only [tTup,b_X,tNil,tC];exact w_R (K:=X.K) (R:=λ p4 H4=>Q (.ref p4) H4) λ p4 H4 s4 d4=>q p4 H4 s4 d4
 ·cases h
noncomputable def p_f (N:List Str):List Expr->List DL->Bool
 | [],[]=>true
 | e :: es,d :: ds=>dlOk N e d && p_f N es ds
 | _,_=>false
theorem t_r (nv:NsOk X):∀ {es:List Expr} {ds:List DL},p_f X.N es ds=true->PA X es λ σ H Q=>∃ zs,Paired (DlAt X.K σ H) ds zs/\∀ ps H',Same H H'->Paired (DdAt X.K H') ps zs->Q (ps.map V.ref) H'
 | [],[],_=>a_C.weak λ σ H Q ⟨zs,h,q⟩=>by cases h; exact q [] H (Same.refl _) .nil
 | [],_ :: _,h=>by cases h
 | _ :: _,[],h=>by cases h
 | e :: es,d :: ds,h=>by
  simp only [p_f,Bool.and_eq_true] at h;have h1:=v_f nv h.1;refine (a_A h1.1 (t_r nv h.2) (h1.2 es)).weak λ σ H Q ⟨zs,hz,q⟩=>?_;cases hz with
  | @cons _ z _ zs hz1 hz2 =>
   refine ⟨z,hz1,λ p H1 s1 d1=>⟨zs,Paired.mapP hz2 λ _ _ w=>w.up s1,λ ps H2 s2 d2=>?_⟩⟩;exact q (p :: ps) H2 (s1.trans s2) (.cons (d1.up s2) d2)
noncomputable def t_s (N:List Str):Expr->List DL->Bool
 | .List es _,ds=>p_f N es ds && decide (ds.length<=1000)
 | _,_=>false
theorem w_q {e:Expr} {ds:List DL} (nv:NsOk X) (h:t_s X.N e ds=true):PE X e (λ σ H Q=>∃ zs,Paired (DlAt X.K σ H) ds zs/\∀ l H',Same H H'->LstD X.K H' l zs->Q (.ref l) H')/\∀ es,starEach (e :: es) X.env=(false,eval e X.env) :: starEach es X.env:=by
 unfold t_s at h;split at h
 ·simp only [Bool.and_eq_true,decide_eq_true_eq] at h;refine ⟨(d_T (t_r nv h.1)).weak λ σ H Q ⟨zs,hz,q⟩=>⟨zs,hz,λ ps H1 s1 d1=>⟨?_,λ l hl=>?_⟩⟩,λ _=>rfl⟩
  ·rw [zqe,a_Q d1,← a_Q hz];exact zS h.2 (by decide)
  ·exact q l _ (s1.trans (Same.new hl)) ⟨ps,a_F,Paired.mapP d1 λ _ _ w=>w.up (Same.new hl)⟩
 ·cases h
noncomputable def k_M (N:List Str):List Expr->List (List DL)->Bool
 | [],[]=>true
 | e :: es,d :: ds=>t_s N e d && k_M N es ds
 | _,_=>false
theorem p_g (nv:NsOk X):∀ {es:List Expr} {ds:List (List DL)},k_M X.N es ds=true->PA X es λ σ H Q=>∃ zss,Paired (λ d z=>Paired (DlAt X.K σ H) d z) ds zss/\∀ as H',Same H H'->Paired (LstD X.K H') as zss->Q (as.map V.ref) H'
 | [],[],_=>a_C.weak λ σ H Q ⟨zs,h,q⟩=>by cases h; exact q [] H (Same.refl _) .nil
 | [],_ :: _,h=>by cases h
 | _ :: _,[],h=>by cases h
 | e :: es,d :: ds,h=>by
  simp only [k_M,Bool.and_eq_true] at h;have h1:=w_q nv h.1;refine (a_A h1.1 (p_g nv h.2) (h1.2 es)).weak λ σ H Q ⟨zs,hz,q⟩=>?_;cases hz with
  | @cons _ z _ zs hz1 hz2 =>
   refine ⟨z,hz1,λ p H1 s1 d1=>⟨zs,Paired.mapP hz2 λ _ _ w=>Paired.mapP w λ _ _ w=>w.up s1,λ ps H2 s2 d2=>?_⟩⟩;exact q (p :: ps) H2 (s1.trans s2) (.cons (d1.up s2) d2)
noncomputable def LLs (K:Frag) (H:Hp) (l:Addr) (zss:List (List Dd)):Prop:=∃ as:List Addr,H l=some (.lst (as.map V.ref))/\Paired (LstD K H) as zss
theorem LLs.up {H H':Hp} {l:Addr} {zss:List (List Dd)} (h:LLs K H l zss) (s:Same H H'):LLs K H' l zss:=let ⟨as,h1,h2⟩:=h; ⟨as,s _ _ h1,Paired.mapP h2 λ _ _ w=>w.up s⟩
noncomputable def tLL (K:Frag) (ds:List (List DL)):TE:=λ σ H Q=>∃ zss,Paired (λ d z=>Paired (DlAt K σ H) d z) ds zss/\∀ l H',Same H H'->H l=none->LLs K H' l zss->Q (.ref l) H'
noncomputable def i_R (N:List Str):Expr->List (List DL)->Bool
 | .List es _,ds=>k_M N es ds && decide (ds.length<=1000)
 | _,_=>false
theorem k_N {e:Expr} {ds:List (List DL)} (nv:NsOk X) (h:i_R X.N e ds=true):PE X e (tLL X.K ds):=by
 unfold i_R at h;split at h
 ·simp only [Bool.and_eq_true,decide_eq_true_eq] at h;refine (d_T (p_g nv h.1)).weak λ σ H Q ⟨zs,hz,q⟩=>⟨zs,hz,λ as H1 s1 d1=>⟨?_,λ l hl=>?_⟩⟩
  ·rw [zqe,a_Q d1,← a_Q hz];exact zS h.2 (by decide)
  ·refine q l _ (s1.trans (Same.new hl)) ?_ ⟨as,a_F,Paired.mapP d1 λ _ _ w=>w.up (Same.new hl)⟩;cases z:H l with
   | none=>rfl
   | some o=>rw [s1 _ _ z] at hl; cases hl
 ·cases h
end
noncomputable def v_g:Expr->Bool
 | .Tuple _ _ _=>true
 | _=>false
theorem w_r {es:List Expr} {k:Nat} {pos:Pos} {t:Option Expr} {l:Nat} {env:Env} (ht:∀ es k pos,t≠some (.Tuple es k pos)):swapsWith (.Tuple es k pos) t l env=pure false:=by
 cases t with
 | none=>rfl
 | some x=>cases x <;> first | rfl | exact yJ rfl (ht _ _ _)
noncomputable def e_Y (N:List Str) (x:Str) (d:DL):Stmt->Bool
 | .Assign [.Name y _] e _=>decide (y=x) && v_g e && dlOk N e d
 | _=>false
noncomputable def t_t (N:List Str) (x:Str) (ds:List (List DL)):Stmt->Bool
 | .Assign [.Name y _] e _=>decide (y=x) && isList e && i_R N e ds
 | _=>false
noncomputable def p_h (N:List Str) (x:Str) (ds:List (List DL)):Stmt->Bool
 | .Assign [.Name y _] (.BinOp (.Name z _) .Add e _) _=>decide (y=x) && decide (z=x) && i_R N e ds
 | _=>false
noncomputable def t_u (N:List Str) (x n:Str) (ds:List (List DL)):Stmt->Bool
 | .Return (some (.Subscript (.BinOp (.Name z _) .Add e _) (.BinOp (.Name m _) .Sub o _) _)) _=>decide (z=x) && decide (m=n) && decide (litI o=some 1) && i_R N e ds
 | _=>false
section
variable {X:Cx} {st:Stmt}
theorem h_D {i:Nat} {x:Str} {d:DL} (h:e_Y X.N x d st=true) (nv:NsOk X) (hN:X.N.Nodup) (hi:X.N[i]?=some x) (hx:X.env.scope.names.lookup x=some .local):PS X st (tAsg (tDl X.K d) (a_T i)):=by
 unfold e_Y at h;split at h
 ·rename_i y p e q;simp only [Bool.and_eq_true,decide_eq_true_eq] at h;obtain ⟨⟨rfl,hl⟩,hd⟩:=h;unfold v_g at hl;split at hl
  ·exact a_R hN hi (.inl hx) (v_f nv hd).1 (w_r λ _ _ _ z=>by cases z) (.inr hx)
  ·cases hl
 ·cases h
theorem w_T {i:Nat} {x:Str} {ds:List (List DL)} (h:t_t X.N x ds st=true) (nv:NsOk X) (hN:X.N.Nodup) (hi:X.N[i]?=some x) (hx:X.env.scope.names.lookup x=some .local):PS X st (tAsg (tLL X.K ds) (a_T i)):=by
 unfold t_t at h;split at h
 ·rename_i y p e q;simp only [Bool.and_eq_true,decide_eq_true_eq] at h;obtain ⟨⟨rfl,hl⟩,hd⟩:=h;unfold isList at hl;split at hl
  ·exact a_R hN hi (.inl hx) (k_N nv hd) w_C (.inr hx)
  ·cases hl
 ·cases h
theorem v_h {i:Nat} {x:Str} {ds:List (List DL)} (h:p_h X.N x ds st=true) (nv:NsOk X) (hN:X.N.Nodup) (hi:X.N[i]?=some x) (hx:X.env.scope.names.lookup x=some .local):PS X st (tAsg (tOp rCat (tVar i) (tLL X.K ds)) (a_T i)):=by
 unfold p_h at h;split at h
 ·simp only [Bool.and_eq_true,decide_eq_true_eq] at h;obtain ⟨⟨rfl,rfl⟩,hd⟩:=h;obtain ⟨v1,v2,v3⟩:=nv i _ hi;exact a_R hN hi (.inl hx) (a_Z j_M (pv i hi v1 v2 v3) (k_N nv hd)) w_D (.inr hx)
 ·cases h
theorem w_U {i j:Nat} {x n:Str} {ds:List (List DL)} (h:t_u X.N x n ds st=true) (nv:NsOk X) (hi:X.N[i]?=some x) (hj:X.N[j]?=some n):PS X st (tRet (tOp (rIxB X.K) (tOp rCat (tVar i) (tLL X.K ds)) (tOp (rI0 λ i j=>.int (i - j)) (tVar j) (tC (.int 1))))):=by
 unfold t_u at h;split at h
 ·simp only [Bool.and_eq_true,decide_eq_true_eq] at h;obtain ⟨⟨⟨rfl,rfl⟩,ho⟩,hd⟩:=h;obtain ⟨v1,v2,v3⟩:=nv i _ hi;obtain ⟨w1,w2,w3⟩:=nv j _ hj;exact a_N (a_J ix_B (a_Z j_M (pv i hi v1 v2 v3) (k_N nv hd)) (a_Z h_W (pv j hj w1 w2 w3) (b_I ho).1) λ _ _=>rfl)
 ·cases h
end
@[irreducible] noncomputable def S_t (k:Nat):Stmt:=(a_H s_n).getD k (.Pass ⟨0,0,0,0⟩)
theorem w_s:a_H s_n=[S_t 0,S_t 1,S_t 2,S_t 3,S_t 4,S_t 5,S_t 6,S_t 7,S_t 8,S_t 9,S_t 10]:=by unfold S_t; kernel_rfl
theorem i_S {X:Cx} {b b2:List Stmt} {u:TS} (h:b=b2) (p:PSs X b2 u):PSs X b u:=by rw [h]; exact p
noncomputable def vH:DL:=.var 1 "_law_half"
noncomputable def vS:DL:=.var 2 "_law_side"
noncomputable def vW:DL:=.var 3 "_law_swap"
noncomputable def vL:DL:=.var 4 "_law_slant"
noncomputable def vQ:DL:=.var 5 "_law_quarter"
noncomputable def vTh:DL:=.var 6 "_law_third"
noncomputable def vX:DL:=.var 7 "_law_sixth"
noncomputable def ll1:List (List DL):=[[],[vH],[vS],[.cut 2 "_law_side" 0 1 2],[vW],[vS,.lit 1 0 0 (-1) 0 0 1]]
noncomputable def ll2:List (List DL):=[[vH,.cut 2 "_law_side" 1 0 2],[vH,.cut 2 "_law_side" 1 1 2],[vH,vW],[vQ]]
noncomputable def ll3:List (List DL):=[[vQ,vS],[vQ,.cut 2 "_law_side" 1 1 2],[vTh],[vTh,vL],[vTh,vW]]
noncomputable def ll4:List (List DL):=[[vX],[vX,vW]]
theorem q_t0:e_Y N_n "_law_half" (.lit (-1) 0 0 (-1) 0 0 1) (S_t 0)=true:=by unfold S_t; kernel_rfl
theorem q_t1:e_Y N_n "_law_side" (.lit (-1) 0 0 1 0 0 1) (S_t 1)=true:=by unfold S_t; kernel_rfl
theorem q_t2:e_Y N_n "_law_swap" (.lit 0 1 1 0 0 0 1) (S_t 2)=true:=by unfold S_t; kernel_rfl
theorem q_t3:e_Y N_n "_law_slant" (.lit 0 (-1) (-1) 0 0 0 1) (S_t 3)=true:=by unfold S_t; kernel_rfl
theorem q_t4:e_Y N_n "_law_quarter" (.lit 0 (-1) 1 0 0 0 1) (S_t 4)=true:=by unfold S_t; kernel_rfl
theorem q_t5:e_Y N_n "_law_third" (.lit 0 (-1) 1 (-1) 0 0 1) (S_t 5)=true:=by unfold S_t; kernel_rfl
theorem q_t6:e_Y N_n "_law_sixth" (.lit 1 (-1) 1 0 0 0 1) (S_t 6)=true:=by unfold S_t; kernel_rfl
theorem q_t7:t_t N_n "_law_some" ll1 (S_t 7)=true:=by unfold S_t; kernel_rfl
theorem q_t8:p_h N_n "_law_some" ll2 (S_t 8)=true:=by unfold S_t; kernel_rfl
theorem q_t9:p_h N_n "_law_some" ll3 (S_t 9)=true:=by unfold S_t; kernel_rfl
theorem w_V:t_u N_n "_law_some" "_law_number_here" ll4 (S_t 10)=true:=by unfold S_t; kernel_rfl
theorem n_Z {H:Hp} {l1 l2:Addr} {Z1 Z2:List (List Dd)} {Q:VK} (h1:LLs K H l1 Z1) (h2:LLs K H l2 Z2) (hz:Z1.length+Z2.length<=1000) (q:∀ p H',Same H H'->H p=none->LLs K H' p (Z1++Z2)->Q (.ref p) H'):rCat (.ref l1) (.ref l2) H Q:=by
 obtain ⟨as,e1,p1⟩:=h1;obtain ⟨bs,e2,p2⟩:=h2;refine ⟨l1,l2,_,_,rfl,rfl,e1,e2,?_,λ p hp=>?_⟩
 ·rw [zqe,zqe,a_Q p1,a_Q p2];exact zS hz (by decide)
 ·refine q p _ (Same.new hp) hp ⟨as++bs,by rw [a_F,List.map_append],?_⟩;have app:∀ {xs:List Addr} {Z:List (List Dd)},Paired (LstD K (upd H p (.lst (as.map V.ref++bs.map V.ref)))) xs Z->∀ {ys:List Addr} {W:List (List Dd)},Paired (LstD K (upd H p (.lst (as.map V.ref++bs.map V.ref)))) ys W->Paired (LstD K (upd H p (.lst (as.map V.ref++bs.map V.ref)))) (xs++ys) (Z++W):=by
   intro xs Z hx
   induction hx with
   | nil=>intro ys W hy; exact hy
   | cons a _ ih=>intro ys W hy; exact .cons a (ih hy)
  exact app (Paired.mapP p1 λ _ _ w=>w.up (Same.new hp)) (Paired.mapP p2 λ _ _ w=>w.up (Same.new hp))
theorem ok_n (T:Txt K mg t):FnOk P w K mg base CX0 1 t.a_n t.d_n pg' (sp_n K):=by
 refine T.F_n.ok sc_n (by walk_at "v") (λ cdv A outer s H vs Q E hr h=>?_)
 ·obtain ⟨i,rfl,hi,hQ⟩:=h;have nv:NsOk (cxOf CX0 P w K mg base N_n (Str.ofString "_law_told") (a_B s_n) t.a_n cdv A outer s H E).nox:=by
   intro k x e
   match k with
   | 0=>cases e; exact ⟨Or.inl rfl,by decide,by decide⟩
   | 1=>cases e; exact ⟨Or.inl rfl,by decide,by decide⟩
   | 2=>cases e; exact ⟨Or.inl rfl,by decide,by decide⟩
   | 3=>cases e; exact ⟨Or.inl rfl,by decide,by decide⟩
   | 4=>cases e; exact ⟨Or.inl rfl,by decide,by decide⟩
   | 5=>cases e; exact ⟨Or.inl rfl,by decide,by decide⟩
   | 6=>cases e; exact ⟨Or.inl rfl,by decide,by decide⟩
   | 7=>cases e; exact ⟨Or.inl rfl,by decide,by decide⟩
   | 8=>cases e; exact ⟨Or.inl rfl,by decide,by decide⟩
   | n+9=>cases e
  have nd:=sc_n.nd;refine ⟨_,i_S w_s (a_D (h_D (i:=1) q_t0 nv nd rfl rfl) (a_D (h_D (i:=2) q_t1 nv nd rfl rfl) (a_D (h_D (i:=3) q_t2 nv nd rfl rfl) (a_D (h_D (i:=4) q_t3 nv nd rfl rfl) (a_D (h_D (i:=5) q_t4 nv nd rfl rfl) (a_D (h_D (i:=6) q_t5 nv nd rfl rfl) (a_D (h_D (i:=7) q_t6 nv nd rfl rfl) (a_D (w_T (i:=8) q_t7 nv nd rfl rfl) (a_D (v_h (i:=8) q_t8 nv nd rfl rfl) (a_D (v_h (i:=8) q_t9 nv nd rfl rfl) (a_G (w_U (i:=8) (j:=0) w_V nv rfl rfl)))))))))))),?_⟩;show tSeq _ _ _ [some (.int (i+1)),none,none,none,none,none,none,none,none] H;refine st λ N1 e1=>⟨_,rfl,λ p1 H1 s1 d1=>?_⟩;show N1 [some (.int (i+1)),some (.ref p1),none,none,none,none,none,none,none] H1;subst e1;refine st λ N1 e1=>⟨_,rfl,λ p2 H2 s2 d2=>?_⟩;show N1 [some (.int (i+1)),some (.ref p1),some (.ref p2),none,none,none,none,none,none] H2;subst e1;refine st λ N1 e1=>⟨_,rfl,λ p3 H3 s3 d3=>?_⟩;show N1 [some (.int (i+1)),some (.ref p1),some (.ref p2),some (.ref p3),none,none,none,none,none] H3;subst e1;refine st λ N1 e1=>⟨_,rfl,λ p4 H4 s4 d4=>?_⟩;show N1 [some (.int (i+1)),some (.ref p1),some (.ref p2),some (.ref p3),some (.ref p4),none,none,none,none] H4;subst e1;refine st λ N1 e1=>⟨_,rfl,λ p5 H5 s5 d5=>?_⟩;show N1 [some (.int (i+1)),some (.ref p1),some (.ref p2),some (.ref p3),some (.ref p4),some (.ref p5),none,none,none] H5;subst e1;refine st λ N1 e1=>⟨_,rfl,λ p6 H6 s6 d6=>?_⟩;show N1 [some (.int (i+1)),some (.ref p1),some (.ref p2),some (.ref p3),some (.ref p4),some (.ref p5),some (.ref p6),none,none] H6;subst e1;refine st λ N1 e1=>⟨_,rfl,λ p7 H7 s7 d7=>?_⟩;show N1 [some (.int (i+1)),some (.ref p1),some (.ref p2),some (.ref p3),some (.ref p4),some (.ref p5),some (.ref p6),some (.ref p7),none] H7;have c1:=d1.up (s2.trans (s3.trans (s4.trans (s5.trans (s6.trans s7)))));have c2:=d2.up (s3.trans (s4.trans (s5.trans (s6.trans s7))));have c3:=d3.up (s4.trans (s5.trans (s6.trans s7)));have c4:=d4.up (s5.trans (s6.trans s7));have c5:=d5.up (s6.trans s7);have c6:=d6.up s7;have s07:=s1.trans (s2.trans (s3.trans (s4.trans (s5.trans (s6.trans s7)))));have at1:∀ (G:Hp) (v:Option V),Same H7 G->DlAt K [some (.int (i+1)),some (.ref p1),some (.ref p2),some (.ref p3),some (.ref p4),some (.ref p5),some (.ref p6),some (.ref p7),v] G vH g_H:=λ G v sG=>⟨p1,rfl,c1.up sG⟩;have at2:∀ (G:Hp) (v:Option V),Same H7 G->DlAt K [some (.int (i+1)),some (.ref p1),some (.ref p2),some (.ref p3),some (.ref p4),some (.ref p5),some (.ref p6),some (.ref p7),v] G vS i_L:=λ G v sG=>⟨p2,rfl,c2.up sG⟩;have at3:∀ (G:Hp) (v:Option V),Same H7 G->DlAt K [some (.int (i+1)),some (.ref p1),some (.ref p2),some (.ref p3),some (.ref p4),some (.ref p5),some (.ref p6),some (.ref p7),v] G vW g_I:=λ G v sG=>⟨p3,rfl,c3.up sG⟩;have at4:∀ (G:Hp) (v:Option V),Same H7 G->DlAt K [some (.int (i+1)),some (.ref p1),some (.ref p2),some (.ref p3),some (.ref p4),some (.ref p5),some (.ref p6),some (.ref p7),v] G vL n_W:=λ G v sG=>⟨p4,rfl,c4.up sG⟩;have at5:∀ (G:Hp) (v:Option V),Same H7 G->DlAt K [some (.int (i+1)),some (.ref p1),some (.ref p2),some (.ref p3),some (.ref p4),some (.ref p5),some (.ref p6),some (.ref p7),v] G vQ g_j:=λ G v sG=>⟨p5,rfl,c5.up sG⟩;have at6:∀ (G:Hp) (v:Option V),Same H7 G->DlAt K [some (.int (i+1)),some (.ref p1),some (.ref p2),some (.ref p3),some (.ref p4),some (.ref p5),some (.ref p6),some (.ref p7),v] G vTh g_k:=λ G v sG=>⟨p6,rfl,c6.up sG⟩;have at7:∀ (G:Hp) (v:Option V),Same H7 G->DlAt K [some (.int (i+1)),some (.ref p1),some (.ref p2),some (.ref p3),some (.ref p4),some (.ref p5),some (.ref p6),some (.ref p7),v] G vX i_M:=λ G v sG=>⟨p7,rfl,d7.up sG⟩;have atc:∀ (G:Hp) (v:Option V) (e f u:Int),Same H7 G->DlAt K [some (.int (i+1)),some (.ref p1),some (.ref p2),some (.ref p3),some (.ref p4),some (.ref p5),some (.ref p6),some (.ref p7),v] G (.cut 2 "_law_side" e f u) ([[-1,0],[0,1]],[e,f],u):=λ G v e f u sG=>⟨p2,_,rfl,c2.up sG,rfl⟩;clear d1 d2 d3 d4 d5 d6 s1 s2 s3 s4 s5 s6 s7;subst e1;refine st λ N1 e1=>⟨[[],[g_H],[i_L],[p_a],[g_I],[i_L,v_e]],.cons .nil (.cons (.cons (at1 _ _ (Same.refl _)) .nil) (.cons (.cons (at2 _ _ (Same.refl _)) .nil) (.cons (.cons (atc _ _ _ _ _ (Same.refl _)) .nil) (.cons (.cons (at3 _ _ (Same.refl _)) .nil) (.cons (.cons (at2 _ _ (Same.refl _)) (.cons rfl .nil)) .nil))))),λ l1 G1 g1 n1 h1=>?_⟩;show N1 [some (.int (i+1)),some (.ref p1),some (.ref p2),some (.ref p3),some (.ref p4),some (.ref p5),some (.ref p6),some (.ref p7),some (.ref l1)] G1;subst e1;refine st λ N1 e1=>⟨_,rfl,[[g_H,p_b],[g_H,h_R],[g_H,g_I],[g_j]],.cons (.cons (at1 _ _ g1) (.cons (atc _ _ _ _ _ g1) .nil)) (.cons (.cons (at1 _ _ g1) (.cons (atc _ _ _ _ _ g1) .nil)) (.cons (.cons (at1 _ _ g1) (.cons (at3 _ _ g1) .nil)) (.cons (.cons (at5 _ _ g1) .nil) .nil))),λ l2 G2 g2 n2 h2=>?_⟩;refine n_Z (h1.up g2) h2 (by decide) λ l3 G3 g3 n3 h3=>?_;show N1 [some (.int (i+1)),some (.ref p1),some (.ref p2),some (.ref p3),some (.ref p4),some (.ref p5),some (.ref p6),some (.ref p7),some (.ref l3)] G3;have g03:=g1.trans (g2.trans g3);subst e1;refine st λ N1 e1=>⟨_,rfl,[[g_j,i_L],[g_j,h_R],[g_k],[g_k,n_W],[g_k,g_I]],.cons (.cons (at5 _ _ g03) (.cons (at2 _ _ g03) .nil)) (.cons (.cons (at5 _ _ g03) (.cons (atc _ _ _ _ _ g03) .nil)) (.cons (.cons (at6 _ _ g03) .nil) (.cons (.cons (at6 _ _ g03) (.cons (at4 _ _ g03) .nil)) (.cons (.cons (at6 _ _ g03) (.cons (at3 _ _ g03) .nil)) .nil)))),λ l4 G4 g4 n4 h4=>?_⟩;refine n_Z (h3.up g4) h4 (by decide) λ l5 G5 g5 n5 h5=>?_;show N1 [some (.int (i+1)),some (.ref p1),some (.ref p2),some (.ref p3),some (.ref p4),some (.ref p5),some (.ref p6),some (.ref p7),some (.ref l5)] G5;have g05:=g03.trans (g4.trans g5);subst e1;refine ⟨_,rfl,[[i_M],[i_M,g_I]],.cons (.cons (at7 _ _ g05) .nil) (.cons (.cons (at7 _ _ g05) (.cons (at3 _ _ g05) .nil)) .nil),λ l6 G6 g6 n6 h6=>?_⟩;refine n_Z (h5.up g6) h6 (by decide) λ l7 G7 g7 n7 h7=>?_;refine ⟨_,rfl,_,_,rfl,rfl,?_⟩;obtain ⟨as,ea,pa⟩:=h7;have hal:as.length=17:=a_Q pa;obtain ⟨a,eai⟩:∃ a,as[i]?=some a:=⟨_,zqd (by omega)⟩;obtain ⟨ms,em,hm⟩:=b_S pa eai;have em':tgL[i]?=some ms:=em;have etg:tgM i=ms:=by unfold tgM; rw [zqc,em']; rfl
  refine ⟨false,l7,_,_,_,rfl,rfl,SqB.lst ea,a_V (k:=i) (by rw [zH,eai]; rfl) (by omega),?_⟩;refine hQ a G7 (s07.trans (g05.trans (g6.trans g7))) ?_;rw [etg];exact hm
theorem q_G {U:Int} {ts:List Int} (hU:0 < U):(∀ z∈redT U ts,∃ t∈ts,z.natAbs<=t.natAbs)/\0 < redU U ts/\redU U ts<=U:=by
 have hne:=g_z ts (show U≠0 by omega);have hp:0 < redU U ts:=g_V ts (by omega);refine ⟨λ z hz=>?_,hp,?_⟩
 ·unfold redT at hz;obtain ⟨t,ht,rfl⟩:=List.mem_map.mp hz;refine ⟨t,ht,?_⟩;have e:t.fdiv (cs U ts)*cs U ts=t:=b_Z hne (d_U (g_U ht));have e2:=congrArg Int.natAbs e;rw [yE] at e2;have:1<=(cs U ts).natAbs:=by omega
  rw [← e2];exact Nat.le_mul_of_pos_right _ this
 ·have e:redU U ts*cs U ts=U:=b_Z hne (d_U (gl_u U ts));have e2:=congrArg Int.natAbs e;rw [yE] at e2;have h1:1<=(cs U ts).natAbs:=by omega
  have:=Nat.le_mul_of_pos_right (redU U ts).natAbs h1;omega
noncomputable def weeB (x:Dd):Bool:=decide (x.1.length=2) && x.1.all (λ r=>decide (r.length=2) && r.all λ z=>decide (z.natAbs<=1)) && decide (x.2.1.length=2) && x.2.1.all (λ z=>decide (z.natAbs < 4)) && decide (0 < x.2.2) && decide (x.2.2 < 4)
theorem o_a {x:Dd} (h:weeB x=true):Wee 2 x:=by
 simp only [weeB,Bool.and_eq_true,decide_eq_true_eq,List.all_eq_true] at h;obtain ⟨⟨⟨⟨⟨h1,h2⟩,h3⟩,h4⟩,h5⟩,h6⟩:=h;exact ⟨⟨h1,λ r hr=>(h2 r hr).1⟩,h3,h5,λ r hr z hz=>(h2 r hr).2 z hz,h4,h6⟩
theorem Wee.le {B C:Nat} {x:Dd} (h:Wee B x) (hc:B<=C):Wee C x:=by
 have e:(2:Nat) ^ B<=2 ^ C:=zM (by decide) hc;exact ⟨h.sq,h.len,h.pos,h.m,λ z hz=>zI (h.t z hz) e,Int.lt_of_lt_of_le h.u (by exact_mod_cast e)⟩
noncomputable def walkB (i:Nat):Bool:=(tgM i).all weeB && (tgS i).all (λ m=>weeB m.1) && (tgS i).all (λ m=>decide (a_W m.1=m.1)) && (tgS i).all (λ m=>(tgM i).all λ s=>((tgS i).map (·.1)).contains (d_z 2 m.1 (a_W s))) && ((tgS i).map (·.1)).contains (b_K 2) && decide ((tgS i).length<=12)
theorem t_v:(List.range 17).all walkB=true:=by decide +kernel
structure Walk (i:Nat):Prop where
 ma:∀ s∈tgM i,Wee 2 s
 me:∀ m∈tgS i,Wee 2 m.1
 re:∀ m∈tgS i,a_W m.1=m.1
 st:∀ m∈tgS i,∀ s∈tgM i,d_z 2 m.1 (a_W s)∈(tgS i).map (·.1)
 s0:b_K 2∈(tgS i).map (·.1)
 le:(tgS i).length<=12
theorem p_i {i:Nat} (hi:i < 17):Walk i:=by
 have:=List.all_eq_true.mp t_v i (List.mem_range.mpr hi);simp only [walkB,Bool.and_eq_true,decide_eq_true_eq,List.all_eq_true,List.contains_eq_mem] at this;obtain ⟨⟨⟨⟨⟨h1,h2⟩,h3⟩,h4⟩,h5⟩,h6⟩:=this;exact ⟨λ s hs=>o_a (h1 s hs),λ m hm=>o_a (h2 m hm),h3,h4,h5,h6⟩
structure Here (i B:Nat) (x:Dd):Prop where
 w:Wee B x
 m:a_W x∈(tgS i).map (·.1)
theorem h_f {i B:Nat} {x s:Dd} (W:Walk i) (h:Here i B x) (hs:s∈tgM i):Here i (B+4) (behD 2 x s):=by
 have ws:=W.ma s hs;have er:=t_n (d:=2) h.w.pos ws.pos;obtain ⟨y,hy,ey⟩:=List.mem_map.mp h.m;have hst:a_W (behD 2 x s)∈(tgS i).map (·.1):=by rw [er,← ey]; exact W.st y hy s hs
 obtain ⟨z,hz,ez⟩:=List.mem_map.mp hst;have wz:=W.me z hz;have e1:(behD 2 x s).1=z.1.1:=by rw [ez]; rfl
 obtain ⟨M,ss,u⟩:=x;obtain ⟨N,ts,v⟩:=s;have hw:=h.w;obtain ⟨s0,s1,rfl⟩:=i_Q hw.len;obtain ⟨t0,t1,rfl⟩:=i_Q ws.len;obtain ⟨b0,b1,b2,b3,rfl⟩:=sq2 ws.sq;have hu:0 < u:=hw.pos;have hv:0 < v:=ws.pos;obtain ⟨r1,r2,r3⟩:=q_G (U:=v*u) (ts:=movT [[b0,b1],[b2,b3]] [t0,t1] v [s0,s1] u) (Int.mul_pos hv hu);have q0:s0.natAbs < 2 ^ B:=hw.t s0 (.head _);have q1:s1.natAbs < 2 ^ B:=hw.t s1 (.tail _ (.head _));have qu:u < 2 ^ B:=hw.u;have p0:t0.natAbs < 4:=ws.t t0 (.head _);have p1:t1.natAbs < 4:=ws.t t1 (.tail _ (.head _));have pv:v < 4:=ws.u;have m0:b0.natAbs<=1:=ws.m _ (.head _) _ (.head _);have m1:b1.natAbs<=1:=ws.m _ (.head _) _ (.tail _ (.head _));have m2:b2.natAbs<=1:=ws.m _ (.tail _ (.head _)) _ (.head _);have m3:b3.natAbs<=1:=ws.m _ (.tail _ (.head _)) _ (.tail _ (.head _));have e16:(2:Nat) ^ (B+4)=2 ^ B*16:=by rw [Nat.pow_add]
 have ecast:((2 ^ B:Nat):Int)=(2:Int) ^ B:=by simp
 have qu':u.natAbs < 2 ^ B:=by omega
 have top:∀ (c d e t':Int),c.natAbs<=1->d.natAbs<=1->t'.natAbs < 4->((c*s0+d*s1)*v+t'*u).natAbs < 2 ^ (B+4):=λ c d e t' h1 h2 h3=>by
  have a1:(c*s0).natAbs<=s0.natAbs:=by rw [yE]; exact zS (zK _ h1) (by omega)
  have a2:(d*s1).natAbs<=s1.natAbs:=by rw [yE]; exact zS (zK _ h2) (by omega)
  have a3:(c*s0+d*s1).natAbs<=2*2 ^ B:=by
   have:=Int.natAbs_add_le (c*s0) (d*s1);omega
  have a4:((c*s0+d*s1)*v).natAbs<=2*2 ^ B*3:=by
   rw [yE];exact Nat.mul_le_mul a3 (by omega)
  have a5:(t'*u).natAbs<=3*2 ^ B:=by
   rw [yE];exact Nat.mul_le_mul (by omega) (by omega)
  have a6:=Int.natAbs_add_le ((c*s0+d*s1)*v) (t'*u);have:=Nat.two_pow_pos B;omega
 refine ⟨⟨by rw [e1]; exact wz.sq,?_,r2,by rw [e1]; exact wz.m,λ z' hz'=>?_,?_⟩,hst⟩
 ·show (redT _ _).length=2;unfold redT;rw [zqe,p_e];rfl
 ·obtain ⟨t',ht',hle⟩:=r1 z' hz';refine Nat.lt_of_le_of_lt hle ?_;rw [p_e] at ht';simp only [List.mem_cons,List.not_mem_nil,or_false] at ht';rcases ht' with rfl | rfl
  ·exact top b0 b1 0 t0 m0 m1 p0
  ·exact top b2 b3 0 t1 m2 m3 p1
 ·have h16:((2 ^ (B+4):Nat):Int)=(2:Int) ^ (B+4):=by simp
  rw [← h16,e16];have a:(v*u).natAbs<=3*2 ^ B:=by rw [yE]; exact Nat.mul_le_mul (by omega) (by omega)
  have hp:=Nat.two_pow_pos B;have hpos:=Int.mul_pos hv hu;generalize (2:Nat) ^ B=K2 at *
  refine Int.lt_of_le_of_lt (show redU (v*u) (movT [[b0,b1],[b2,b3]] [t0,t1] v [s0,s1] u)<=v*u from r3) ?_;generalize v*u=U at *
  omega
theorem i_T {i:Nat} (W:Walk i):Here i 2 (b_K 2):=⟨o_a (by decide +kernel),by have:=W.s0; rw [show a_W (b_K 2)=b_K 2 by decide +kernel]; exact this⟩
noncomputable def f_Z (i:Nat) (w:List Nat):Dd:=w.foldl (λ x k=>behD 2 x ((tgM i).getD k (b_K 2))) (b_K 2)
noncomputable def v_i (i:Nat):Bool:=(tgS i).all λ m=>m.2.all (λ k=>decide (k < (tgM i).length)) && decide (a_W (f_Z i m.2)=m.1) && decide (m.2.length<=12)
theorem t_w:(List.range 17).all v_i=true:=by decide +kernel
theorem u_I {i:Nat} (hi:i < 17):∀ m∈tgS i,(∀ k∈m.2,k < (tgM i).length)/\a_W (f_Z i m.2)=m.1/\m.2.length<=12:=by
 have:=List.all_eq_true.mp t_w i (List.mem_range.mpr hi);simp only [v_i,Bool.and_eq_true,decide_eq_true_eq,List.all_eq_true] at this;exact λ m hm=>⟨(this m hm).1.1,(this m hm).1.2,(this m hm).2⟩
noncomputable def t_x:List Int:=[1,2,2,2,2,4,4,4,4,4,8,8,3,6,6,6,12]
theorem t_y:(List.range 17).all (λ i=>decide (t_x[i]?=some ((tgS i).length:Int)))=true:=by decide +kernel
theorem u_J {i:Nat} (hi:i < 17):t_x[i]?=some ((tgS i).length:Int):=by simpa using List.all_eq_true.mp t_y i (List.mem_range.mpr hi)
noncomputable def nsB (N:List Str) (sc:Scope):Bool:=N.all λ x=>(decide (sc.names.lookup x=some .local) || decide (sc.names.lookup x=some .cell) || decide (sc.names.lookup x=some .free)) && (x == ("__debug__" : Str)) == false && (x == ("__classdict__" : Str)) == false
theorem v_j {X:Cx} {N:List Str} {sc:Scope} (h1:X.N=N) (h2:X.env.scope=sc) (h:nsB N sc=true):NsOk X:=λ k x e=>by
 rw [h1] at e;have:=List.all_eq_true.mp h x (zqb e);simp only [Bool.and_eq_true,Bool.or_eq_true,decide_eq_true_eq,beq_iff_eq] at this;rw [h2];obtain ⟨⟨h3,h4⟩,h5⟩:=this;exact ⟨h3.elim (λ h3=>h3.elim .inl λ h3=>.inr (.inl h3)) λ h3=>.inr (.inr h3),by simpa using h4,by simpa using h5⟩
theorem t_z {X:Cx} {st:Stmt} {N:List Str} {sc:Scope} {i:Nat} {x:Str} {d:DL} (e:X.N=N) (e2:X.env.scope=sc) (h:e_Y N x d st=true) (nb:nsB N sc=true) (hN:X.N.Nodup) (hi:X.N[i]?=some x) (hx:X.env.scope.names.lookup x=some .local):PS X st (tAsg (tDl X.K d) (a_T i)):=h_D (by rw [e]; exact h) (v_j e e2 nb) hN hi hx
noncomputable def e0P:Expr:=.Constant .none 0 ⟨0,0,0,0⟩
noncomputable def forT:Stmt->Expr | .For a _ _ _ _=>a | _=>e0P
noncomputable def forI:Stmt->Expr | .For _ a _ _ _=>a | _=>e0P
noncomputable def forB:Stmt->List Stmt | .For _ _ a _ _=>a | _=>[]
noncomputable def forP:Stmt->Pos | .For _ _ _ _ p=>p | _=>⟨0,0,0,0⟩
theorem u_K {X:Cx} {a b:Stmt} {u:TS} (h:a=b) (p:PS X b u):PS X a u:=by rw [h]; exact p
@[irreducible] noncomputable def S_w (k:Nat):Stmt:=(a_H s_a).getD k (.Pass ⟨0,0,0,0⟩)
theorem PS_w {X:Cx} {k:Nat} {u:TS} (h:PS X ((a_H s_a).getD k (.Pass ⟨0,0,0,0⟩)) u):PS X (S_w k) u:=by unfold S_w; exact h
theorem u_L:a_H s_a=[S_w 0,S_w 1,S_w 2,S_w 3]:=by unfold S_w; kernel_rfl
@[irreducible] noncomputable def TGw:Expr:=forT ((a_H s_a).getD 2 (.Pass ⟨0,0,0,0⟩))
@[irreducible] noncomputable def ITw:Expr:=forI ((a_H s_a).getD 2 (.Pass ⟨0,0,0,0⟩))
@[irreducible] noncomputable def Pw:Pos:=forP ((a_H s_a).getD 2 (.Pass ⟨0,0,0,0⟩))
@[irreducible] noncomputable def Fw (k:Nat):Stmt:=(forB ((a_H s_a).getD 2 (.Pass ⟨0,0,0,0⟩))).getD k (.Pass ⟨0,0,0,0⟩)
theorem S_w2:S_w 2=.For TGw ITw [Fw 0,Fw 1,Fw 2] [] Pw:=by unfold S_w TGw ITw Fw Pw; kernel_rfl
theorem PI_w {X:Cx} {u:TI} (h:PI X (forT ((a_H s_a).getD 2 (.Pass ⟨0,0,0,0⟩))) (forI ((a_H s_a).getD 2 (.Pass ⟨0,0,0,0⟩))) u):PI X TGw ITw u:=by unfold TGw ITw; exact h
theorem PG_w {X:Cx} {u:TG} (h:PG X (forT ((a_H s_a).getD 2 (.Pass ⟨0,0,0,0⟩))) u):PG X TGw u:=by unfold TGw; exact h
theorem v_k {X:Cx} {k:Nat} {u:TS} (h:PS X ((forB ((a_H s_a).getD 2 (.Pass ⟨0,0,0,0⟩))).getD k (.Pass ⟨0,0,0,0⟩)) u):PS X (Fw k) u:=by unfold Fw; exact h
theorem fs_w {env:Env} (x:Value):foldedSetIterable ITw env x=pure x:=by unfold ITw; rfl
theorem q_w0:e_Y N_a "_law_here" (.lit 1 0 0 1 0 0 1) (Fw 0)=true:=by unfold Fw; kernel_rfl
theorem GrpF.ins {H:Hp} {g:Addr} {d:Nat} {ms:List Dd} {srt:Tb} (h:GrpF K t H g d ms srt):∃ dx lg lo ls ln,H g=some (.ins t.a_z dx (o_X d lg lo ls ln)):=let ⟨dx,lg,lo,ls,ln,h1,_⟩:=h; ⟨dx,lg,lo,ls,ln,h1⟩
theorem LstD.dt {H:Hp} {l:Addr} {ms:List Dd} (h:LstD K H l ms):Dt K H (.ref l) (.list (ms.map dat)):=by
 obtain ⟨gs,e,p⟩:=h;refine .lst (.inl (.inl e)) ?_;clear e
 induction p with
 | nil=>exact .nil
 | cons a _ ih=>exact .cons a.dt ih
theorem h_S (ms:List Dd):iT 5 (.list (ms.map dat))=true:=by
 show (ms.map dat).all (iT 4)=true;rw [List.all_eq_true];intro d hd;obtain ⟨x,_,rfl⟩:=List.mem_map.mp hd;exact e_h 4 _ (d_E x)
theorem list_inj {a b:List Dd}:PyData.list (a.map dat)=PyData.list (b.map dat) ↔ a=b:=by
 refine ⟨λ h=>?_,λ h=>by rw [h]⟩;have h':a.map dat=b.map dat:=PyData.list.inj h
 induction a generalizing b with
 | nil=>cases b with
  | nil=>rfl
  | cons _ _=>simp at h'
 | cons x a ih=>cases b with
  | nil=>simp at h'
  | cons y b =>
   rw [List.map_cons,List.map_cons,List.cons.injEq] at h';rw [g_F.mp h'.1,ih (by rw [h'.2]) h'.2]
theorem q_H (i:Nat) (w:List Nat) (k:Nat):f_Z i (w++[k])=behD 2 (f_Z i w) ((tgM i).getD k (b_K 2)):=by
 unfold f_Z;rw [List.foldl_append];rfl
theorem t_A {H:Hp} {l:Addr} {ms:List Dd} {k:Nat} {s:Dd} {I:Int} {Q:VK} (h:LstD K H l ms) (e:ms[k]?=some s) (hI:I=k) (q:∀ p,DdAt K H p s->Q (.ref p) H):rIxB K (.ref l) (.int I) H Q:=by
 obtain ⟨gs,e1,p⟩:=h;have hk:k < gs.length:=by rw [a_Q p]; exact (zqa e).1
 obtain ⟨s',e2,d⟩:=b_S p (zqd hk);rw [e] at e2;cases e2;exact ⟨false,l,_,_,_,rfl,rfl,SqB.lst e1,a_V (k:=k) (by rw [zH,zqd hk]; rfl) hI,q _ d⟩
theorem p_j {H:Hp} {l:Addr} {ms:List Dd} {Q:VK} (h:LstD K H l ms) (q:Q (.int ms.length) H):g_s K [.ref l] H Q:=by
 obtain ⟨gs,e1,p⟩:=h;refine ⟨false,l,_,rfl,SqB.lst e1,?_⟩;rw [zqe,a_Q p];exact q
theorem p_k {H:Hp} {l:Addr} {srt:Tb} {Q:VK} (h:MemD K H l srt) (q:Q (.int srt.length) H):g_s K [.ref l] H Q:=by
 obtain ⟨gs,e1,p⟩:=h;refine ⟨false,l,_,rfl,SqB.lst e1,?_⟩;rw [zqe,a_Q p];exact q
noncomputable def WwI (K:Frag) (H0:Hp) (i:Nat) (g l m tl:Addr) (v4 v5:Option V) (w:List Nat) (j:Nat) (σ:St) (H:Hp):Prop:=∃ (p:Addr) (v7:Option V),σ=[some (.ref g),some (.ref l),some (.ref m),some (.ref tl),v4,v5,some (.ref p),v7]/\Same H0 H/\DdAt K H p (f_Z i (w.take j))/\Here i (2+4*j) (f_Z i (w.take j))
theorem ok_a (T:Txt K mg t):FnOk P w K mg base CX0 3 t.a_a t.d_a pa' (sp_a K t):=by
 have G_d:=@ok_d P w K mg base t T;have G_7:=@ok_7 P w K mg base t T;have G_p:=@ok_p P w K mg base t T;have G_5:=@ok_5 P w K mg base t T;have G_q:=@ok_q P w K mg base t T;refine T.F_a.ok sc_a (by walk_at "v") (λ cdv A outer s H vs Q E hr h=>?_)
 ·have hu:=hr.units;obtain ⟨g,l,m,i,rfl,hi,hg,hl,hm,hQ⟩:=h;have W:=p_i hi;refine ⟨_,(i_S u_L (a_D (PS_w (a_R (i:=3) sc_a.nd rfl (Or.inl rfl) (f_B (C:=t.a_z) (pv 0) T.cl_z T.me_d G_d hr.mo T.b_d .nil b_B))) (a_D (PS_w (b_G (PW.pt (d_N (g_a (e_c (a_O e_d rfl T.z_isinstance (by decide +kernel) (a_A (pv 3) (a_A (h_G (v:=.ty "list") rfl T.z_list (by decide +kernel) rfl) a_C))))) (d_N (a_K d_I (a_O b_C rfl T.z_len (by decide +kernel) (a_A (pv 3) a_C)) (a_O b_C rfl T.z_len (by decide +kernel) (a_A (pv 2) a_C)) (a_U _)) (d_H (a_K (g_O hu) (f_B (C:=t.a_z) (pv 0) T.cl_z T.me_7 G_7 hr.mo T.b_7 .nil b_B) (pv 1) (a_U _))))))
   (a_G (a_N d_V))
   a_S)) (a_D (u_K S_w2 (d_A zG rfl (PI_w (i_i rfl T.z_zip (a_A (pv 2) (a_A (pv 3) a_C)))) (PG_w (e_G rfl (b_N (b_R (i:=4) sc_a.nd rfl (Or.inl rfl)) (b_N (b_R (i:=5) sc_a.nd rfl (Or.inl rfl)) d_W)))) (a_D (t_z (N:=N_a) (sc:=a_B s_a) (i:=6) (x := "_law_here") (d:=.lit 1 0 0 1 0 0 1) rfl rfl q_w0 (by decide +kernel) sc_a.nd rfl rfl) (a_D (v_k (d_A zG rfl (b_W (pv 5)) (b_R (i:=7) sc_a.nd rfl (Or.inl rfl))
   (a_D (b_G (PW.pt (d_N (g_a (e_c (a_P G_p hr.mo rfl T.m_p T.F_p.kp T.b_p .nil b_B (a_A (pv 7) a_C)))) (d_N (a_K f_X (pv 7) a_E (a_U _)) (d_H (a_K w_x (pv 7) (a_O b_C rfl T.z_len (by decide +kernel) (a_A (pv 1) a_C)) (a_U _))))))
   (a_G (a_N d_V))
   a_S)
   (a_G (a_R (i:=6) sc_a.nd rfl (Or.inl rfl) (a_P G_5 hr.mo rfl T.m_5 T.F_5.kp T.b_5 .nil b_B (a_A (pv 6) (a_A (a_J ix_B (pv 1) (pv 7) (λ _ _=>rfl)) a_C)))))))) (a_G (v_k (b_G (a_K (g_O hu) (a_P G_q hr.mo rfl T.m_q T.F_q.kp T.b_q .nil b_B (a_A (pv 6) a_C)) (pv 4) (a_U _))
   (a_G (a_N d_V))
   a_S))))) fs_w)) (a_G (PS_w (a_N d_V))))))),?_⟩
  show tSeq _ _ _ [some (.ref g),some (.ref l),some (.ref m),none,none,none,none,none] H;obtain ⟨dx,lg,lo,ls,ln,eg⟩:=hg.ins;refine st λ N1 e1=>?_;walk_at "r";simp only [h_w];walk_at "r";refine ⟨dx,_,eg,rfl,g,2,tgM i,tgS i,rfl,hg,zS W.le (by decide),λ tl ws H1 s1 ntl etl pw=>?_⟩;have hwl:ws.length=(tgS i).length:=a_Q pw;subst e1;refine st λ N1 e1=>?_;walk_at "r";refine ⟨_,_,_,_,rfl,.ty (.lst etl),rfl,T.h_n,_,rfl,?_⟩;walk_at "r";refine ⟨false,tl,_,rfl,SqB.lst etl,p_k (hm.up s1) ⟨_,_,rfl,rfl,_,rfl,?_⟩⟩;rw [zqe,hwl,zW rfl];refine iteF ?_;simp only [h_w];walk_at "r";refine ⟨dx,_,s1 _ _ eg,rfl,g,2,tgM i,tgS i,rfl,hg.up s1,λ lm gs H2 s2 nlm elm pm=>?_⟩;have hl2:=hl.up (s1.trans s2);refine g_R (b:=true) 5 (by decide) (LstD.dt (K:=K) (ms:=tgM i) ⟨gs,elm,pm⟩) hl2.dt (h_S _) (h_S _) (by simp) ⟨_,rfl,iteF ?_⟩;have s02:=s1.trans s2;subst e1;refine st λ N1 e1=>d_B λ B eB=>?_;simp only [iZip];walk_at "r";obtain ⟨os,eos,pos⟩:=hm.up s02;have hol:os.length=(tgS i).length:=a_Q pos;have etl2:=s2 _ _ etl;have pw2:=Paired.mapP pw λ _ _ z=>s2 _ _ z;refine ⟨false,⟨_,SqB.lst eos⟩,false,⟨_,SqB.lst etl2⟩,?_⟩;refine t_q (g:=gTup K 2 (c_N (a_T 4) (c_N (a_T 5) gNil))) (tb:=B) (nx:=N1) (rt:=Q) (xs:=os.map V.ref) (ys:=ws.map V.ref) (λ j σ G=>∃ v4 v5 v6 v7,σ=[some (.ref g),some (.ref l),some (.ref m),some (.ref tl),v4,v5,v6,v7]/\Same H2 G) ⟨_,_,_,_,rfl,Same.refl _⟩ (by rw [zqe,zqe,hol,hwl]) (λ j σ G _ ⟨_,_,_,_,_,sG⟩=>⟨SqB.lst (sG _ _ eos),SqB.lst (sG _ _ etl2)⟩) ?_ ?_
  ·rintro j xx yy pp σ G ex ey ⟨v4,v5,v6,v7,rfl,sG⟩ hpp;rw [zH] at ex ey;cases hp:os[j]? with
   | none=>rw [hp] at ex; cases ex
   | some po =>
    rw [hp] at ex;cases ex;cases hw:ws[j]? with
    | none=>rw [hw] at ey; cases ey
    | some pwd =>
     rw [hw] at ey;cases ey;obtain ⟨mm,emm,dmm⟩:=b_S pos hp;obtain ⟨mm',emm',wmm⟩:=b_S pw2 hw;rw [emm] at emm';cases emm';have hmm:=zqb emm;obtain ⟨w1,w2,w3⟩:=u_I hi mm hmm;have sp:=Same.new (o:=.tup [V.ref po,V.ref pwd]) hpp;refine ⟨pp,[.ref po,.ref pwd],rfl,SqT.of a_F,rfl,_,[.ref pwd],rfl,_,[],rfl,rfl,?_⟩;have sG1:=sG.trans sp;generalize upd G pp (.tup [V.ref po,V.ref pwd])=G1 at *
     subst eB;show tSeq _ _ _ [some (.ref g),some (.ref l),some (.ref m),some (.ref tl),some (.ref po),some (.ref pwd),v6,v7] G1;refine st λ N2 e2=>⟨_,rfl,λ ph G2 g2 dh=>?_⟩;show N2 [some (.ref g),some (.ref l),some (.ref m),some (.ref tl),some (.ref po),some (.ref pwd),some (.ref ph),v7] G2;have dh':DdAt K G2 ph (b_K 2):=dh;have sG2:=sG1.trans g2;have ew2:=sG2 _ _ wmm;subst e2;refine st λ N2 e2=>d_B λ B eB=>?_;simp only [iSeq];walk_at "r";refine ⟨false,⟨_,SqB.lst ew2⟩,?_⟩;refine e_L (g:=a_T 7) (tb:=B) (nx:=N2) (rt:=Q) (xs:=mm.2.map λ n=>V.int ((n:Nat):Int)) (WwI K G2 i g l m tl (some (.ref po)) (some (.ref pwd)) mm.2) ⟨ph,_,rfl,Same.refl _,dh',i_T W⟩ (λ k σ G3 _ ⟨_,_,_,g3,_⟩=>SqB.lst (g3 _ _ ew2)) ?_ ?_
     ·rintro k xk σ G3 ek ⟨p3,v7',rfl,g3,d3,h3⟩;rw [zH] at ek;cases hk:mm.2[k]? with
      | none=>rw [hk] at ek; cases ek
      | some kk =>
       rw [hk] at ek;cases ek;have hkk:=w1 kk (zqb hk);have hk12:k < 12:=by have:=(zqa hk).1; omega
       obtain ⟨ss,ess⟩:∃ ss,(tgM i)[kk]?=some ss:=⟨_,zqd hkk⟩;have hss:=zqb ess;have hl3:=hl2.up (sG2.trans g3);subst eB;show tSeq _ _ _ [some (.ref g),some (.ref l),some (.ref m),some (.ref tl),some (.ref po),some (.ref pwd),some (.ref p3),some (.int kk)] G3;refine st λ N3 e3=>?_;walk_at "r";refine ⟨_,rfl,_,rfl,?_⟩;walk_at "r";rw [zX (show ¬ (kk:Int) < 0 by omega)];refine iteF (p_j hl3 ⟨_,_,rfl,rfl,_,rfl,?_⟩);rw [zX (show ¬ ((tgM i).length:Int)<=kk by omega)];refine iteF ?_;subst e3;walk_at "r";refine t_A hl3 ess rfl λ q3 dq3=>?_;refine ⟨p3,q3,_,ss,2+4*k,2,rfl,d3.dt,dq3.dt,h3.w,W.ma ss hss,by omega,by decide,λ r G4 g4 d4=>?_⟩;have et:f_Z i (mm.2.take (k+1))=behD 2 (f_Z i (mm.2.take k)) ss:=by
        rw [List.take_add_one,hk];show f_Z i (mm.2.take k++[kk])=_;rw [q_H,zqc,ess];rfl
       have hh:=h_f W h3 hss;refine ⟨r,_,rfl,g3.trans g4,by rw [et]; exact d4,by rw [et,show 2+4*(k+1)=2+4*k+4 by omega]; exact hh⟩
     ·rintro σ G3 ⟨p3,v7',rfl,g3,d3,h3⟩;rw [zqe,List.take_length] at d3 h3;subst e2;walk_at "r";refine ⟨p3,_,rfl,d3.dt,h3.w.len,h3.w.pos,λ r G4 g4 d4=>?_⟩;rw [w2] at d4;refine g_R (b:=true) 4 (by decide) d4 (DdV.up (DdV.up dmm (sG2.trans g3)) g4) (e_h 4 _ (d_E _)) (e_h 4 _ (d_E _)) (by simp) ⟨_,rfl,iteF ?_⟩;exact (sG2.trans g3).trans g4
  ·rintro σ G ⟨v4,v5,v6,v7,rfl,sG⟩;subst e1;walk_at "r";exact hQ G (s02.trans sG)
noncomputable def w_W (i:Nat):Bool:=l_G ((tgS i).map λ m=>c_S (dat m.1))
theorem t_B:(List.range 17).all w_W=true:=by decide +kernel
theorem u_M {i:Nat} (hi:i < 17):l_G ((tgS i).map λ m=>c_S (dat m.1))=true:=List.all_eq_true.mp t_B i (List.mem_range.mpr hi)
theorem t_C:∀ {srt:Tb} {n j:Nat} {m:Dd × List Nat},(srt.map (·.1)).Nodup->srt[j]?=some m->L2.vT (numT srt n) (dat m.1)=some (V.int ((n+j:Nat):Int))
 | y :: srt,n,0,m,_,e=>by
  cases e;exact i_o (p:=(dat y.1,V.int ((n:Nat):Int))) rfl
 | y :: srt,n,j+1,m,nd,e=>by
  rw [List.map_cons,List.nodup_cons] at nd;have e':srt[j]?=some m:=by simpa using e
  have ne:¬ dat y.1=dat m.1:=λ z=>nd.1 (by rw [g_F.mp z]; exact List.mem_map.mpr ⟨m,zqb e',rfl⟩);have:=t_C (srt:=srt) (n:=n+1) nd.2 e';rw [show numT (y :: srt) n=(dat y.1,V.int ((n:Nat):Int)) :: numT srt (n+1) from rfl,g_S (p:=(dat y.1,V.int ((n:Nat):Int))) ne,this,show n+1+j=n+(j+1) by omega]
theorem h_g {H:Hp}:∀ {os:List Addr} {L:Tb},Paired (λ p x=>Dt K H (.ref p) (dat x.1)) os L->∃ ps:List (V × PyData),ps.map (·.1)=os.map V.ref/\ps.map (·.2)=L.map (λ x=>dat x.1)/\(∀ q∈ps,tT 4 q.2=true/\Dt K H q.1 q.2/\∃ a,q.1=V.ref a)/\∀ q∈ps,∃ y∈L,q.2=dat y.1
 | _,_,.nil=>⟨[],rfl,rfl,(λ q h=>nomatch h),(λ q h=>nomatch h)⟩
 | p :: os,M :: L,.cons h1 h2=>by
  obtain ⟨ps,e1,e2,e3,e4⟩:=h_g h2;refine ⟨(.ref p,dat M.1) :: ps,by simp [e1],by simp [e2],λ q hq=>?_,λ q hq=>?_⟩
  ·rcases List.mem_cons.mp hq with hq | hq
   ·rw [hq]; exact ⟨d_E _,h1,p,rfl⟩
   ·exact e3 q hq
  ·rcases List.mem_cons.mp hq with hq | hq
   ·rw [hq]; exact ⟨M,.head _,rfl⟩
   ·obtain ⟨y,hy,e⟩:=e4 q hq; exact ⟨y,.tail _ hy,e⟩
theorem p_l {H:Hp} {l:Addr} {L:Tb} {x:V} {y:Dd} {neg:Bool} {Q:VK} (h:MemD K H l L) (d:Dt K H x (dat y)) (hm:y∈L.map (·.1)) (q:Q (.bl (!neg)) H):rInD K neg x (.ref l) H Q:=by
 obtain ⟨os,e1,p⟩:=h;obtain ⟨ps,f1,f2,f3,_⟩:=h_g p;refine ⟨l,ps,dat y,rfl,.inl (.inl (.inl (by rw [f1]; exact e1))),λ q hq=>⟨(f3 q hq).1,(f3 q hq).2.1⟩,d_E y,d,?_⟩;have e:(ps.any λ q=>decide (q.2=dat y))=true:=by
  rw [List.any_eq_true];obtain ⟨m,hm1,hm2⟩:=List.mem_map.mp hm;have:dat y∈ps.map (·.2):=by rw [f2,← hm2]; exact List.mem_map.mpr ⟨m,hm1,rfl⟩
  obtain ⟨q,hq,eq⟩:=List.mem_map.mp this;exact ⟨q,hq,zW eq⟩
 rw [e];cases neg <;> exact q
theorem MemD.dt {H:Hp} {l:Addr} {L:Tb} (h:MemD K H l L):Dt K H (.ref l) (.list (L.map λ x=>dat x.1)):=by
 obtain ⟨gs,e,p⟩:=h;refine .lst (.inl (.inl e)) ?_;clear e
 induction p with
 | nil=>exact .nil
 | cons a _ ih=>exact .cons a ih
theorem t_D {H:Hp}:∀ {ps:List (V × PyData)},(∀ q∈ps,Dt K H q.1 q.2)->Dts K H (ps.map (·.1)) (ps.map (·.2))
 | [],_=>.nil
 | p :: ps,h=>.cons (h p (.head _)) (t_D λ q hq=>h q (.tail _ hq))
theorem t_E (L:Tb):iT 5 (.list (L.map λ x=>dat x.1))=true:=by
 show (L.map λ x=>dat x.1).all (iT 4)=true;rw [List.all_eq_true];intro d hd;obtain ⟨x,_,rfl⟩:=List.mem_map.mp hd;exact e_h 4 _ (d_E x.1)
theorem w_t {L:Tb} {ds:List PyData} (hL:L.Pairwise λ p q=>lx (fl (dat p.1)) (fl (dat q.1))=true) (pm:ds.Perm (L.map λ x=>dat x.1)) (asc:ds.Pairwise λ p q=>lx (fl q) (fl p)=false):ds=L.map λ x=>dat x.1:=by
 refine List.Perm.eq_of_pairwise (le:=λ p q=>lx (fl q) (fl p)=false) (λ a b ha hb h1 h2=>?_) asc (List.pairwise_map.mpr (hL.imp λ h=>p_c h)) pm;have hA:=pm.mem_iff.mp ha;obtain ⟨x,hx,rfl⟩:=List.mem_map.mp hA;obtain ⟨y,hy,rfl⟩:=List.mem_map.mp hb;have key:∀ {l:Tb},(l.Pairwise λ p q=>lx (fl (dat p.1)) (fl (dat q.1))=true)->∀ a∈l,∀ b∈l,lx (fl (dat b.1)) (fl (dat a.1))=false->lx (fl (dat a.1)) (fl (dat b.1))=false->dat a.1=dat b.1:=by
  intro l hl
  induction hl with
  | nil=>intro a ha; cases ha
  | @cons x l hx _ ih =>
   intro a ha b hb h1 h2;rcases List.mem_cons.mp ha with ea | ha'
   ·rcases List.mem_cons.mp hb with eb | hb'
    ·rw [ea,eb]
    ·rw [ea,hx b hb'] at h2; cases h2
   ·rcases List.mem_cons.mp hb with eb | hb'
    ·rw [eb,hx a ha'] at h1; cases h1
    ·exact ih a ha' b hb' h1 h2
 exact key hL x hx y hy h1 h2
noncomputable def o_b (x n:Str) (ns:List Int):Stmt->Bool
 | .Assign [.Name y _] (.Subscript e (.BinOp (.Name m _) .Sub o _) _) _=>decide (y=x) && decide (m=n) && decide (litI o=some 1) && decide (litR e=some ns) && decide (ns.length<=1000)
 | _=>false
theorem w_X {a b:Expr} {pos p:Pos} {y:Str} {l:Nat} {env:Env}:swapsWith (.Subscript a b pos) (some (.Name y p)) l env=pure false:=by rfl
theorem w_u {X:Cx} {st:Stmt} {i j:Nat} {x n:Str} {ns:List Int} (h:o_b x n ns st=true) (nv:NsOk X) (hN:X.N.Nodup) (hi:X.N[i]?=some x) (hj:X.N[j]?=some n) (hx:X.env.scope.names.lookup x=some .local):PS X st (tAsg (tOp (rIxB X.K) (u_X ns) (tOp (rI0 λ i j=>.int (i - j)) (tVar j) (tC (.int 1)))) (a_T i)):=by
 unfold o_b at h;split at h
 ·simp only [Bool.and_eq_true,decide_eq_true_eq] at h;obtain ⟨⟨⟨⟨rfl,rfl⟩,ho⟩,hr⟩,hz⟩:=h;obtain ⟨w1,w2,w3⟩:=nv j _ hj;exact a_R hN hi (.inl hx) (a_J ix_B (t_Z hr hz).1 (a_Z h_W (pv j hj w1 w2 w3) (b_I ho).1) λ _ _=>rfl) w_X (.inr hx)
 ·cases h
@[irreducible] noncomputable def S_l (k:Nat):Stmt:=(a_H s_19).getD k (.Pass ⟨0,0,0,0⟩)
theorem PS_l {X:Cx} {k:Nat} {u:TS} (h:PS X ((a_H s_19).getD k (.Pass ⟨0,0,0,0⟩)) u):PS X (S_l k) u:=by unfold S_l; exact h
theorem w_Y:a_H s_19=[S_l 0,S_l 1,S_l 2,S_l 3,S_l 4,S_l 5,S_l 6,S_l 7,S_l 8,S_l 9,S_l 10,S_l 11,S_l 12,S_l 13]:=by unfold S_l; kernel_rfl
theorem q_l6:o_b "_law_many" "_law_number_here" t_x (S_l 6)=true:=by unfold S_l; kernel_rfl
theorem w_Z:e_Y N_19 "_law_here" (.lit 1 0 0 1 0 0 1) (S_l 10)=true:=by unfold S_l; kernel_rfl
noncomputable def LwI (K:Frag) (G2:Hp) (i:Nat) (a l g m:Addr) (v6 v7:Option V) (k:Nat) (σ:St) (G:Hp):Prop:=∃ (p:Addr) (x:Dd) (v9:Option V),σ=[some (.ref a),some (.int (i+1)),some (.ref l),some (.ref g),some (.ref m),some (.int (tgS i).length),v6,v7,some (.ref p),v9]/\Same G2 G/\DdAt K G p x/\Here i (2+4*k) x
theorem ok_19 (T:Txt K mg t):FnOk P w K mg base CX0 18 t.a_19 t.d_19 pm' (u_U K):=by
 have G_l:=@ok_l P w K mg base t T;have G_6:=@ok_6 P w K mg base t T;have G_n:=@ok_n P w K mg base t T;have G_e:=@ok_e P w K mg base t T;have G_3:=@ok_3 P w K mg base t T;have G_m:=@ok_m P w K mg base t T;have G_s:=@ok_s P w K mg base t T;have G_b:=@ok_b P w K mg base t T;have G_q:=@ok_q P w K mg base t T;have G_5:=@ok_5 P w K mg base t T;have G_a:=@ok_a P w K mg base t T;refine T.F_19.ok sc_19 (by walk_at "v") (λ cdv A outer s H vs Q E hr h=>?_)
 ·have hu:=hr.units;obtain ⟨a,ns,rfl,hS,hlen,hbits,hQ⟩:=h;refine ⟨_,(i_S w_Y (a_D (PS_l (a_R (i:=1) sc_19.nd rfl (Or.inl rfl) (a_P G_l hr.mo rfl T.m_l T.F_l.kp T.b_l .nil b_B (a_A (pv 0) a_C))))
   (a_D (PS_l (b_G (PW.pt (d_N (a_K f_X (pv 1) a_E (a_U _)) (d_H (a_K h_X (pv 1) a_E (a_U _)))))
   (a_G (a_N (a_P G_6 hr.mo rfl T.m_6 T.F_6.kp T.b_6 .nil b_B (a_A (pv 1) a_C))))
   a_S))
   (a_D (PS_l (a_R (i:=2) sc_19.nd rfl (Or.inl rfl) (a_P G_n hr.mo rfl T.m_n T.F_n.kp T.b_n .nil b_B (a_A (pv 1) a_C))))
   (a_D (PS_l (a_R (i:=3) sc_19.nd rfl (Or.inl rfl) (a_P G_e hr.mo rfl T.m_e T.F_e.kp T.b_e .nil f_O (a_A (pv 1) a_C))))
   (a_D (PS_l (e_F (v_y PySem.F.plainAttrs_list PySem.F.slot_list_clear PySem.F.type_list_clear r_c (f_B (C:=t.a_z) (pv 3) T.cl_z T.me_3 G_3 hr.mo T.b_3 .nil b_B))))
   (a_D (PS_l (a_R (i:=4) sc_19.nd rfl (Or.inl rfl) (f_B (C:=t.a_z) (pv 3) T.cl_z T.me_3 G_3 hr.mo T.b_3 .nil b_B)))
   (a_D (w_u (i:=5) (j:=1) q_l6 (v_j (N:=N_19) (sc:=a_B s_19) rfl rfl (by decide +kernel)) sc_19.nd rfl rfl rfl)
   (a_D (PS_l (b_G (PW.pt (d_N (g_a (e_c (a_O e_d rfl T.z_isinstance (by decide +kernel) (a_A (pv 4) (a_A (h_G (v:=.ty "list") rfl T.z_list (by decide +kernel) rfl) a_C))))) (d_N (a_K d_I (a_O b_C rfl T.z_len (by decide +kernel) (a_A (pv 4) a_C)) (pv 5) (a_U _)) (d_H (a_K (g_O hu) (pv 4) (a_O (n_C (N:=63) o_T hu) rfl T.z_sorted (by decide +kernel) (a_A (pv 4) a_C)) (a_U _))))))
   (a_G (a_N d_V))
   a_S))
   (a_D (PS_l (b_G (PW.pt (d_N (a_K d_I (f_B (C:=t.a_z) (pv 3) T.cl_z T.me_m G_m hr.mo T.b_m .nil b_B) a_E (a_U _)) (d_H (a_K d_I (a_O p_K rfl T.z_len (by decide +kernel) (a_A (b_Q (p_J hu rfl) rfl T.z_set (by decide +kernel) (a_A (pv 4) a_C)) a_C)) (pv 5) (a_U _)))))
   (a_G (a_N d_V))
   a_S))
   (a_D (PS_l (d_A zG rfl (b_W (pv 4)) (b_R (i:=6) sc_19.nd rfl (Or.inl rfl))
   (a_D (b_G (PW.pt (d_N (g_a (e_c (a_P G_b hr.mo rfl T.m_b T.F_b.kp T.b_b .nil b_B (a_A (pv 6) a_C)))) (d_H (a_K (g_O hu) (a_P G_q hr.mo rfl T.m_q T.F_q.kp T.b_q .nil b_B (a_A (pv 6) a_C)) (pv 6) (a_U _)))))
   (a_G (a_N d_V))
   a_S)
   (a_G (d_A zG rfl (b_W (pv 2)) (b_R (i:=7) sc_19.nd rfl (Or.inl rfl))
   (a_G (b_G (a_K (j_s hu) (a_P G_q hr.mo rfl T.m_q T.F_q.kp T.b_q .nil b_B (a_A (a_P G_5 hr.mo rfl T.m_5 T.F_5.kp T.b_5 .nil b_B (a_A (pv 6) (a_A (pv 7) a_C))) a_C)) (pv 4) rfl)
   (a_G (a_N d_V))
   a_S)))))))
   (a_D (t_z (N:=N_19) (sc:=a_B s_19) (i:=8) (x := "_law_here") (d:=.lit 1 0 0 1 0 0 1) rfl rfl w_Z (by decide +kernel) sc_19.nd rfl rfl)
   (a_D (PS_l (b_G (PW.pt (d_N (a_K (j_s hu) (pv 8) (pv 4) rfl) (d_H (g_a (e_c (a_P G_a hr.mo rfl T.m_a T.F_a.kp T.b_a .nil b_B (a_A (pv 3) (a_A (pv 2) (a_A (pv 4) a_C)))))))))
   (a_G (a_N d_V))
   a_S))
   (a_D (PS_l (d_A zG rfl (b_W (pv 0)) (b_R (i:=9) sc_19.nd rfl (Or.inl rfl))
   (a_D (b_G (a_K (g_O hu) (pv 2) (d_T a_C) (a_U _))
   (a_G (a_R (i:=8) sc_19.nd rfl (Or.inl rfl) (a_P G_5 hr.mo rfl T.m_5 T.F_5.kp T.b_5 .nil b_B (a_A (pv 8) (a_A (a_J ix_B (pv 2) (a_Z c_P (pv 9) (a_O b_C rfl T.z_len (by decide +kernel) (a_A (pv 2) a_C))) (λ _ _=>rfl)) a_C)))))
   a_S)
   (a_G (b_G (PW.pt (d_N (a_K v_t (o_i (C:=t.a_z) (pv 3) T.cl_z T.me_s G_s hr.mo T.b_s .nil b_B (a_A (pv 8) a_C)) v_q (a_U _)) (d_H (a_K (g_O hu) (a_J ix_B (pv 4) (o_i (C:=t.a_z) (pv 3) T.cl_z T.me_s G_s hr.mo T.b_s .nil b_B (a_A (pv 8) a_C)) (λ _ _=>rfl)) (a_P G_q hr.mo rfl T.m_q T.F_q.kp T.b_q .nil b_B (a_A (pv 8) a_C)) (a_U _)))))
   (a_G (a_N d_V))
   a_S)))))
   (a_G (PS_l (a_N d_V))))))))))))))))),?_⟩
  show tSeq _ _ _ [some (.ref a),none,none,none,none,none,none,none,none,none] H;refine st λ N1 e1=>?_;walk_at "r";refine ⟨a,ns,rfl,hS,λ n H1 s1=>?_⟩;subst e1;refine st λ N1 e1=>?_;walk_at "r";have rf:(n < 1\/17 < n)->sp_6 [.int n] H1 Q E0:=λ h=>⟨n,rfl,h,λ H' _=>hQ H'⟩
  by_cases hn1:n < 1
  ·rw [zW hn1];exact iteT (rf (.inl hn1))
  rw [zX hn1];refine iteF ?_
  by_cases hn2:17 < n
  ·rw [zW hn2];exact iteT (rf (.inr hn2))
  rw [zX hn2];refine iteF ?_;obtain ⟨i,hi⟩:∃ i:Nat,n=i+1:=⟨(n - 1).toNat,by omega⟩;have hi17:i < 17:=by omega
  subst hi;have W:=p_i hi17;subst e1;refine st λ N1 e1=>?_;walk_at "r";refine ⟨i,rfl,hi17,λ l H2 s2 hl=>?_⟩;subst e1;refine st λ N1 e1=>?_;walk_at "r";refine ⟨_,rfl,λ h=>by omega,λ i' hi' hi17' g H3 s3 hg=>?_⟩;have:i=i':=by omega
  subst this;replace hl:=hl.up s3;have s03:=(s1.trans s2).trans s3;clear s1 s2 s3;subst e1;refine st λ N1 e1=>?_;obtain ⟨dx,lg,lo,ls,ln,eg⟩:=hg.ins;walk_at "r";simp only [h_w];walk_at "r";refine ⟨dx,_,eg,rfl,g,2,tgM i,tgS i,rfl,hg,λ m0 os0 H4 s4 nm em0 _=>⟨tyL em0,m0,_,rfl,rfl,em0,?_⟩⟩;have s5:Same H3 (upd H4 m0 (.lst [])):=λ b o e=>by
   have:b≠m0:=λ z=>by rw [z,nm] at e; cases e
   rw [a_I this];exact s4 _ _ e
  show N1 [some (.ref a),some (.int (i+1)),some (.ref l),some (.ref g),none,none,none,none,none,none] (upd H4 m0 (.lst []));generalize upd H4 m0 (.lst [])=H5 at *
  subst e1;refine st λ N1 e1=>?_;walk_at "r";simp only [h_w];walk_at "r";refine ⟨dx,_,s5 _ _ eg,rfl,g,2,tgM i,tgS i,rfl,hg.up s5,λ m os H6 s6 _ em po=>?_⟩;have s56:=s5.trans s6;replace hg:=hg.up s56;replace hl:=hl.up s56;replace eg:=s56 _ _ eg;have s06:=s03.trans s56;have hm:MemD K H6 m (tgS i):=⟨os,em,po⟩;have hol:os.length=(tgS i).length:=a_Q po;clear s5 s6 s56 s4 em0 nm s03;subst e1;refine st λ N1 e1=>?_;walk_at "r";intro pr H7 s7 _ epr;refine ⟨false,pr,_,_,_,rfl,rfl,SqB.lst epr,a_V (k:=i) (by rw [zH,u_J hi17]; rfl) (by omega),?_⟩;replace hg:=hg.up s7;replace hl:=hl.up s7;replace eg:=s7 _ _ eg;replace hm:=hm.up s7;replace em:=s7 _ _ em;have s07:=s06.trans s7;clear s06 epr s7 po;subst e1;refine st λ N1 e1=>?_;walk_at "r";have ok:=t_o hi17;simp only [tgOk,Bool.and_eq_true,decide_eq_true_eq,List.all_eq_true] at ok;obtain ⟨⟨⟨⟨⟨⟨_,_⟩,o3⟩,_⟩,_⟩,_⟩,o7⟩:=ok;have fin:∀ y∈tgS i,e_E 2 y.1:=λ y hy=>f_W (o3 y ((i_O i).mem_iff.mp hy));have nd:=t_p o7;have pwx:=k_L o7;have le12:=W.le;obtain ⟨os',em',po'⟩:=id hm;obtain ⟨ps,f1,f2,f3,f4⟩:=h_g po';have hpl:ps.length=(tgS i).length:=by have:=congrArg List.length f2; simpa using this
  have esq:SqL K H7 m (ps.map (·.1)):=by rw [f1]; exact .inl (.inl em')
  refine ⟨_,_,_,_,rfl,.ty (.lst em'),rfl,T.h_n,_,rfl,?_⟩;walk_at "r";refine p_k hm ⟨_,_,rfl,rfl,_,rfl,?_⟩;rw [zW rfl];refine iteF ?_;have fst:e_E 2 (b_K 2):=f_W (by decide +kernel);refine ⟨m,ps,[.tuple ((List.replicate 2 (0:Int)).map PyData.int),.int 1],(idM 2).map (λ r=>PyData.tuple (r.map PyData.int)),rfl,by omega,esq,λ q hq=>⟨(f3 q hq).1,?_,(f3 q hq).2.1⟩,λ q ps' H8 s8 _ eq pm asc=>?_⟩
  ·obtain ⟨y,hy,e⟩:=f4 q hq;rw [e];exact o_W fst (fin y hy)
  have eps:ps'.map (·.2)=(tgS i).map λ x=>dat x.1:=w_t pwx (by rw [← f2]; exact pm.map (·.2)) (List.pairwise_map.mpr asc);have hq8:Dt K H8 (.ref q) (.list ((tgS i).map λ x=>dat x.1)):=by
   rw [← eps];exact .lst (.inl (.inl eq)) (t_D λ z hz=>c_U (b_U s8) 4 (f3 z (pm.mem_iff.mp hz)).1 (f3 z (pm.mem_iff.mp hz)).2.1)
  replace hg:=hg.up s8;replace hl:=hl.up s8;replace eg:=s8 _ _ eg;replace hm:=hm.up s8;have s08:=s07.trans s8;refine g_R (b:=true) 5 (by decide) hm.dt hq8 (t_E _) (t_E _) (by simp) ⟨_,rfl,iteF ?_⟩;have f3':∀ q∈ps,tT 4 q.2=true/\Dt K H8 q.1 q.2/\∃ a,q.1=V.ref a:=λ q hq=>⟨(f3 q hq).1,c_U (b_U s8) 4 (f3 q hq).1 (f3 q hq).2.1,(f3 q hq).2.2⟩;have esq':SqL K H8 m (ps.map (·.1)):=by rw [f1]; exact .inl (.inl (s8 _ _ em'))
  clear f3 esq hq8 eq pm asc eps em' po' em;subst e1;refine st λ N1 e1=>?_;walk_at "r";simp only [h_w];walk_at "r";refine ⟨dx,_,eg,rfl,g,2,tgM i,tgS i,rfl,hg,⟨_,_,rfl,rfl,_,rfl,?_⟩⟩;rw [zW (show ((2:Nat):Int)=2 from rfl)];refine iteF ?_;refine ⟨m,ps,rfl,esq',f3',(by rw [f2,List.map_map]; exact u_M hi17),λ r H9 s9 _ er=>?_⟩;refine ⟨r,_,rfl,er,by omega,_,_,rfl,rfl,_,rfl,?_⟩;rw [hpl,zW rfl];refine iteF ?_;replace hg:=hg.up s9;replace hl:=hl.up s9;replace eg:=s9 _ _ eg;replace hm:=hm.up s9;have s09:=s08.trans s9;clear s9 er f3' esq' f1 f2 f4;subst e1;refine st λ N1 e1=>d_B λ B eB=>?_;obtain ⟨os9,em9,po9⟩:=id hm;simp only [iSeq];walk_at "r";refine ⟨false,⟨_,SqB.lst em9⟩,?_⟩;refine e_L (g:=a_T 6) (tb:=B) (nx:=N1) (rt:=Q) (xs:=os9.map V.ref) (λ j σ G=>∃ v6 v7,σ=[some (.ref a),some (.int (i+1)),some (.ref l),some (.ref g),some (.ref m),some (.int (tgS i).length),v6,v7,none,none]/\Same H9 G) ⟨_,_,rfl,Same.refl _⟩ (λ j σ G _ ⟨_,_,_,sG⟩=>SqB.lst (sG _ _ em9)) ?_ ?_
  ·rintro j x σ G ex ⟨v6,v7,rfl,sG⟩;rw [zH] at ex;cases hp:os9[j]? with
   | none=>rw [hp] at ex; cases ex
   | some po =>
    rw [hp] at ex;cases ex;obtain ⟨mm,emm,dmm⟩:=b_S po9 hp;have hmm:=zqb emm;have wm:=W.me mm hmm;subst eB;show tSeq _ _ _ [some (.ref a),some (.int (i+1)),some (.ref l),some (.ref g),some (.ref m),some (.int (tgS i).length),some (.ref po),v7,none,none] G;refine st λ N2 e2=>?_;walk_at "r";refine ⟨po,mm.1,rfl,DdV.up dmm sG,wm.sq,wm.len,λ G1 g1=>⟨_,rfl,?_⟩⟩;walk_at "r";have sG1:=sG.trans g1;refine ⟨po,mm.1,rfl,DdV.up dmm sG1,wm.len,wm.pos,λ r G2 g2 d2=>?_⟩;rw [W.re mm hmm] at d2;have sG2:=sG1.trans g2;refine g_R (b:=true) 4 (by decide) d2 (DdV.up dmm sG2) (e_h 4 _ (d_E _)) (e_h 4 _ (d_E _)) (by simp) ⟨_,rfl,iteF ?_⟩;subst e2;refine d_B λ B eB=>?_;obtain ⟨gs,eg2,pg⟩:=id (hl.up sG2);simp only [iSeq];walk_at "r";refine ⟨false,⟨_,SqB.lst eg2⟩,?_⟩;refine e_L (g:=a_T 7) (tb:=B) (xs:=gs.map V.ref) (λ k σ G'=>∃ v7,σ=[some (.ref a),some (.int (i+1)),some (.ref l),some (.ref g),some (.ref m),some (.int (tgS i).length),some (.ref po),v7,none,none]/\Same G2 G') ⟨_,rfl,Same.refl _⟩ (λ k σ G' _ ⟨_,_,sG'⟩=>SqB.lst (sG' _ _ eg2)) ?_ ?_
    ·rintro k y σ G3 ey ⟨v7',rfl,g3⟩;rw [zH] at ey;cases hpk:gs[k]? with
     | none=>rw [hpk] at ey; cases ey
     | some pk =>
      rw [hpk] at ey;cases ey;obtain ⟨ss,ess,dss⟩:=b_S pg hpk;have hss:=zqb ess;have sG3:=sG2.trans g3;subst eB;show tIfS _ _ _ _ [some (.ref a),some (.int (i+1)),some (.ref l),some (.ref g),some (.ref m),some (.int (tgS i).length),some (.ref po),some (.ref pk),none,none] G3;walk_at "r";refine ⟨po,pk,mm.1,ss,2,2,rfl,DdV.up dmm sG3,(dss.up g3).dt,wm,W.ma ss hss,by decide,by decide,λ r3 G4 g4 d4=>?_⟩;have hh:=h_f W (x:=mm.1) ⟨wm,by rw [W.re mm hmm]; exact List.mem_map.mpr ⟨mm,hmm,rfl⟩⟩ hss;refine ⟨r3,_,rfl,d4.dt,hh.w.len,hh.w.pos,λ r5 G5 g5 d5=>?_⟩;refine p_l (hm.up (sG3.trans (g4.trans g5))) d5 hh.m ⟨_,rfl,iteF ?_⟩;exact g3.trans (g4.trans g5)
    ·rintro σ G3 ⟨v7',rfl,g3⟩;exact ⟨_,_,rfl,sG2.trans g3⟩
  ·rintro σ G ⟨v6,v7,rfl,sG⟩;subst e1;refine st λ N1 e1=>⟨_,rfl,λ ph G1 g1 dh=>?_⟩;show N1 [some (.ref a),some (.int (i+1)),some (.ref l),some (.ref g),some (.ref m),some (.int (tgS i).length),v6,v7,some (.ref ph),none] G1;have dh':DdAt K G1 ph (b_K 2):=dh;have sG1:=sG.trans g1;replace hg:=hg.up sG1;replace hl:=hl.up sG1;replace hm:=hm.up sG1;subst e1;refine st λ N1 e1=>?_;walk_at "r";refine p_l hm dh'.dt W.s0 ⟨_,rfl,iteF ?_⟩;refine ⟨g,l,m,i,rfl,hi17,hg,hl,hm,λ G2 g2=>⟨_,rfl,?_⟩⟩;walk_at "r";replace hg:=hg.up g2;replace hl:=hl.up g2;replace hm:=hm.up g2;have s12:=s09.trans (sG1.trans g2);subst e1;refine st λ N1 e1=>d_B λ B eB=>?_;simp only [iSeq];walk_at "r";refine ⟨false,⟨_,s12.seq hS⟩,?_⟩;refine e_L (g:=a_T 9) (tb:=B) (nx:=N1) (rt:=Q) (xs:=ns.map V.int) (LwI K G2 i a l g m v6 v7) ⟨ph,b_K 2,_,rfl,Same.refl _,dh'.up g2,i_T W⟩ (λ k σ G _ ⟨_,_,_,_,sG,_⟩=>(s12.trans sG).seq hS) ?_ ?_
   ·rintro k xk σ G3 ek ⟨p3,x3,v9,rfl,g3,d3,h3⟩;rw [zH] at ek;cases hk:ns[k]? with
    | none=>rw [hk] at ek; cases ek
    | some c =>
     rw [hk] at ek;cases ek;have hk63:k < 63:=by have:=(zqa hk).1; omega
     subst eB;show tSeq _ _ _ [some (.ref a),some (.int (i+1)),some (.ref l),some (.ref g),some (.ref m),some (.int (tgS i).length),v6,v7,some (.ref p3),some (.int c)] G3;refine st λ N3 e3=>?_;have key:∀ G5 p5 x5,Same G3 G5->DdAt K G5 p5 x5->Here i (2+4*(k+1)) x5->N3 [some (.ref a),some (.int (i+1)),some (.ref l),some (.ref g),some (.ref m),some (.int (tgS i).length),v6,v7,some (.ref p5),some (.int c)] G5:=by
      intro G5 p5 x5 g5 d5 h5;have t5:=g3.trans g5;have hg5:=hg.up t5;obtain ⟨ex,lgx,lox,lsx,lnx,eg5⟩:=hg5.ins;obtain ⟨my,hmy,emy⟩:=List.mem_map.mp h5.m;obtain ⟨j,ej⟩:=List.getElem?_of_mem hmy;have hnum:(L2.vT (numT (tgS i) 0) (dat (a_W x5))).getD V.non=V.int ((j:Nat):Int):=by
       rw [← emy,t_C nd ej,Nat.zero_add];rfl
      have hsq:x5.1.length<=100:=by rw [h5.w.sq.1]; decide
      have hln:x5.2.1.length<=100:=by rw [h5.w.len]; decide
      have atc:∀ (G:Hp) (E':XK) (Q':VK),Same G5 G->(∀ G',Same G G'->Q' (V.int ((j:Nat):Int)) G')->sp_s K t [.ref g,.ref p5] G Q' E':=λ G E' Q' sG q=>⟨g,p5,2,tgM i,tgS i,x5,rfl,hg5.up sG,d5.up sG,hsq,hln,h5.w.pos,λ G' g'=>by rw [hnum]; exact q G' g'⟩;subst e3;walk_at "r";simp only [h_w];walk_at "r";refine ⟨ex,_,eg5,rfl,atc G5 _ _ (Same.refl _) λ G6 g6=>?_⟩;rw [zX (by intro z; cases z)];refine iteF ⟨ex,_,g6 _ _ eg5,rfl,atc G6 _ _ g6 λ G7 g7=>?_⟩;have t7:=t5.trans (g6.trans g7);obtain ⟨os7,em7,po7⟩:=hm.up t7;have hj7:j < os7.length:=by rw [a_Q po7]; exact (zqa ej).1
      obtain ⟨my',ej',dmy⟩:=b_S po7 (zqd hj7);rw [ej] at ej';cases ej';refine ⟨false,m,_,_,_,rfl,rfl,SqB.lst em7,a_V (k:=j) (by rw [zH,zqd hj7]; rfl) rfl,?_⟩;refine ⟨p5,x5,rfl,(d5.up (g6.trans g7)).dt,h5.w.len,h5.w.pos,λ r8 G8 g8 d8=>?_⟩;rw [emy] at dmy;refine g_R (b:=true) 4 (by decide) (DdV.up dmy g8) d8 (e_h 4 _ (d_E _)) (e_h 4 _ (d_E _)) (by simp) ⟨_,rfl,iteF ?_⟩;exact ⟨p5,x5,_,rfl,t7.trans g8,d5.up ((g6.trans g7).trans g8),h5⟩
     walk_at "r";refine ⟨Nat.zero_le _,λ q hq=>?_⟩;have s4:Same G3 (upd G3 q (.lst [])):=Same.new hq;have e4:(upd G3 q (.lst [])) q=some (.lst []):=a_F;generalize upd G3 q (.lst [])=G4 at *
     have hl4:=hl.up (g3.trans s4);refine g_R (b:=decide (tgM i=[])) 5 (by decide) hl4.dt (show Dt K G4 (.ref q) (.list (([]:List Dd).map dat)) from .lst (.inl (.inl e4)) .nil) (h_S _) (h_S _) (by rw [decide_eq_true_eq]; exact list_inj.symm) ⟨_,rfl,?_⟩
     by_cases hz:tgM i=[]
     ·rw [zW hz];exact iteF (key G4 p3 x3 s4 (d3.up s4) ⟨h3.w.le (by omega),h3.m⟩)
     ·rw [zX hz];refine iteT (p_j hl4 ?_);have hpos:0 < (tgM i).length:=List.length_pos_iff.mpr hz;obtain ⟨kk,hkk⟩:∃ kk:Nat,c.fmod ((tgM i).length:Int)=kk:=Int.eq_ofNat_of_zero_le (fms c _ (by omega)).1;have hkl:kk < (tgM i).length:=by have:=(fms c ((tgM i).length:Int) (by omega)).2; omega
      refine ⟨_,_,rfl,rfl,(by show ¬ ((tgM i).length:Int)=0; omega),?_⟩;obtain ⟨ss,ess⟩:∃ ss,(tgM i)[kk]?=some ss:=⟨_,zqd hkl⟩;have hss:=zqb ess;refine t_A hl4 ess hkk λ q5 dq5=>?_;refine ⟨p3,q5,x3,ss,2+4*k,2,rfl,(d3.up s4).dt,dq5.dt,h3.w,W.ma ss hss,by omega,by decide,λ r G5 g5 d5=>?_⟩;have hh:=h_f W h3 hss;exact key G5 r _ (s4.trans g5) d5 (by rw [show 2+4*(k+1)=2+4*k+4 by omega]; exact hh)
   ·rintro σ G3 ⟨p3,x3,v9,rfl,g3,d3,h3⟩;subst e1;walk_at "r";exact hQ G3
end
theorem us1 {α:Type} {us:List α} (h:us.length=1):∃ a0,us=[a0]:=match us,h with | [a0],_=>⟨a0,rfl⟩
theorem us2 {α:Type} {us:List α} (h:us.length=2):∃ a0 a1,us=[a0,a1]:=match us,h with | [a0,a1],_=>⟨a0,a1,rfl⟩
theorem us3 {α:Type} {us:List α} (h:us.length=3):∃ a0 a1 a2,us=[a0,a1,a2]:=match us,h with | [a0,a1,a2],_=>⟨a0,a1,a2,rfl⟩
theorem us4 {α:Type} {us:List α} (h:us.length=4):∃ a0 a1 a2 a3,us=[a0,a1,a2,a3]:=match us,h with | [a0,a1,a2,a3],_=>⟨a0,a1,a2,a3,rfl⟩
local macro_rules | `(tactic| walk_at "1")=>`(tactic| (intro _ _ _ _ _ _ us hl; obtain ⟨_,hh⟩:=us1 hl; subst hh; rfl))
local macro_rules | `(tactic| walk_at "2")=>`(tactic| (intro _ _ _ _ _ _ us hl; obtain ⟨_,_,hh⟩:=us2 hl; subst hh; rfl))
local macro_rules | `(tactic| walk_at "3")=>`(tactic| (intro _ _ _ _ _ _ us hl; obtain ⟨_,_,_,hh⟩:=us3 hl; subst hh; rfl))
theorem txt_mk {K:Frag} {h:Heap} {mg:Str->Option Value} (X:K.In h) (G:h.Ns mainGlobals mg)
 {C_1d C_1e C_1c C_15 C_1b C_1f C_z C_MAKERS f_v f_12 f_h f_i f_1a f_11 f_w f_2 f_x f_18 f_14 f_13 f_10 f_16 f_k f_j f_y f_0 f_m f_7 f_3 f_d f_s f_9 f_1 f_c f_8 f_u f_o f_t f_4 f_17 f_e f_f f_p f_g f_n f_5 f_q f_b f_a f_r f_6 f_l f_19:Addr} {od_v an_v od_12 an_12 od_h an_h od_i an_i od_1a an_1a od_11 an_11 od_w an_w od_2 an_2 od_x an_x od_18 an_18 od_14 an_14 od_13 an_13 od_10 an_10 od_16 an_16 od_k an_k od_j an_j od_y an_y od_0 an_0 od_m an_m od_7 an_7 od_3 an_3 od_d an_d od_s an_s od_9 an_9 od_1 an_1 od_c an_c od_8 an_8 od_u an_u od_o an_o od_t an_t od_4 an_4 od_17 an_17 od_e an_e od_f an_f od_p an_p od_g an_g od_n an_n od_5 an_5 od_q an_q od_b an_b od_a an_a od_r an_r od_6 an_6 od_l an_l od_19 an_19:Option Addr} {sl_v sl_12 sl_h sl_i sl_1a sl_11 sl_w sl_2 sl_x sl_18 sl_14 sl_13 sl_10 sl_16 sl_k sl_j sl_y sl_0 sl_m sl_7 sl_3 sl_d sl_s sl_9 sl_1 sl_c sl_8 sl_u sl_o sl_t sl_4 sl_17 sl_e sl_f sl_p sl_g sl_n sl_5 sl_q sl_b sl_a sl_r sl_6 sl_l sl_19:Array (Option Value)} {oc_v kV_v dc_v pm_v cd_v ct_v oc_12 kV_12 dc_12 pm_12 cd_12 ct_12 oc_h kV_h dc_h pm_h cd_h ct_h oc_i kV_i dc_i pm_i cd_i ct_i oc_1a kV_1a dc_1a pm_1a cd_1a ct_1a oc_11 kV_11 dc_11 pm_11 cd_11 ct_11 oc_w kV_w dc_w pm_w cd_w ct_w oc_2 kV_2 dc_2 pm_2 cd_2 ct_2 oc_x kV_x dc_x pm_x cd_x ct_x oc_18 kV_18 dc_18 pm_18 cd_18 ct_18 oc_14 kV_14 dc_14 pm_14 cd_14 ct_14 oc_13 kV_13 dc_13 pm_13 cd_13 ct_13 oc_10 kV_10 dc_10 pm_10 cd_10 ct_10 oc_16 kV_16 dc_16 pm_16 cd_16 ct_16 oc_k kV_k dc_k pm_k cd_k ct_k oc_j kV_j dc_j pm_j cd_j ct_j oc_y kV_y dc_y pm_y cd_y ct_y oc_0 kV_0 dc_0 pm_0 cd_0 ct_0 oc_m kV_m dc_m pm_m cd_m ct_m oc_7 kV_7 dc_7 pm_7 cd_7 ct_7 oc_3 kV_3 dc_3 pm_3 cd_3 ct_3 oc_d kV_d dc_d pm_d cd_d ct_d oc_s kV_s dc_s pm_s cd_s ct_s oc_9 kV_9 dc_9 pm_9 cd_9 ct_9 oc_1 kV_1 dc_1 pm_1 cd_1 ct_1 oc_c kV_c dc_c pm_c cd_c ct_c oc_8 kV_8 dc_8 pm_8 cd_8 ct_8 oc_u kV_u dc_u pm_u cd_u ct_u oc_o kV_o dc_o pm_o cd_o ct_o oc_t kV_t dc_t pm_t cd_t ct_t oc_4 kV_4 dc_4 pm_4 cd_4 ct_4 oc_17 kV_17 dc_17 pm_17 cd_17 ct_17 oc_e kV_e dc_e pm_e cd_e ct_e oc_f kV_f dc_f pm_f cd_f ct_f oc_p kV_p dc_p pm_p cd_p ct_p oc_g kV_g dc_g pm_g cd_g ct_g oc_n kV_n dc_n pm_n cd_n ct_n oc_5 kV_5 dc_5 pm_5 cd_5 ct_5 oc_q kV_q dc_q pm_q cd_q ct_q oc_b kV_b dc_b pm_b cd_b ct_b oc_a kV_a dc_a pm_a cd_a ct_a oc_r kV_r dc_r pm_r cd_r ct_r oc_6 kV_6 dc_6 pm_6 cd_6 ct_6 oc_l kV_l dc_l pm_l cd_l ct_l oc_19 kV_19 dc_19 pm_19 cd_19 ct_19:Value}
  {T_Group___init__:Addr} {oT_Group___init__:Value} {dT_Group___init__:Option Addr} {nT_Group___init__:Nat} {sT_Group___init__:Array (Option Value)} {kT_Group___init__:Tok}
  {tk_MOST_MEMBERS:Tok}
  {tk_LETTERS:Tok}
  {tk_FIGURES:Tok}
  {tk_MOST_FIGURES:Tok}
  (n_1d:nsIn K mainGlobals "CrystalError" = some (some (.ref C_1d)))
  (n_1e:nsIn K mainGlobals "NoPlace" = some (some (.ref C_1e)))
  (n_1c:nsIn K mainGlobals "NoDeed" = some (some (.ref C_1c)))
  (n_15:nsIn K mainGlobals "NoNumber" = some (some (.ref C_15)))
  (n_1b:nsIn K mainGlobals "NoText" = some (some (.ref C_1b)))
  (n_1f:nsIn K mainGlobals "TooMany" = some (some (.ref C_1f)))
  (n_z:nsIn K mainGlobals "Group" = some (some (.ref C_z)))
  (n_MAKERS:nsIn K mainGlobals "MAKERS" = some (some (.ref C_MAKERS)))
  (n_v:nsIn K mainGlobals "divisor" = some (some (.ref f_v)))
  (l_v:K.lookup f_v=some ⟨oc_v,od_v,.func (fnOf "divisor" "divisor" (a_L s_v) (a_H s_v) (a_B s_v) .none kV_v dc_v pm_v an_v cd_v ct_v),sl_v⟩)
  (c_v:codeIn K cd_v "divisor" = true)
  (k_v:keepIn K (.ref f_v)=true)
  (n_12:nsIn K mainGlobals "place" = some (some (.ref f_12)))
  (l_12:K.lookup f_12=some ⟨oc_12,od_12,.func (fnOf "place" "place" (a_L s_12) (a_H s_12) (a_B s_12) .none kV_12 dc_12 pm_12 an_12 cd_12 ct_12),sl_12⟩)
  (c_12:codeIn K cd_12 "place" = true)
  (k_12:keepIn K (.ref f_12)=true)
  (n_h:nsIn K mainGlobals "rest_place" = some (some (.ref f_h)))
  (l_h:K.lookup f_h=some ⟨oc_h,od_h,.func (fnOf "rest_place" "rest_place" (a_L s_h) (a_H s_h) (a_B s_h) .none kV_h dc_h pm_h an_h cd_h ct_h),sl_h⟩)
  (c_h:codeIn K cd_h "rest_place" = true)
  (k_h:keepIn K (.ref f_h)=true)
  (n_i:nsIn K mainGlobals "still_rows" = some (some (.ref f_i)))
  (l_i:K.lookup f_i=some ⟨oc_i,od_i,.func (fnOf "still_rows" "still_rows" (a_L s_i) (a_H s_i) (a_B s_i) .none kV_i dc_i pm_i an_i cd_i ct_i),sl_i⟩)
  (c_i:codeIn K cd_i "still_rows" = true)
  (k_i:keepIn K (.ref f_i)=true)
  (n_1a:nsIn K mainGlobals "dot" = some (some (.ref f_1a)))
  (l_1a:K.lookup f_1a=some ⟨oc_1a,od_1a,.func (fnOf "dot" "dot" (a_L s_1a) (a_H s_1a) (a_B s_1a) .none kV_1a dc_1a pm_1a an_1a cd_1a ct_1a),sl_1a⟩)
  (c_1a:codeIn K cd_1a "dot" = true)
  (k_1a:keepIn K (.ref f_1a)=true)
  (n_11:nsIn K mainGlobals "turned" = some (some (.ref f_11)))
  (l_11:K.lookup f_11=some ⟨oc_11,od_11,.func (fnOf "turned" "turned" (a_L s_11) (a_H s_11) (a_B s_11) .none kV_11 dc_11 pm_11 an_11 cd_11 ct_11),sl_11⟩)
  (c_11:codeIn K cd_11 "turned" = true)
  (k_11:keepIn K (.ref f_11)=true)
  (n_w:nsIn K mainGlobals "without" = some (some (.ref f_w)))
  (l_w:K.lookup f_w=some ⟨oc_w,od_w,.func (fnOf "without" "without" (a_L s_w) (a_H s_w) (a_B s_w) .none kV_w dc_w pm_w an_w cd_w ct_w),sl_w⟩)
  (c_w:codeIn K cd_w "without" = true)
  (k_w:keepIn K (.ref f_w)=true)
  (n_2:nsIn K mainGlobals "determinant" = some (some (.ref f_2)))
  (l_2:K.lookup f_2=some ⟨oc_2,od_2,.func (fnOf "determinant" "determinant" (a_L s_2) (a_H s_2) (a_B s_2) .none kV_2 dc_2 pm_2 an_2 cd_2 ct_2),sl_2⟩)
  (c_2:codeIn K cd_2 "determinant" = true)
  (k_2:keepIn K (.ref f_2)=true)
  (n_x:nsIn K mainGlobals "joined" = some (some (.ref f_x)))
  (l_x:K.lookup f_x=some ⟨oc_x,od_x,.func (fnOf "joined" "joined" (a_L s_x) (a_H s_x) (a_B s_x) .none kV_x dc_x pm_x an_x cd_x ct_x),sl_x⟩)
  (c_x:codeIn K cd_x "joined" = true)
  (k_x:keepIn K (.ref f_x)=true)
  (n_18:nsIn K mainGlobals "deed" = some (some (.ref f_18)))
  (l_18:K.lookup f_18=some ⟨oc_18,od_18,.func (fnOf "deed" "deed" (a_L s_18) (a_H s_18) (a_B s_18) .none kV_18 dc_18 pm_18 an_18 cd_18 ct_18),sl_18⟩)
  (c_18:codeIn K cd_18 "deed" = true)
  (k_18:keepIn K (.ref f_18)=true)
  (n_14:nsIn K mainGlobals "still" = some (some (.ref f_14)))
  (l_14:K.lookup f_14=some ⟨oc_14,od_14,.func (fnOf "still" "still" (a_L s_14) (a_H s_14) (a_B s_14) .none kV_14 dc_14 pm_14 an_14 cd_14 ct_14),sl_14⟩)
  (c_14:codeIn K cd_14 "still" = true)
  (k_14:keepIn K (.ref f_14)=true)
  (n_13:nsIn K mainGlobals "moved" = some (some (.ref f_13)))
  (l_13:K.lookup f_13=some ⟨oc_13,od_13,.func (fnOf "moved" "moved" (a_L s_13) (a_H s_13) (a_B s_13) .none kV_13 dc_13 pm_13 an_13 cd_13 ct_13),sl_13⟩)
  (c_13:codeIn K cd_13 "moved" = true)
  (k_13:keepIn K (.ref f_13)=true)
  (n_10:nsIn K mainGlobals "behind" = some (some (.ref f_10)))
  (l_10:K.lookup f_10=some ⟨oc_10,od_10,.func (fnOf "behind" "behind" (a_L s_10) (a_H s_10) (a_B s_10) .none kV_10 dc_10 pm_10 an_10 cd_10 ct_10),sl_10⟩)
  (c_10:codeIn K cd_10 "behind" = true)
  (k_10:keepIn K (.ref f_10)=true)
  (n_16:nsIn K mainGlobals "rest" = some (some (.ref f_16)))
  (l_16:K.lookup f_16=some ⟨oc_16,od_16,.func (fnOf "rest" "rest" (a_L s_16) (a_H s_16) (a_B s_16) .none kV_16 dc_16 pm_16 an_16 cd_16 ct_16),sl_16⟩)
  (c_16:codeIn K cd_16 "rest" = true)
  (k_16:keepIn K (.ref f_16)=true)
  (n_k:nsIn K mainGlobals "check_most" = some (some (.ref f_k)))
  (l_k:K.lookup f_k=some ⟨oc_k,od_k,.func (fnOf "check_most" "check_most" (a_L s_k) (a_H s_k) (a_B s_k) .none kV_k dc_k pm_k an_k cd_k ct_k),sl_k⟩)
  (c_k:codeIn K cd_k "check_most" = true)
  (k_k:keepIn K (.ref f_k)=true)
  (n_j:nsIn K mainGlobals "check_axes" = some (some (.ref f_j)))
  (l_j:K.lookup f_j=some ⟨oc_j,od_j,.func (fnOf "check_axes" "check_axes" (a_L s_j) (a_H s_j) (a_B s_j) .none kV_j dc_j pm_j an_j cd_j ct_j),sl_j⟩)
  (c_j:codeIn K cd_j "check_axes" = true)
  (k_j:keepIn K (.ref f_j)=true)
  (n_y:nsIn K mainGlobals "closed" = some (some (.ref f_y)))
  (l_y:K.lookup f_y=some ⟨oc_y,od_y,.func (fnOf "closed" "closed" (a_L s_y) (a_H s_y) (a_B s_y) .none kV_y dc_y pm_y an_y cd_y ct_y),sl_y⟩)
  (c_y:codeIn K cd_y "closed" = true)
  (k_y:keepIn K (.ref f_y)=true)
  (n_0:findIn K (.ref C_z) "__init__" = some (some (.ref f_0)))
  (l_0:K.lookup f_0=some ⟨oc_0,od_0,.func (fnOf "__init__" "Group.__init__" (a_L s_0) (a_H s_0) (a_B s_0) (.ref T_Group___init__) kV_0 dc_0 pm_0 an_0 cd_0 ct_0),sl_0⟩)
  (t_Group___init__:K.lookup T_Group___init__=some ⟨oT_Group___init__,dT_Group___init__,.seq #[.int 200 kT_Group___init__] nT_Group___init__,sT_Group___init__⟩)
  (c_0:codeIn K cd_0 "Group.__init__" = true)
  (k_0:keepIn K (.ref f_0)=true)
  (n_m:findIn K (.ref C_z) "axes" = some (some (.ref f_m)))
  (l_m:K.lookup f_m=some ⟨oc_m,od_m,.func (fnOf "axes" "Group.axes" (a_L s_m) (a_H s_m) (a_B s_m) .none kV_m dc_m pm_m an_m cd_m ct_m),sl_m⟩)
  (c_m:codeIn K cd_m "Group.axes" = true)
  (k_m:keepIn K (.ref f_m)=true)
  (n_7:findIn K (.ref C_z) "makers" = some (some (.ref f_7)))
  (l_7:K.lookup f_7=some ⟨oc_7,od_7,.func (fnOf "makers" "Group.makers" (a_L s_7) (a_H s_7) (a_B s_7) .none kV_7 dc_7 pm_7 an_7 cd_7 ct_7),sl_7⟩)
  (c_7:codeIn K cd_7 "Group.makers" = true)
  (k_7:keepIn K (.ref f_7)=true)
  (n_3:findIn K (.ref C_z) "members" = some (some (.ref f_3)))
  (l_3:K.lookup f_3=some ⟨oc_3,od_3,.func (fnOf "members" "Group.members" (a_L s_3) (a_H s_3) (a_B s_3) .none kV_3 dc_3 pm_3 an_3 cd_3 ct_3),sl_3⟩)
  (c_3:codeIn K cd_3 "Group.members" = true)
  (k_3:keepIn K (.ref f_3)=true)
  (n_d:findIn K (.ref C_z) "words" = some (some (.ref f_d)))
  (l_d:K.lookup f_d=some ⟨oc_d,od_d,.func (fnOf "words" "Group.words" (a_L s_d) (a_H s_d) (a_B s_d) .none kV_d dc_d pm_d an_d cd_d ct_d),sl_d⟩)
  (c_d:codeIn K cd_d "Group.words" = true)
  (k_d:keepIn K (.ref f_d)=true)
  (n_s:findIn K (.ref C_z) "at" = some (some (.ref f_s)))
  (l_s:K.lookup f_s=some ⟨oc_s,od_s,.func (fnOf "at" "Group.at" (a_L s_s) (a_H s_s) (a_B s_s) .none kV_s dc_s pm_s an_s cd_s ct_s),sl_s⟩)
  (c_s:codeIn K cd_s "Group.at" = true)
  (k_s:keepIn K (.ref f_s)=true)
  (n_9:nsIn K mainGlobals "read_whole" = some (some (.ref f_9)))
  (l_9:K.lookup f_9=some ⟨oc_9,od_9,.func (fnOf "read_whole" "read_whole" (a_L s_9) (a_H s_9) (a_B s_9) .none kV_9 dc_9 pm_9 an_9 cd_9 ct_9),sl_9⟩)
  (c_9:codeIn K cd_9 "read_whole" = true)
  (k_9:keepIn K (.ref f_9)=true)
  (n_1:nsIn K mainGlobals "read_fraction" = some (some (.ref f_1)))
  (l_1:K.lookup f_1=some ⟨oc_1,od_1,.func (fnOf "read_fraction" "read_fraction" (a_L s_1) (a_H s_1) (a_B s_1) .none kV_1 dc_1 pm_1 an_1 cd_1 ct_1),sl_1⟩)
  (c_1:codeIn K cd_1 "read_fraction" = true)
  (k_1:keepIn K (.ref f_1)=true)
  (n_c:nsIn K mainGlobals "read_signed" = some (some (.ref f_c)))
  (l_c:K.lookup f_c=some ⟨oc_c,od_c,.func (fnOf "read_signed" "read_signed" (a_L s_c) (a_H s_c) (a_B s_c) .none kV_c dc_c pm_c an_c cd_c ct_c),sl_c⟩)
  (c_c:codeIn K cd_c "read_signed" = true)
  (k_c:keepIn K (.ref f_c)=true)
  (n_8:nsIn K mainGlobals "read_amount" = some (some (.ref f_8)))
  (l_8:K.lookup f_8=some ⟨oc_8,od_8,.func (fnOf "read_amount" "read_amount" (a_L s_8) (a_H s_8) (a_B s_8) .none kV_8 dc_8 pm_8 an_8 cd_8 ct_8),sl_8⟩)
  (c_8:codeIn K cd_8 "read_amount" = true)
  (k_8:keepIn K (.ref f_8)=true)
  (n_u:nsIn K mainGlobals "terms_of" = some (some (.ref f_u)))
  (l_u:K.lookup f_u=some ⟨oc_u,od_u,.func (fnOf "terms_of" "terms_of" (a_L s_u) (a_H s_u) (a_B s_u) .none kV_u dc_u pm_u an_u cd_u ct_u),sl_u⟩)
  (c_u:codeIn K cd_u "terms_of" = true)
  (k_u:keepIn K (.ref f_u)=true)
  (n_o:nsIn K mainGlobals "read_part" = some (some (.ref f_o)))
  (l_o:K.lookup f_o=some ⟨oc_o,od_o,.func (fnOf "read_part" "read_part" (a_L s_o) (a_H s_o) (a_B s_o) .none kV_o dc_o pm_o an_o cd_o ct_o),sl_o⟩)
  (c_o:codeIn K cd_o "read_part" = true)
  (k_o:keepIn K (.ref f_o)=true)
  (n_t:nsIn K mainGlobals "parts_of" = some (some (.ref f_t)))
  (l_t:K.lookup f_t=some ⟨oc_t,od_t,.func (fnOf "parts_of" "parts_of" (a_L s_t) (a_H s_t) (a_B s_t) .none kV_t dc_t pm_t an_t cd_t ct_t),sl_t⟩)
  (c_t:codeIn K cd_t "parts_of" = true)
  (k_t:keepIn K (.ref f_t)=true)
  (n_4:nsIn K mainGlobals "common_under" = some (some (.ref f_4)))
  (l_4:K.lookup f_4=some ⟨oc_4,od_4,.func (fnOf "common_under" "common_under" (a_L s_4) (a_H s_4) (a_B s_4) .none kV_4 dc_4 pm_4 an_4 cd_4 ct_4),sl_4⟩)
  (c_4:codeIn K cd_4 "common_under" = true)
  (k_4:keepIn K (.ref f_4)=true)
  (n_17:nsIn K mainGlobals "read" = some (some (.ref f_17)))
  (l_17:K.lookup f_17=some ⟨oc_17,od_17,.func (fnOf "read" "read" (a_L s_17) (a_H s_17) (a_B s_17) .none kV_17 dc_17 pm_17 an_17 cd_17 ct_17),sl_17⟩)
  (c_17:codeIn K cd_17 "read" = true)
  (k_17:keepIn K (.ref f_17)=true)
  (n_e:nsIn K mainGlobals "told_group" = some (some (.ref f_e)))
  (l_e:K.lookup f_e=some ⟨oc_e,od_e,.func (fnOf "told_group" "told_group" (a_L s_e) (a_H s_e) (a_B s_e) .none kV_e dc_e pm_e an_e cd_e ct_e),sl_e⟩)
  (c_e:codeIn K cd_e "told_group" = true)
  (k_e:keepIn K (.ref f_e)=true)
  (n_f:nsIn K mainGlobals "_law_cell_at" = some (some (.ref f_f)))
  (l_f:K.lookup f_f=some ⟨oc_f,od_f,.func (fnOf "_law_cell_at" "_law_cell_at" (a_L s_f) (a_H s_f) (a_B s_f) .none kV_f dc_f pm_f an_f cd_f ct_f),sl_f⟩)
  (c_f:codeIn K cd_f "_law_cell_at" = true)
  (k_f:keepIn K (.ref f_f)=true)
  (n_p:nsIn K mainGlobals "_law_whole" = some (some (.ref f_p)))
  (l_p:K.lookup f_p=some ⟨oc_p,od_p,.func (fnOf "_law_whole" "_law_whole" (a_L s_p) (a_H s_p) (a_B s_p) .none kV_p dc_p pm_p an_p cd_p ct_p),sl_p⟩)
  (c_p:codeIn K cd_p "_law_whole" = true)
  (k_p:keepIn K (.ref f_p)=true)
  (n_g:nsIn K mainGlobals "_law_common" = some (some (.ref f_g)))
  (l_g:K.lookup f_g=some ⟨oc_g,od_g,.func (fnOf "_law_common" "_law_common" (a_L s_g) (a_H s_g) (a_B s_g) .none kV_g dc_g pm_g an_g cd_g ct_g),sl_g⟩)
  (c_g:codeIn K cd_g "_law_common" = true)
  (k_g:keepIn K (.ref f_g)=true)
  (n_n:nsIn K mainGlobals "_law_told" = some (some (.ref f_n)))
  (l_n:K.lookup f_n=some ⟨oc_n,od_n,.func (fnOf "_law_told" "_law_told" (a_L s_n) (a_H s_n) (a_B s_n) .none kV_n dc_n pm_n an_n cd_n ct_n),sl_n⟩)
  (c_n:codeIn K cd_n "_law_told" = true)
  (k_n:keepIn K (.ref f_n)=true)
  (n_5:nsIn K mainGlobals "_law_behind" = some (some (.ref f_5)))
  (l_5:K.lookup f_5=some ⟨oc_5,od_5,.func (fnOf "_law_behind" "_law_behind" (a_L s_5) (a_H s_5) (a_B s_5) .none kV_5 dc_5 pm_5 an_5 cd_5 ct_5),sl_5⟩)
  (c_5:codeIn K cd_5 "_law_behind" = true)
  (k_5:keepIn K (.ref f_5)=true)
  (n_q:nsIn K mainGlobals "_law_rest" = some (some (.ref f_q)))
  (l_q:K.lookup f_q=some ⟨oc_q,od_q,.func (fnOf "_law_rest" "_law_rest" (a_L s_q) (a_H s_q) (a_B s_q) .none kV_q dc_q pm_q an_q cd_q ct_q),sl_q⟩)
  (c_q:codeIn K cd_q "_law_rest" = true)
  (k_q:keepIn K (.ref f_q)=true)
  (n_b:nsIn K mainGlobals "_law_numbers" = some (some (.ref f_b)))
  (l_b:K.lookup f_b=some ⟨oc_b,od_b,.func (fnOf "_law_numbers" "_law_numbers" (a_L s_b) (a_H s_b) (a_B s_b) .none kV_b dc_b pm_b an_b cd_b ct_b),sl_b⟩)
  (c_b:codeIn K cd_b "_law_numbers" = true)
  (k_b:keepIn K (.ref f_b)=true)
  (n_a:nsIn K mainGlobals "_law_words" = some (some (.ref f_a)))
  (l_a:K.lookup f_a=some ⟨oc_a,od_a,.func (fnOf "_law_words" "_law_words" (a_L s_a) (a_H s_a) (a_B s_a) .none kV_a dc_a pm_a an_a cd_a ct_a),sl_a⟩)
  (c_a:codeIn K cd_a "_law_words" = true)
  (k_a:keepIn K (.ref f_a)=true)
  (n_r:nsIn K mainGlobals "_law_only" = some (some (.ref f_r)))
  (l_r:K.lookup f_r=some ⟨oc_r,od_r,.func (fnOf "_law_only" "_law_only" (a_L s_r) (a_H s_r) (a_B s_r) .none kV_r dc_r pm_r an_r cd_r ct_r),sl_r⟩)
  (c_r:codeIn K cd_r "_law_only" = true)
  (k_r:keepIn K (.ref f_r)=true)
  (n_6:nsIn K mainGlobals "_law_refused" = some (some (.ref f_6)))
  (l_6:K.lookup f_6=some ⟨oc_6,od_6,.func (fnOf "_law_refused" "_law_refused" (a_L s_6) (a_H s_6) (a_B s_6) .none kV_6 dc_6 pm_6 an_6 cd_6 ct_6),sl_6⟩)
  (c_6:codeIn K cd_6 "_law_refused" = true)
  (k_6:keepIn K (.ref f_6)=true)
  (n_l:nsIn K mainGlobals "_law_number" = some (some (.ref f_l)))
  (l_l:K.lookup f_l=some ⟨oc_l,od_l,.func (fnOf "_law_number" "_law_number" (a_L s_l) (a_H s_l) (a_B s_l) .none kV_l dc_l pm_l an_l cd_l ct_l),sl_l⟩)
  (c_l:codeIn K cd_l "_law_number" = true)
  (k_l:keepIn K (.ref f_l)=true)
  (n_19:nsIn K mainGlobals "law" = some (some (.ref f_19)))
  (l_19:K.lookup f_19=some ⟨oc_19,od_19,.func (fnOf "law" "law" (a_L s_19) (a_H s_19) (a_B s_19) .none kV_19 dc_19 pm_19 an_19 cd_19 ct_19),sl_19⟩)
  (c_19:codeIn K cd_19 "law" = true)
  (k_19:keepIn K (.ref f_19)=true)
  (n_MOST_MEMBERS:nsIn K mainGlobals "MOST_MEMBERS" = some (some (.int 200 tk_MOST_MEMBERS)))
  (n_LETTERS:nsIn K mainGlobals "LETTERS" = some (some (.str "xyz" tk_LETTERS)))
  (n_FIGURES:nsIn K mainGlobals "FIGURES" = some (some (.str "0123456789" tk_FIGURES)))
  (n_MOST_FIGURES:nsIn K mainGlobals "MOST_FIGURES" = some (some (.int 100 tk_MOST_FIGURES)))
  (y_any:nsIn K mainGlobals "any" = some none)
  (y_sum:nsIn K mainGlobals "sum" = some none)
  (y_zip:nsIn K mainGlobals "zip" = some none)
  (y_enumerate:nsIn K mainGlobals "enumerate" = some none)
  (y_range:nsIn K mainGlobals "range" = some none)
  (y_len:nsIn K mainGlobals "len" = some none)
  (y_abs:nsIn K mainGlobals "abs" = some none)
  (y_isinstance:nsIn K mainGlobals "isinstance" = some none)
  (y_int:nsIn K mainGlobals "int" = some none)
  (y_bool:nsIn K mainGlobals "bool" = some none)
  (y_list:nsIn K mainGlobals "list" = some none)
  (y_tuple:nsIn K mainGlobals "tuple" = some none)
  (y_max:nsIn K mainGlobals "max" = some none)
  (y_str:nsIn K mainGlobals "str" = some none)
  (y_sorted:nsIn K mainGlobals "sorted" = some none)
  (y_dict:nsIn K mainGlobals "dict" = some none)
  (y_set:nsIn K mainGlobals "set" = some none)
  (q_k:kitOne K (.type "int") (.type "int")=some true)
  (q_l:kitOne K (.type "int") (.type "bool")=some false)
  (q_m:kitOne K (.type "tuple") (.type "tuple")=some true)
  (q_n:kitOne K (.type "list") (.type "list")=some true)
  (q_b:PySem.W.excIn K C_1e [.type "ValueError",.type "Exception",.type "BaseException",.type "object"] "ValueError.__new__" = true)
  (q_d:PySem.W.excIn K C_1c [.type "ValueError",.type "Exception",.type "BaseException",.type "object"] "ValueError.__new__" = true)
  (q_e:PySem.W.excIn K C_1b [.type "ValueError",.type "Exception",.type "BaseException",.type "object"] "ValueError.__new__" = true)
  (q_f:L2.Cls K C_z)
  (q_g:L2.Mk K C_z f_0)
  (q_0:L2.Meth K C_z "members" f_3)
  (q_4:findIn K (.ref C_z) "dimension" = some none)
  (q_h:findIn K (.ref C_z) "given" = some none)
  (q_7:findIn K (.ref C_z) "ordered" = some none)
  (q_5:findIn K (.ref C_z) "shortest" = some none)
  (q_8:findIn K (.ref C_z) "numbers" = some none)
  (q_v:PySem.W.exmOne K (.ref C_15) (.ref C_1d)=some true)
  (q_o:findIn K (.ref C_15) "__getattribute__" = some (some (.builtin "BaseException.__getattribute__")))
  (q_p:findIn K (.ref C_15) "__getattr__" = some none)
  (q_q:findIn K (.ref C_15) "__class__" = some (some (.builtin "object.__class__")))
  (q_r:PySem.W.specialIn K (.builtin "object.__class__") "__get__" = some (some (.builtin "getset_descriptor.__get__")))
  (q_s:PySem.W.takesIn K (.builtin "object.__class__")=some true)
  (q_t:PySem.W.mroIn K C_15 (.type "object")=some true)
  (q_u:PySem.W.mroIn K C_15 (.type "BaseException")=some true)
  (q_i:L2.rowsIs K C_MAKERS [[],["-x,-y"],["-x,y"],["-x,y+1/2"],["y,x"],["-x,y","x,-y"],["-x,-y","-x+1/2,y"],["-x,-y","-x+1/2,y+1/2"],["-x,-y","y,x"],["-y,x"],["-y,x","-x,y"],["-y,x","-x+1/2,y+1/2"],["-y,x-y"],["-y,x-y","-y,-x"],["-y,x-y","y,x"],["x-y,x"],["x-y,x","y,x"]]=true)
  (q_9:PySem.W.excIn K C_15 [.type "ValueError",.type "Exception",.type "BaseException",.type "object"] "ValueError.__new__" = true)
  (q_a:kitOne K (.ref C_15) (.ref C_15)=some true)
  (q_j:kitOne K (.ref C_15) (.ref C_1c)=some false)
  (q_c:kitOne K (.ref C_15) (.ref C_1f)=some false)
  (q_3:L2.Meth K C_z "axes" f_m)
  (q_1:L2.Meth K C_z "makers" f_7)
  (q_2:L2.Meth K C_z "words" f_d)
  (q_6:L2.Meth K C_z "at" f_s)
  : ∃ t,Txt K mg t:=by
 have F_v:=a_Y (st:=s_v) l_v c_v k_v;have b_v:=F_v.binds (ps:=pk') (by walk_at "2");have F_12:=a_Y (st:=s_12) l_12 c_12 k_12;have b_12:=F_12.binds (ps:=pi') (by walk_at "2");have F_h:=a_Y (st:=s_h) l_h c_h k_h;have b_h:=F_h.binds (ps:=py') (by walk_at "1");have F_i:=a_Y (st:=s_i) l_i c_i k_i;have b_i:=F_i.binds (ps:=["size"]) (by walk_at "1");have F_1a:=a_Y (st:=s_1a) l_1a c_1a k_1a;have b_1a:=F_1a.binds (ps:=pk') (by walk_at "2");have F_11:=a_Y (st:=s_11) l_11 c_11 k_11;have b_11:=F_11.binds (ps:=pv') (by walk_at "1");have F_w:=a_Y (st:=s_w) l_w c_w k_w;have b_w:=F_w.binds (ps:=pj') (by walk_at "3");have F_2:=a_Y (st:=s_2) l_2 c_2 k_2;have b_2:=F_2.binds (ps:=pv') (by walk_at "1");have F_x:=a_Y (st:=s_x) l_x c_x k_x;have b_x:=F_x.binds (ps:=pl') (by walk_at "2");have F_18:=a_Y (st:=s_18) l_18 c_18 k_18;have b_18:=F_18.binds (ps:=pe') (by walk_at "3");have F_14:=a_Y (st:=s_14) l_14 c_14 k_14;have b_14:=F_14.binds (ps:=["d"]) (by walk_at "1");have F_13:=a_Y (st:=s_13) l_13 c_13 k_13;have b_13:=F_13.binds (ps:=pn') (by walk_at "2");have F_10:=a_Y (st:=s_10) l_10 c_10 k_10;have b_10:=F_10.binds (ps:=pk') (by walk_at "2");have F_16:=a_Y (st:=s_16) l_16 c_16 k_16;have b_16:=F_16.binds (ps:=py') (by walk_at "1");have F_k:=a_Y (st:=s_k) l_k c_k k_k;have b_k:=F_k.binds (ps:=["most"]) (by walk_at "1");have F_j:=a_Y (st:=s_j) l_j c_j k_j;have b_j:=F_j.binds (ps:=pp') (by walk_at "2");have F_y:=a_Y (st:=s_y) l_y c_y k_y;have b_y:=F_y.binds (ps:=pf') (by walk_at "3");have F_0:=u_k (st:=s_0) (ds:=[.int 200 kT_Group___init__]) l_0 c_0 k_0 t_Group___init__;have b_0:=F_0.bindsA (ps:=pb') λ _ _ _ _ _ _ _ us hl=>by obtain ⟨_,_,_,_,rfl⟩:=us4 hl; exact ⟨_,rfl,rfl⟩
 have bd_Group___init__:=F_0.binds (ps:=pb') λ _ _ _ _ _ _ _ us hl=>by obtain ⟨_,_,_,rfl⟩:=us3 (Nat.succ.inj hl); exact ⟨_,rfl,rfl⟩
 have F_m:=a_Y (st:=s_m) l_m c_m k_m;have b_m:=F_m.binds (ps:=pw') (by walk_at "1");have F_7:=a_Y (st:=s_7) l_7 c_7 k_7;have b_7:=F_7.binds (ps:=pw') (by walk_at "1");have F_3:=a_Y (st:=s_3) l_3 c_3 k_3;have b_3:=F_3.binds (ps:=pw') (by walk_at "1");have F_d:=a_Y (st:=s_d) l_d c_d k_d;have b_d:=F_d.binds (ps:=pw') (by walk_at "1");have F_s:=a_Y (st:=s_s) l_s c_s k_s;have b_s:=F_s.binds (ps:=pq') (by walk_at "2");have F_9:=a_Y (st:=s_9) l_9 c_9 k_9;have b_9:=F_9.binds (ps:=px') (by walk_at "1");have F_1:=a_Y (st:=s_1) l_1 c_1 k_1;have b_1:=F_1.binds (ps:=px') (by walk_at "1");have F_c:=a_Y (st:=s_c) l_c c_c k_c;have b_c:=F_c.binds (ps:=px') (by walk_at "1");have F_8:=a_Y (st:=s_8) l_8 c_8 k_8;have b_8:=F_8.binds (ps:=px') (by walk_at "1");have F_u:=a_Y (st:=s_u) l_u c_u k_u;have b_u:=F_u.binds (ps:=["part"]) (by walk_at "1");have F_o:=a_Y (st:=s_o) l_o c_o k_o;have b_o:=F_o.binds (ps:=ph') (by walk_at "2");have F_t:=a_Y (st:=s_t) l_t c_t k_t;have b_t:=F_t.binds (ps:=px') (by walk_at "1");have F_4:=a_Y (st:=s_4) l_4 c_4 k_4;have b_4:=F_4.binds (ps:=["pairs"]) (by walk_at "1");have F_17:=a_Y (st:=s_17) l_17 c_17 k_17;have b_17:=F_17.binds (ps:=px') (by walk_at "1");have F_e:=a_Y (st:=s_e) l_e c_e k_e;have b_e:=F_e.binds (ps:=["number"]) (by walk_at "1");have F_f:=a_Y (st:=s_f) l_f c_f k_f;have b_f:=F_f.binds (ps:=pd') (by walk_at "2");have F_p:=a_Y (st:=s_p) l_p c_p k_p;have b_p:=F_p.binds (ps:=pr') (by walk_at "1");have F_g:=a_Y (st:=s_g) l_g c_g k_g;have b_g:=F_g.binds (ps:=pc') (by walk_at "2");have F_n:=a_Y (st:=s_n) l_n c_n k_n;have b_n:=F_n.binds (ps:=pg') (by walk_at "1");have F_5:=a_Y (st:=s_5) l_5 c_5 k_5;have b_5:=F_5.binds (ps:=pc') (by walk_at "2");have F_q:=a_Y (st:=s_q) l_q c_q k_q;have b_q:=F_q.binds (ps:=pt') (by walk_at "1");have F_b:=a_Y (st:=s_b) l_b c_b k_b;have b_b:=F_b.binds (ps:=pt') (by walk_at "1");have F_a:=a_Y (st:=s_a) l_a c_a k_a;have b_a:=F_a.binds (ps:=pa') (by walk_at "3");have F_r:=a_Y (st:=s_r) l_r c_r k_r;have b_r:=F_r.binds (ps:=pu') (by walk_at "1");have F_6:=a_Y (st:=s_6) l_6 c_6 k_6;have b_6:=F_6.binds (ps:=pg') (by walk_at "1");have F_l:=a_Y (st:=s_l) l_l c_l k_l;have b_l:=F_l.binds (ps:=pm') (by walk_at "1");have F_19:=a_Y (st:=s_19) l_19 c_19 k_19;have b_19:=F_19.binds (ps:=pm') (by walk_at "1");exact ⟨⟨f_v,_,f_12,_,f_h,_,f_i,_,f_1a,_,f_11,_,f_w,_,f_2,_,f_x,_,f_18,_,f_14,_,f_13,_,f_10,_,f_16,_,f_k,_,f_j,_,f_y,_,f_0,_,f_m,_,f_7,_,f_3,_,f_d,_,f_s,_,f_9,_,f_1,_,f_c,_,f_8,_,f_u,_,f_o,_,f_t,_,f_4,_,f_17,_,f_e,_,f_f,_,f_p,_,f_g,_,f_n,_,f_5,_,f_q,_,f_b,_,f_a,_,f_r,_,f_6,_,f_l,_,f_19,_,C_1d,C_1e,C_1c,C_15,C_1b,C_1f,C_z,C_MAKERS,kT_Group___init__⟩,⟨F_v,mg_of X G n_v,b_v,F_12,mg_of X G n_12,b_12,F_h,mg_of X G n_h,b_h,F_i,mg_of X G n_i,b_i,F_1a,mg_of X G n_1a,b_1a,F_11,mg_of X G n_11,b_11,F_w,mg_of X G n_w,b_w,F_2,mg_of X G n_2,b_2,F_x,mg_of X G n_x,b_x,F_18,mg_of X G n_18,b_18,F_14,mg_of X G n_14,b_14,F_13,mg_of X G n_13,b_13,F_10,mg_of X G n_10,b_10,F_16,mg_of X G n_16,b_16,F_k,mg_of X G n_k,b_k,F_j,mg_of X G n_j,b_j,F_y,mg_of X G n_y,b_y,F_0,bd_Group___init__,b_0,F_m,b_m,F_7,b_7,F_3,b_3,F_d,b_d,F_s,b_s,F_9,mg_of X G n_9,b_9,F_1,mg_of X G n_1,b_1,F_c,mg_of X G n_c,b_c,F_8,mg_of X G n_8,b_8,F_u,mg_of X G n_u,b_u,F_o,mg_of X G n_o,b_o,F_t,mg_of X G n_t,b_t,F_4,mg_of X G n_4,b_4,F_17,mg_of X G n_17,b_17,F_e,mg_of X G n_e,b_e,F_f,mg_of X G n_f,b_f,F_p,mg_of X G n_p,b_p,F_g,mg_of X G n_g,b_g,F_n,mg_of X G n_n,b_n,F_5,mg_of X G n_5,b_5,F_q,mg_of X G n_q,b_q,F_b,mg_of X G n_b,b_b,F_a,mg_of X G n_a,b_a,F_r,mg_of X G n_r,b_r,F_6,mg_of X G n_6,b_6,F_l,mg_of X G n_l,b_l,F_19,mg_of X G n_19,b_19,PySem.W.mg_none_of X G y_any,PySem.W.mg_none_of X G y_sum,PySem.W.mg_none_of X G y_zip,PySem.W.mg_none_of X G y_enumerate,PySem.W.mg_none_of X G y_range,PySem.W.mg_none_of X G y_len,PySem.W.mg_none_of X G y_abs,PySem.W.mg_none_of X G y_isinstance,PySem.W.mg_none_of X G y_int,PySem.W.mg_none_of X G y_bool,PySem.W.mg_none_of X G y_list,PySem.W.mg_none_of X G y_tuple,PySem.W.mg_none_of X G y_max,PySem.W.mg_none_of X G y_str,PySem.W.mg_none_of X G y_sorted,PySem.W.mg_none_of X G y_dict,PySem.W.mg_none_of X G y_set,mg_of X G n_1d,mg_of X G n_1e,mg_of X G n_1c,mg_of X G n_15,mg_of X G n_1b,mg_of X G n_1f,mg_of X G n_z,mg_of X G n_MAKERS,⟨_,mg_of X G n_MOST_MEMBERS,_,rfl⟩,⟨_,mg_of X G n_LETTERS,_,rfl⟩,⟨_,mg_of X G n_FIGURES,_,rfl⟩,⟨_,mg_of X G n_MOST_FIGURES,_,rfl⟩,q_k,q_l,q_m,q_n,q_b,q_d,q_e,q_f,q_g,q_0,q_4,q_h,q_7,q_5,q_8,q_v,q_o,q_p,q_q,q_r,q_s,q_t,q_u,q_i,q_9,q_a,q_j,q_c,q_3,q_1,q_2,q_6,λ s v=>.of_eq rfl⟩⟩
end Cw
open PySem PySem.W PyProof.Rows
/-! Names that the head would else lay equations under (of whole heaps and of their trees): the proof wants none of them. -/
namespace PySem.W.Fast
def tw9141510466451619662:=()
def tw15728713662600669037:=()
def tw1371285346704859572:=()
def tw13265509427421706125:=()
def tw17101540892452447464:=()
def tw14849848848504465219:=()
def tw8201079461622234700:=()
def tw15849703460103449490:=()
def tw678698834310771735:=()
def tw1571474731799857884:=()
def tw10195656087624374664:=()
def tw1270254267748329373:=()
def tw32291798061561488:=()
def tw1120252364175530075:=()
def tw4539813693625029398:=()
def tw8841722777458026385:=()
def tw3143983130691058557:=()
def tw5045355438620011647:=()
def tw1296265515823602897:=()
def tw14147580812442815885:=()
def tw4479983867399380436:=()
def tw16839982126029870663:=()
def tw5400902044259788445:=()
def tw1136678436838973580:=()
def tw10612094349282490022:=()
def tw9328653605944048959:=()
def tw2603217192041529893:=()
def tw11133745546046614483:=()
def tw1557594461358427405:=()
def tw14818293180068677453:=()
def tw18368110742146425353:=()
def tw14916712512170541558:=()
def tw3046693302582943832:=()
def tw1725326364224969914:=()
def tw17345551168448550272:=()
def tw1872631736523104433:=()
def tw2738183894107086280:=()
def tw9806391601286093005:=()
def tw17548608321541298908:=()
def tw11586352524930368456:=()
def tw12771337242729980284:=()
def tw18358128029334984085:=()
def tw18212980982489355146:=()
def tw15351248069694146601:=()
def tw9831376843189044334:=()
def tw17208027827066477816:=()
def tw8092273524471096185:=()
def tw4366990986162161133:=()
def tw14252253365470510589:=()
def tw8569831586979017963:=()
def tw17417291909933948618:=()
def tw17852230645904428663:=()
def tw12025174647680074074:=()
def tw15204008944780204578:=()
def tw2059096174284359531:=()
def tw222081177399578439:=()
def tw746927122785245878:=()
def tw8437575112866870584:=()
def tw6782452066016099352:=()
def tw7829727270695240734:=()
def tw8900810833577534432:=()
def tw3945736970497619244:=()
def tw8513074498773688733:=()
def tw8748241650098314189:=()
end PySem.W.Fast
set_option maxRecDepth 100000 in
set_option maxHeartbeats 0 in
theorem PySem.Challenge.cw_crystalwords_k71_the_seventeen_holds : PySem.Challenge.rw_crystalwords_k71_the_seventeen.Holds := by
 w_on; o_law; k_head; (case hw=>w_witness2)
 k_fill
 refine L2.walkB (l:=PySem.Challenge.rw_crystalwords_k71_the_seventeen) (k:=18) (x := "_law_script") rfl rfl ⟨rfl,by decide,by decide⟩ (λ w h Y=>PySem.W.kIn_of Y) ?F
 case F =>
  intro w mg fa h KX G hmg
  have T:∃ t,Cw.Txt (L2.KOf KX) mg t:=by
   dsimp only [L2.KOf]
   refine' Cw.txt_mk KX G ?n_1d ?n_1e ?n_1c ?n_15 ?n_1b ?n_1f ?n_z ?n_MAKERS ?n_v ?l_v ?c_v ?k_v ?n_12 ?l_12 ?c_12 ?k_12 ?n_h ?l_h ?c_h ?k_h ?n_i ?l_i ?c_i ?k_i ?n_1a ?l_1a ?c_1a ?k_1a ?n_11 ?l_11 ?c_11 ?k_11 ?n_w ?l_w ?c_w ?k_w ?n_2 ?l_2 ?c_2 ?k_2 ?n_x ?l_x ?c_x ?k_x ?n_18 ?l_18 ?c_18 ?k_18 ?n_14 ?l_14 ?c_14 ?k_14 ?n_13 ?l_13 ?c_13 ?k_13 ?n_10 ?l_10 ?c_10 ?k_10 ?n_16 ?l_16 ?c_16 ?k_16 ?n_k ?l_k ?c_k ?k_k ?n_j ?l_j ?c_j ?k_j ?n_y ?l_y ?c_y ?k_y ?n_0 ?l_0 ?t_Group___init__ ?c_0 ?k_0 ?n_m ?l_m ?c_m ?k_m ?n_7 ?l_7 ?c_7 ?k_7 ?n_3 ?l_3 ?c_3 ?k_3 ?n_d ?l_d ?c_d ?k_d ?n_s ?l_s ?c_s ?k_s ?n_9 ?l_9 ?c_9 ?k_9 ?n_1 ?l_1 ?c_1 ?k_1 ?n_c ?l_c ?c_c ?k_c ?n_8 ?l_8 ?c_8 ?k_8 ?n_u ?l_u ?c_u ?k_u ?n_o ?l_o ?c_o ?k_o ?n_t ?l_t ?c_t ?k_t ?n_4 ?l_4 ?c_4 ?k_4 ?n_17 ?l_17 ?c_17 ?k_17 ?n_e ?l_e ?c_e ?k_e ?n_f ?l_f ?c_f ?k_f ?n_p ?l_p ?c_p ?k_p ?n_g ?l_g ?c_g ?k_g ?n_n ?l_n ?c_n ?k_n ?n_5 ?l_5 ?c_5 ?k_5 ?n_q ?l_q ?c_q ?k_q ?n_b ?l_b ?c_b ?k_b ?n_a ?l_a ?c_a ?k_a ?n_r ?l_r ?c_r ?k_r ?n_6 ?l_6 ?c_6 ?k_6 ?n_l ?l_l ?c_l ?k_l ?n_19 ?l_19 ?c_19 ?k_19 ?n_MOST_MEMBERS ?n_LETTERS ?n_FIGURES ?n_MOST_FIGURES ?y_any ?y_sum ?y_zip ?y_enumerate ?y_range ?y_len ?y_abs ?y_isinstance ?y_int ?y_bool ?y_list ?y_tuple ?y_max ?y_str ?y_sorted ?y_dict ?y_set ?q_k ?q_l ?q_m ?q_n ?q_b ?q_d ?q_e ?q_f ?q_g ?q_0 ?q_4 ?q_h ?q_7 ?q_5 ?q_8 ?q_v ?q_o ?q_p ?q_q ?q_r ?q_s ?q_t ?q_u ?q_i ?q_9 ?q_a ?q_j ?q_c ?q_3 ?q_1 ?q_2 ?q_6
   (case n_1d | n_1e | n_1c | n_15 | n_1b | n_1f | n_z | n_MAKERS | n_v | l_v | c_v | k_v | n_12 | l_12 | c_12 | k_12 | n_h | l_h | c_h | k_h | n_i | l_i | c_i | k_i | n_1a | l_1a | c_1a | k_1a | n_11 | l_11 | c_11 | k_11 | n_w | l_w | c_w | k_w | n_2 | l_2 | c_2 | k_2 | n_x | l_x | c_x | k_x | n_18 | l_18 | c_18 | k_18 | n_14 | l_14 | c_14 | k_14 | n_13 | l_13 | c_13 | k_13 | n_10 | l_10 | c_10 | k_10 | n_16 | l_16 | c_16 | k_16 | n_k | l_k | c_k | k_k | n_j | l_j | c_j | k_j | n_y | l_y | c_y | k_y | n_0 | l_0 | t_Group___init__ | c_0 | k_0 | n_m | l_m | c_m | k_m | n_7 | l_7 | c_7 | k_7 | n_3 | l_3 | c_3 | k_3 | n_d | l_d | c_d | k_d | n_s | l_s | c_s | k_s | n_9 | l_9 | c_9 | k_9 | n_1 | l_1 | c_1 | k_1 | n_c | l_c | c_c | k_c | n_8 | l_8 | c_8 | k_8 | n_u | l_u | c_u | k_u | n_o | l_o | c_o | k_o | n_t | l_t | c_t | k_t | n_4 | l_4 | c_4 | k_4 | n_17 | l_17 | c_17 | k_17 | n_e | l_e | c_e | k_e | n_f | l_f | c_f | k_f | n_p | l_p | c_p | k_p | n_g | l_g | c_g | k_g | n_n | l_n | c_n | k_n | n_5 | l_5 | c_5 | k_5 | n_q | l_q | c_q | k_q | n_b | l_b | c_b | k_b | n_a | l_a | c_a | k_a | n_r | l_r | c_r | k_r | n_6 | l_6 | c_6 | k_6 | n_l | l_l | c_l | k_l | n_19 | l_19 | c_19 | k_19 | n_MOST_MEMBERS | n_LETTERS | n_FIGURES | n_MOST_FIGURES | y_any | y_sum | y_zip | y_enumerate | y_range | y_len | y_abs | y_isinstance | y_int | y_bool | y_list | y_tuple | y_max | y_str | y_sorted | y_dict | y_set | q_4 | q_h | q_7 | q_5 | q_8 | q_o | q_p | q_q | q_r | q_s | q_t | q_u=>k_is)
   (case q_f | q_g=>exact ⟨by k_is,by k_is,by k_is,by k_is⟩)
   (case q_0 | q_3 | q_1 | q_2 | q_6=>exact ⟨by k_is,by k_is,by k_is⟩)
   (case q_k=>kit_is)
   (case q_l=>kit_is)
   (case q_m=>kit_is)
   (case q_n=>kit_is)
   (case q_b=>k_exc)
   (case q_d=>k_exc)
   (case q_e=>k_exc)
   (case q_v=>kts_exm)
   (case q_i=>kernel_rfl)
   (case q_9=>k_exc)
   (case q_a=>kit_is)
   (case q_j=>kit_is)
   (case q_c=>kit_is)
  obtain ⟨t,T⟩:=T
  have e0:=hmg.symm.trans T.m_19
  cases e0
  exact ⟨t.d_19,T.bl,λ base kb nb=>Cw.ok_19 T⟩
#print axioms PySem.Challenge.cw_crystalwords_k71_the_seventeen_holds