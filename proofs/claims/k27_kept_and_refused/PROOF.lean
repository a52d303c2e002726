import PyProof.Rows.All
import Wide.All
import OpenK.AllK
import Wide.FinOn
import Lean
import PyProof.EqAt
import PyProof.EqKinds
import PyProof.TupleCall
import PySem.Challenge.RW_crystalwords_k27_kept_and_refused
set_option Elab.async false
set_option linter.all false
set_option maxRecDepth 100000
namespace L2
open PySem PySem.Spec PyProof.Rows
open PySem.W (Frag)
noncomputable abbrev Key:=Sum Int Str
noncomputable def n_M:Key->Value->Bool
 | .inl k,v=>Value.isInt k v
 | .inr x,v=>Value.isStrOf x v
noncomputable def keyH (w:World):Key->Int
 | .inl k=>hashInt k
 | .inr x=>hashStr w x
theorem b_M:∀ {k:Key} {v:Value},n_M k v=true->(∃ i t,k=Sum.inl i/\v=Value.int i t)\/(∃ x t,k=Sum.inr x/\v=Value.str x t)
 | .inl i,v,h=>by
  obtain ⟨t,e⟩:=Value.isInt_shape (k:=i) (v:=v) h
  exact .inl ⟨i,t,rfl,e⟩
 | .inr x,v,h=>by
  obtain ⟨t,e⟩:=Value.isStrOf_shape (x:=x) (v:=v) h
  exact .inr ⟨x,t,rfl,e⟩
theorem o_b (a b:Int):decide ((Sum.inl a:Key)=Sum.inl b)=(a == b):=by
 by_cases e:a=b
 ·subst e; simp
 ·have h:¬ (Sum.inl a:Key)=Sum.inl b:=fun q=>e (Sum.inl.inj q)
  rw [decide_eq_false h]
  exact (beq_eq_false_iff_ne.mpr e).symm
theorem o_c (a b:Str):decide ((Sum.inr a:Key)=Sum.inr b)=decide (a=b):=by
 by_cases e:a=b
 ·subst e; simp
 ·have h:¬ (Sum.inr a:Key)=Sum.inr b:=fun q=>e (Sum.inr.inj q)
  rw [decide_eq_false h,decide_eq_false e]
theorem o_d (a:Int) (b:Str):decide ((Sum.inl a:Key)=Sum.inr b)=false:=decide_eq_false (fun q=>nomatch q)
theorem o_e (a:Str) (b:Int):decide ((Sum.inr a:Key)=Sum.inl b)=false:=decide_eq_false (fun q=>nomatch q)
noncomputable def j_g (prog:Program) (w:World):PySem.KeyKind prog w Key where
 is:=n_M
 hash:=keyH w
 inj:=fun v a b ha hb=>by
  rcases b_M ha with ⟨i,t,rfl,rfl⟩ | ⟨x,t,rfl,rfl⟩
  ·rcases b_M hb with ⟨j,u,rfl,e⟩ | ⟨y,u,rfl,e⟩
   ·injection e with e1 _; rw [e1]
   ·exact nomatch e
  ·rcases b_M hb with ⟨j,u,rfl,e⟩ | ⟨y,u,rfl,e⟩
   ·exact nomatch e
   ·injection e with e1 _; rw [e1]
 byValue:=fun k v h=>by
  rcases b_M h with ⟨i,t,rfl,rfl⟩ | ⟨x,t,rfl,rfl⟩ <;> rfl
 pyHash:=fun hv h=>by
  rcases b_M hv with ⟨i,t,rfl,rfl⟩ | ⟨x,t,rfl,rfl⟩
  ·exact wpAny_pyHash_int h
  ·exact wpAny_pyHash_str h
 eqBool:=fun hu hv h=>by
  rcases b_M hu with ⟨i,t,rfl,rfl⟩ | ⟨x,t,rfl,rfl⟩
  ·rcases b_M hv with ⟨j,u,rfl,rfl⟩ | ⟨y,u,rfl,rfl⟩
   ·rw [o_b] at h; exact wpAny_eqBool_int h
   ·rw [o_d] at h; exact SeqAt.EqAt.int_str i t y u _ _ _ _ h
  ·rcases b_M hv with ⟨j,u,rfl,rfl⟩ | ⟨y,u,rfl,rfl⟩
   ·rw [o_e] at h; exact SeqAt.EqAt.str_int x t j u _ _ _ _ h
   ·rw [o_c] at h; exact wpAny_eqBool_str h
 «strs»:=fun k x t v h=>by
  rcases b_M h with ⟨i,u,rfl,e⟩ | ⟨y,u,rfl,e⟩
  ·exact nomatch e
  ·injection e with e1 _
   subst e1
   cases v <;> rfl
inductive V where
 | non | bl (b:Bool) | int (i:Int) | str (x:Str) | byt (b:Array UInt8) | flt (b:UInt64) | ref (a:Addr) | ty (n:String)
 deriving DecidableEq
noncomputable def RelV:V->Value->Prop
 | .non,u=>u=Value.none
 | .bl b,u=>u=Value.bool b
 | .int i,u=>∃ t,u=Value.int i t
 | .str x,u=>∃ t,u=Value.str x t
 | .byt b,u=>∃ t,u=Value.bytes b t
 | .flt b,u=>∃ t,u=Value.float b t
 | .ref a,u=>u=Value.ref a
 | .ty n,u=>u=Value.type n
noncomputable abbrev Vals:List V->List Value->Prop:=Paired RelV
theorem Vals.length {xs:List V} {us:List Value} (r:Vals xs us):xs.length=us.length:=Paired.length r
theorem Vals.get:∀ {xs:List V} {us:List Value} {i:Nat} {x:V},Vals xs us->xs[i]?=some x->∃ u,us[i]?=some u/\RelV x u
 | _,_,_,_,.nil,e=>by simp at e
 | _,_,0,_,.cons r _,e=>by simp at e; subst e; exact ⟨_,rfl,r⟩
 | _,_,i+1,x,.cons _ t,e=>by
  obtain ⟨u,h1,h2⟩:=Vals.get (i:=i) (x:=x) t (by simpa using e)
  exact ⟨u,by simpa using h1,h2⟩
theorem Vals.set {x:V} {u:Value} (r:RelV x u):∀ {xs:List V} {us:List Value} (i:Nat),Vals xs us->Vals (xs.set i x) (us.set i u)
 | _,_,_,.nil=>.nil
 | _,_,0,.cons _ t=>.cons r t
 | _,_,i+1,.cons q t=>.cons q (Vals.set r i t)
theorem Vals.append:∀ {xs ys:List V} {us ws:List Value},Vals xs us->Vals ys ws->Vals (xs++ys) (us++ws)
 | _,_,_,_,.nil,s=>s
 | _,_,_,_,.cons r t,s=>.cons r (Vals.append t s)
theorem Vals.take:∀ {xs:List V} {us:List Value} (n:Nat),Vals xs us->Vals (xs.take n) (us.take n)
 | _,_,0,_=>.nil
 | _,_,_+1,.nil=>.nil
 | _,_,n+1,.cons r t=>.cons r (Vals.take n t)
theorem Vals.drop:∀ {xs:List V} {us:List Value} (n:Nat),Vals xs us->Vals (xs.drop n) (us.drop n)
 | _,_,0,r=>r
 | _,_,_+1,.nil=>.nil
 | _,_,n+1,.cons _ t=>Vals.drop n t
theorem Vals.none_of:∀ {xs:List V} {us:List Value} {i:Nat},Vals xs us->xs[i]?=none->us[i]?=none:=fun {xs us i} r e=>by
 have h1:=r.length
 have h2:xs.length<=i:=List.getElem?_eq_none_iff.mp e
 exact List.getElem?_eq_none_iff.mpr (by omega)
noncomputable def RelO:Option V->Option Value->Prop
 | some v,some u=>RelV v u
 | none,none=>True
 | _,_=>False
noncomputable def KV {κ:Type}:List (κ × V)->List (κ × Value)->Prop:=Paired fun (p:κ × V) (q:κ × Value)=>p.1=q.1/\RelV p.2 q.2
noncomputable def kV:Key->V
 | .inl i=>.int i
 | .inr x=>.str x
inductive HO where
  | lst (xs:List V)
  | tup (xs:List V)
  | dK (kvs:List (Key × V)) | dT (kvs:List (List Key × V))
  | set (S:Int->Bool) (n:Nat)
  | ins (C dx:Addr) (fs:List (Str × V))
  | own (x:Addr)
  | xd (fs:List (Str × V))
  | met (f x:Addr)
  | rng (lo hi:Int)
  | frz (o:Obj) (u:HO)
  | tbl (ps:Array Value)
  | ext (φ:Heap->Prop)
noncomputable abbrev Hp:=Addr->Option HO
noncomputable def upd (H:Hp) (a:Addr) (o:HO):Hp:=fun b=>if b=a then some o else H b
theorem a_F {H:Hp} {a:Addr} {o:HO}:upd H a o a=some o:=by unfold upd; rw [if_pos rfl]
theorem a_E {H:Hp} {a b:Addr} {o:HO} (h:b≠a):upd H a o b=H b:=by unfold upd; rw [if_neg h]
theorem l_V {H:Hp} {a:Addr} {o u:HO}:upd (upd H a o) a u=upd H a u:=by
 funext b; unfold upd; split <;> rfl
theorem a_H {H:Hp} {a b:Addr} {o:HO} (h:H a=some o) (h':H b=none):a≠b:=by
 intro e; subst e; rw [h] at h'; cases h'
section
variable (P:Program) (w:World)
noncomputable def b_B (H:Hp) (h:Heap) (a:Addr):HO->Prop
 | .lst xs=>xs.length<=sizeLine/\∃ (its:List Value) (n:Nat),Vals xs its/\h.get? a=some { cls:=.type "list",data:=.seq its.toArray n }
 | .tup xs=>xs.length<=sizeLine/\∃ its:List Value,Vals xs its/\IsTup h a its.toArray
 | .dK kvs=>kvs.length<=sizeLine/\(a == sysModules)=false/\∃ vs,KV kvs vs/\h.DictOf (j_g P w) a vs
 | .dT kvs=>kvs.length<=sizeLine/\(a == sysModules)=false/\∃ xs:List (List Key × Addr × Value),
   Paired (fun (p:List Key × V) (q:List Key × Addr × Value)=>p.1=q.1/\H q.2.1=some (.tup (p.1.map kV))/\RelV p.2 q.2.2) kvs xs /\
   ∃ o es ep,h.get? a=some o/\o.ExactDict/\o.data=.dict es ep/\es.toList=xs.map (entryOfKey (tupleKind (j_g P w)))/\(xs.map (·.1)).Nodup
 | .set S n=>h.SetOf (intKind P w) a S n
 | .ins C dx fs=>H dx=some (.own a)/\fs.length<=1000/\dx≠a/\h.get? a=some (PySem.W.instObj C dx) /\
   ∃ mA,h.Ns1 dx mA/\(∀ f,RelO (fs.lookup f) (mA f))/\PySem.Within mA (fs.map (·.1))
 | .own _=>∃ o,h.get? a=some o
 | .xd fs=>∃ mA,h.Ns1 a mA/\∀ f,RelO (fs.lookup f) (mA f)
 | .rng lo hi=>∃ t u v,h.get? a=some { cls:=.type "range",data:=.fields #[.int lo t,.int hi u,.int 1 v] }
 | .frz o u=>h.get? a=some o/\b_B H h a u
 | .tbl ps=>h.get? a=some { cls:=.none,data:=.fields ps }
 | .met f x=>h.get? a=some (PySem.W.methodObj (.ref f) (.ref x))
 | .ext φ=>φ h/\(∃ o,h.get? a=some o)/\∀ h1 h2:Heap,φ h1->(∀ o,h1.get? a=some o->h2.get? a=some o)->φ h2
noncomputable def HOk (H:Hp) (h:Heap):Prop:=∀ a o,H a=some o->b_B P w H h a o
end
section
variable {P:Program} {w:World} {H H':Hp} {h h':Heap} {a:Addr} {o:HO}
theorem b_B.lt (x:b_B P w H h a o):a < h.objs.size:=by
 cases o with
 | lst xs=>obtain ⟨_,_,_,_,e⟩:=x; exact Heap.lt_size e
 | tup xs=>obtain ⟨_,_,_,p⟩:=x; exact p.lt
 | dK kvs=>obtain ⟨_,_,_,_,o,_,_,e,_⟩:=x; exact Heap.lt_size e
 | dT kvs=>obtain ⟨_,_,_,_,o,_,_,e,_⟩:=x; exact Heap.lt_size e
 | set S n=>obtain ⟨o,_,_,_,e,_⟩:=x; exact Heap.lt_size e
 | ins C dx fs=>obtain ⟨_,_,_,e,_⟩:=x; exact Heap.lt_size e
 | own y=>obtain ⟨_,e⟩:=x; exact Heap.lt_size e
 | xd fs=>obtain ⟨_,⟨_,_,_,e,_⟩,_⟩:=x; exact Heap.lt_size e
 | rng lo hi=>obtain ⟨_,_,_,e⟩:=x; exact Heap.lt_size e
 | frz ob u=>obtain ⟨e,_⟩:=x; exact Heap.lt_size e
 | tbl ps=>exact Heap.lt_size (show h.get? a=some _ from x)
 | met f y=>exact Heap.lt_size (show h.get? a=some _ from x)
 | ext φ=>obtain ⟨_,⟨_,e⟩,_⟩:=x; exact Heap.lt_size e
theorem Paired.mapP {α β:Type} {F G:α->β->Prop}:∀ {l₁:List α} {l₂:List β},Paired F l₁ l₂->(∀ a b,F a b->G a b)->Paired G l₁ l₂
 | _,_,.nil,_=>.nil
 | _,_,.cons r t,f=>.cons (f _ _ r) (Paired.mapP t f)
theorem b_B.stay (x:b_B P w H h a o) (k:∀ b u,(b=a\/H b=some (.own a))->h.get? b=some u->h'.get? b=some u)
  (ho:∀ b,H b=some (.own a)->H' b=some (.own a)) (ht:∀ b xs,H b=some (.tup xs)->H' b=some (.tup xs)):b_B P w H' h' a o:=by
 induction o with
 | lst xs=>obtain ⟨z,its,n,r,e⟩:=x; exact ⟨z,its,n,r,k _ _ (.inl rfl) e⟩
 | tup xs=>obtain ⟨z,its,r,ob,e,c⟩:=x; exact ⟨z,its,r,ob,k _ _ (.inl rfl) e,c⟩
 | dK kvs=>obtain ⟨z,y,vs,r,ob,es,ep,e,c⟩:=x; exact ⟨z,y,vs,r,ob,es,ep,k _ _ (.inl rfl) e,c⟩
 | dT kvs =>
  obtain ⟨z,y,xs,r,ob,es,ep,e,c⟩:=x
  exact ⟨z,y,xs,Paired.mapP r fun p q z=>⟨z.1,ht _ _ z.2.1,z.2.2⟩,ob,es,ep,k _ _ (.inl rfl) e,c⟩
 | set S n=>obtain ⟨ob,es,ep,t,e,c⟩:=x; exact ⟨ob,es,ep,t,k _ _ (.inl rfl) e,c⟩
 | ins C dx fs =>
  obtain ⟨d,z,ne,e,mA,⟨od,es,ep,e2,c⟩,r⟩:=x
  exact ⟨ho _ d,z,ne,k _ _ (.inl rfl) e,mA,⟨od,es,ep,k _ _ (.inr d) e2,c⟩,r⟩
 | own y=>obtain ⟨ob,e⟩:=x; exact ⟨ob,k _ _ (.inl rfl) e⟩
 | xd fs=>obtain ⟨mA,⟨od,es,ep,e,c⟩,r⟩:=x; exact ⟨mA,⟨od,es,ep,k _ _ (.inl rfl) e,c⟩,r⟩
 | rng lo hi=>obtain ⟨t,u,v,e⟩:=x; exact ⟨t,u,v,k _ _ (.inl rfl) e⟩
 | frz ob u ih=>obtain ⟨e,q⟩:=x; exact ⟨k _ _ (.inl rfl) e,ih q⟩
 | tbl ps =>
  have e:h.get? a=some { cls:=.none,data:=.fields ps }:=x
  show h'.get? a=some { cls:=.none,data:=.fields ps }
  exact k a _ (.inl rfl) e
 | met f y =>
  have e:h.get? a=some (PySem.W.methodObj (.ref f) (.ref y)):=x
  show h'.get? a=some (PySem.W.methodObj (.ref f) (.ref y))
  exact k a _ (.inl rfl) e
 | ext φ=>obtain ⟨p,⟨o,e⟩,st⟩:=x; exact ⟨st _ _ p fun o q=>k _ _ (.inl rfl) q,⟨o,k _ _ (.inl rfl) e⟩,st⟩
theorem HOk.lt (x:HOk P w H h) (e:H a=some o):a < h.objs.size:=(x a o e).lt
theorem HOk.fresh (x:HOk P w H h) (e:h.objs.size<=a):H a=none:=by
 cases q:H a with
 | none=>rfl
 | some u=>exact absurd (Nat.lt_of_lt_of_le (x.lt q) e) (Nat.lt_irrefl _)
theorem HOk.kept (x:HOk P w H h) (k:∀ b u,h.get? b=some u->h'.get? b=some u):HOk P w H h':=fun a o e =>
 (x a o e).stay (fun b u _ q=>k b u q) (fun _ q=>q) fun _ _ q=>q
theorem HOk.laid (x:HOk P w H h) (k:∀ b u,h.get? b=some u->h'.get? b=some u) (hp:h.objs.size<=a) (new:b_B P w (upd H a o) h' a o):HOk P w (upd H a o) h':=fun b u e=>by
 have hn:=x.fresh hp
 by_cases hb:b=a
 ·subst hb; rw [a_F] at e; cases e; exact new
 ·rw [a_E hb] at e
  exact (x b u e).stay (fun c v _ q=>k c v q) (fun c q=>by rw [a_E (a_H q hn)]; exact q) fun c xs q=>by rw [a_E (a_H q hn)]; exact q
end
noncomputable def Rd (H:Hp) (a:Addr) (u:HO):Prop:=H a=some u\/∃ o,H a=some (.frz o u)
theorem Rd.of {H:Hp} {a:Addr} {u:HO} (h:H a=some u):Rd H a u:=.inl h
theorem Rd.ok {P:Program} {w:World} {H:Hp} {h:Heap} {a:Addr} {u:HO} (r:Rd H a u) (x:HOk P w H h):b_B P w H h a u:=by
 rcases r with r | ⟨o,r⟩
 ·exact x a u r
 ·obtain ⟨_,q⟩:=x a _ r
  exact q
noncomputable def Mut:Option HO->Prop
 | some (.lst _)=>True
 | some (.dK _)=>True
 | some (.dT _)=>True
 | some (.set _ _)=>True
 | some (.ins _ _ _)=>True
 | some (.ext _)=>True
 | _=>False
section
variable {P:Program} {w:World} {H:Hp} {h h':Heap} {x e:Addr} {o':HO}
theorem HOk.write (ok:HOk P w H h) (mu:Mut (H x)) (he:e=x\/H e=some (.own x)) (k:∀ b u,b≠e->h.get? b=some u->h'.get? b=some u) (heo:∃ u,h'.get? e=some u)
  (new:b_B P w (upd H x o') h' x o'):HOk P w (upd H x o') h':=fun b u q=>by
 have nown:∀ c y,H c=some (.own y)->c≠x:=fun c y r z=>by subst z; rw [r] at mu; exact mu
 have ntup:∀ c xs,H c=some (.tup xs)->c≠x:=fun c xs r z=>by subst z; rw [r] at mu; exact mu
 by_cases hb:b=x
 ·subst hb; rw [a_F] at q; cases q; exact new
 ·rw [a_E hb] at q
  by_cases hbe:b=e
  ·have q':H b=some (.own x):=by
    rcases he with z | z
    ·exact absurd (hbe.trans z) hb
    ·rw [hbe]; exact z
   rw [q] at q'; cases q'
   obtain ⟨v,hv⟩:=heo
   exact ⟨v,by rw [hbe]; exact hv⟩
  ·refine (ok b u q).stay (fun c v hc r=>k c v ?_ r) (fun c r=>by rw [a_E (nown c b r)]; exact r) fun c xs r=>by rw [a_E (ntup c xs r)]; exact r
   rcases hc with rfl | hc
   ·exact hbe
   ·rintro rfl
    rcases he with z | z
    ·exact nown c b hc z
    ·rw [hc] at z; cases z; exact hb rfl
end
structure Un (fs ex:List Addr) (H H':Hp) (h h':Heap):Prop where
 keep:∀ b o,h.get? b=some o->H b=none->b ∉ fs->b ∉ ex->h'.get? b=some o
 slot:∀ b o,h.get? b=some o->H b=none->b∈fs->b ∉ ex->∃ sl,h'.get? b=some { o with slots:=sl }
 free:∀ b o,h.get? b=some o->H b=none->b ∉ ex->H' b=none
 there:∀ b o,h.get? b=some o->b ∉ ex->∃ o',h'.get? b=some o'
 tups:∀ b xs,H b=some (.tup xs)->H' b=some (.tup xs)
 frzs:∀ b o u,H b=some (.frz o u)->H' b=some (.frz o u)
 tbls:∀ b ps,H b=some (.tbl ps)->∃ more,H' b=some (.tbl (ps++more))
section
variable {fs fs' ex ex':List Addr} {H H1 H2:Hp} {h h1 h2 h':Heap} {a x e:Addr} {o:HO}
theorem Un.any (u:Un fs ex H H1 h h1) {b:Addr} {ob:Obj} (q:h.get? b=some ob) (n:H b=none) (hx:b ∉ ex):∃ sl,h1.get? b=some { ob with slots:=sl }:=by
 by_cases hb:b∈fs
 ·exact u.slot b ob q n hb hx
 ·exact ⟨ob.slots,u.keep b ob q n hb hx⟩
theorem Un.trans (a:Un fs ex H H1 h h1) (b:Un fs ex H1 H2 h1 h2):Un fs ex H H2 h h2 where
 keep:=fun c ob q n hc hx=>b.keep c ob (a.keep c ob q n hc hx) (a.free c ob q n hx) hc hx
 slot:=fun c ob q n hc hx=>by
  obtain ⟨sl,e1⟩:=a.slot c ob q n hc hx
  obtain ⟨sl',e2⟩:=b.slot c _ e1 (a.free c ob q n hx) hc hx
  exact ⟨sl',e2⟩
 free:=fun c ob q n hx=>by
  obtain ⟨o',e1⟩:=a.there c ob q hx
  exact b.free c o' e1 (a.free c ob q n hx) hx
 there:=fun c ob q hx=>by
  obtain ⟨o',e1⟩:=a.there c ob q hx
  exact b.there c o' e1 hx
 tups:=fun c xs q=>b.tups c xs (a.tups c xs q)
 frzs:=fun c ob xs q=>b.frzs c ob xs (a.frzs c ob xs q)
 tbls:=fun c ps q=>by
  obtain ⟨m1,e1⟩:=a.tbls c ps q
  obtain ⟨m2,e2⟩:=b.tbls c _ e1
  exact ⟨m1++m2,by rw [e2,Array.append_assoc]⟩
theorem Un.kept (k:∀ b u,h.get? b=some u->h'.get? b=some u):Un fs ex H H h h' :=
 ⟨fun b ob q _ _ _=>k b ob q,fun b ob q _ _ _=>⟨ob.slots,k b ob q⟩,fun _ _ _ n _=>n,fun b ob q _=>⟨ob,k b ob q⟩,fun _ _ q=>q,fun _ _ _ q=>q,fun _ ps q=>⟨#[],by rw [q]; simp⟩⟩
theorem Un.refl:Un fs ex H H h h:=Un.kept fun _ _ q=>q
theorem Un.laid (k:∀ b u,h.get? b=some u->h'.get? b=some u) (hp:h.objs.size<=a) (hn:H a=none):Un fs ex H (upd H a o) h h' where
 keep:=fun b u q _ _ _=>k b u q
 slot:=fun b u q _ _ _=>⟨u.slots,k b u q⟩
 free:=fun b u q n _=>by rw [a_E (Nat.ne_of_lt (Nat.lt_of_lt_of_le (Heap.lt_size q) hp))]; exact n
 there:=fun b u q _=>⟨u,k b u q⟩
 tups:=fun b xs q=>by rw [a_E (a_H q hn)]; exact q
 frzs:=fun b u xs q=>by rw [a_E (a_H q hn)]; exact q
 tbls:=fun b ps q=>⟨#[],by rw [a_E (a_H q hn),q]; simp⟩
theorem Un.write (mu:Mut (H x)) (he:e=x\/H e=some (.own x)) (k:∀ b u,b≠e->h.get? b=some u->h'.get? b=some u) (heo:∃ u,h'.get? e=some u):Un fs ex H (upd H x o) h h':=by
 have hx:∀ b,H b=none->b≠x:=fun b n z=>by subst z; rw [n] at mu; exact mu
 have hb:∀ b,H b=none->b≠e:=fun b n z=>by
  subst z
  rcases he with r | r
  ·exact hx b n r
  ·rw [n] at r; cases r
 have hm:∀ b u,H b=some u->¬ Mut (some u)->b≠x:=fun b u q nm z=>by subst z; rw [q] at mu; exact nm mu
 refine ⟨fun b u q n _ _=>k b u (hb b n) q,fun b u q n _ _=>⟨u.slots,k b u (hb b n) q⟩,fun b u q n _=>by rw [a_E (hx b n)]; exact n,fun b u q _=>?_,
  fun b xs q=>by rw [a_E (hm b _ q fun z=>z)]; exact q,fun b u xs q=>by rw [a_E (hm b _ q fun z=>z)]; exact q,fun b ps q=>⟨#[],by rw [a_E (hm b _ q fun z=>z),q]; simp⟩⟩
 by_cases hbe:b=e
 ·subst hbe; exact heo
 ·exact ⟨u,k b u hbe q⟩
theorem Un.mono (u:Un fs ex H H1 h h1) (hs:∀ b∈fs,b∈fs') (hx:∀ b∈ex,b∈ex'):Un fs' ex' H H1 h h1 :=
 ⟨fun b ob q n hb he=>u.keep b ob q n (fun z=>hb (hs b z)) fun z=>he (hx b z),fun _ _ q n _ he=>u.any q n fun z=>he (hx _ z),fun b ob q n he=>u.free b ob q n fun z=>he (hx b z),fun b ob q he=>u.there b ob q fun z=>he (hx b z),u.tups,u.frzs,u.tbls⟩
end
noncomputable def trk (h:Heap) (H:Hp):List Addr:=(List.range h.objs.size).filter fun a=>(H a).isSome
noncomputable def hidT (h:Heap) (H:Hp):Heap:=PySem.W.hideAll h (trk h H)
theorem g_M (h:Heap) (H:Hp):(hidT h H).objs.size=h.objs.size:=PySem.W.hideAll_size _ _
theorem h_P {h:Heap} {H:Hp} {b:Addr} {o:Obj} (e:h.get? b=some o) (n:H b=none):(hidT h H).get? b=some o :=
 PySem.W.hideAll_get _ e fun hm=>by
  have q:(H b).isSome=true:=(List.mem_filter.mp hm).2
  rw [n] at q; simp at q
theorem j_h {h:Heap} {H:Hp} {b:Addr} {o:Obj} (e:(hidT h H).get? b=some o):h.get? b=some o/\H b=none:=by
 have e':h.get? b=some o:=PySem.W.of_hideAll (trk h H) e
 refine ⟨e',?_⟩
 cases q:H b with
 | none=>rfl
 | some x =>
  have hm:b∈trk h H:=List.mem_filter.mpr ⟨List.mem_range.mpr (Heap.lt_size e'),by simp [q]⟩
  have z:(hidT h H).get? b=none:=PySem.W.hideAll_none (trk h H) hm
  rw [z] at e; cases e
noncomputable def l_W (g h:Heap) (L:Addr):List (Addr × Obj):=(List.range h.objs.size).filterMap fun a=>if a=L\/(g.get? a).isSome=true then none else (h.get? a).map fun o=>(a,o)
noncomputable def rest (g h:Heap) (L d:Addr):List (Addr × Obj):=(l_W g h L).filter fun p=>decide (p.1≠d)
structure Mod (K:Frag) (mg:Str->Option Value) (base:Heap):Prop where
 kin:K.In base
 glob:base.Ns mainGlobals mg
 blt:∃ mb,base.Ns builtinsNs mb/\∀ x:Str,x ≠ "__name__" -> mb x=bootBuiltins x
 nolimit:base.NoLimit
structure Cx where
 prog:Program
 w:World
 K:Frag
 mg:Str->Option Value
 base:Heap
 A:Around
 N:List Str
 s₀:Shared
 H₀:Hp
 env:Env
 outer:List Env
 stack:List Env
 ex:List Addr
 fn:Str->Bool
 calm:Bool
 pn:List (Addr × Obj)
 xe:Value->Shared->Prop
noncomputable def frs (l:List Env):List Addr:=l.filterMap (·.frame)
noncomputable abbrev Cx.fs (X:Cx):List Addr:=frs X.outer
noncomputable def Vis (sc:Scope) (x:Str):Prop:=sc.names.lookup x=some .local\/sc.names.lookup x=some .cell\/sc.names.lookup x=some .free
noncomputable def Loc (sc:Scope) (x:Str):Prop:=sc.names.lookup x=some .local\/sc.names.lookup x=some .cell
noncomputable def Look (env:Env) (h:Heap) (m:Str->Option Value) (x:Str) (u:Value):Prop :=
 (env.kindOf x=some .local/\m x=some u)\/((env.kindOf x=some .cell\/env.kindOf x=some .free)/\∃ c,env.cells.lookup x=some c/\h.IsCell c (some u))
structure Cx.Ok (X:Cx):Prop where
 mod:Mod X.K X.mg X.base
 kind:X.env.scope.kind=.function
 glob:X.env.globals=mainGlobals
 blt:X.env.builtins=builtinsNs
 above:X.s₀.heap.objs.size<=X.env.locals
 inj:∀ x y c,X.env.cells.lookup x=some c->X.env.cells.lookup y=some c->x=y
 has:∀ x,(X.env.kindOf x=some .cell\/X.env.kindOf x=some .free)->∃ c,X.env.cells.lookup x=some c
 cab:∀ x c,X.fn x=true->X.env.cells.lookup x=some c->X.s₀.heap.objs.size<=c
 hd:X.calm=true->X.A.handled=none
 frames:X.A.frames=some X.stack
 stk:X.stack=X.outer\/(X.stack=X.env :: X.outer/\X.env.frame=some X.env.locals)
 exf:∀ b∈X.ex,b≠X.env.locals/\∀ x c,X.env.cells.lookup x=some c->c≠b
 bs:∀ b o,X.base.get? b=some o->X.s₀.heap.get? b=some o/\X.H₀ b=none
 bsz:X.base.objs.size<=X.s₀.heap.objs.size
 noex:∀ b o,X.base.get? b=some o->b ∉ X.ex
 exfs:∀ b∈X.ex,b ∉ X.fs
 funs:X.s₀.heap.FunFrames X.base X.outer
 frf:∀ b∈X.fs,X.H₀ b=none
structure Inv (X:Cx) (pins:List (Addr × Obj)) (σ:List (Option V)) (H:Hp) (s:Shared):Prop where
 ok:X.Ok
 os:s.os=X.s₀.os
 bare:AllBare s.gens
 base:Un X.fs X.ex X.H₀ H X.s₀.heap s.heap
 loc:∃ m,s.heap.Ns X.env.locals m/\∀ (i:Nat) (x:Str) (v:V),X.N[i]?=some x->σ[i]?=some (some v)->Vis X.env.scope x->∃ u,RelV v u/\Look X.env s.heap m x u
 cell:∀ x c,X.env.cells.lookup x=some c->∃ v,s.heap.IsCell c v
 free:H X.env.locals=none
 freeC:∀ x c,X.env.cells.lookup x=some c->H c=none
 pin:∀ p∈X.pn++pins,s.heap.get? p.1=some p.2/\H p.1=none/\p.1≠X.env.locals/\p.1 ∉ X.fs/\∀ v,p.2.data≠.cell v
 hok:HOk X.prog X.w H s.heap
 len:σ.length=X.N.length
section
variable {X:Cx} {pins:List (Addr × Obj)} {σ:List (Option V)} {H H':Hp} {s:Shared} {h':Heap}
theorem Cx.Ok.nofr (ok:X.Ok) {b:Addr} {o:Obj} (e:X.base.get? b=some o):b ∉ X.fs:=fun hb=>by
 have:=(ok.funs.mem hb).1
 rw [e] at this; cases this
theorem Inv.bs (I:Inv X pins σ H s):∀ b o,X.base.get? b=some o->s.heap.get? b=some o/\H b=none:=fun b o e =>
 ⟨I.base.keep b o (I.ok.bs b o e).1 (I.ok.bs b o e).2 (I.ok.nofr e) (I.ok.noex b o e),I.base.free b o (I.ok.bs b o e).1 (I.ok.bs b o e).2 (I.ok.noex b o e)⟩
theorem Inv.bk (I:Inv X pins σ H s):∀ b o,X.base.get? b=some o->s.heap.get? b=some o:=fun b o e=>(I.bs b o e).1
theorem Inv.mod (I:Inv X pins σ H s):Mod X.K X.mg X.base:=I.ok.mod
theorem Inv.kIn (I:Inv X pins σ H s):X.K.In s.heap:=I.ok.mod.kin.keeps I.bk
theorem Inv.nolimit (I:Inv X pins σ H s):s.heap.NoLimit:=I.ok.mod.nolimit.keeps I.bk
theorem Inv.fr (I:Inv X pins σ H s):∃ m,Fr X.base X.env.locals s.heap m :=
 let ⟨m,hn,_⟩:=I.loc
 ⟨m,hn,I.bk,Nat.le_trans I.ok.bsz I.ok.above⟩
theorem Inv.lt (I:Inv X pins σ H s):X.env.locals < s.heap.objs.size:=let ⟨_,hn,_⟩:=I.loc; hn.lt
theorem Inv.sz (I:Inv X pins σ H s):X.s₀.heap.objs.size<=s.heap.objs.size:=Nat.le_trans I.ok.above (Nat.le_of_lt I.lt)
theorem Inv.nofs (I:Inv X pins σ H s) {a:Addr} (h:s.heap.objs.size<=a):a ∉ X.fs:=fun hb=>by
 obtain ⟨_,o,ho,_⟩:=I.ok.funs.mem hb
 exact absurd (Nat.lt_of_lt_of_le (Heap.lt_size ho) (Nat.le_trans I.sz h)) (Nat.lt_irrefl _)
theorem Inv.cne (I:Inv X pins σ H s):∀ x c,X.env.cells.lookup x=some c->c≠X.env.locals:=fun x c e z=>by
 obtain ⟨v,o,ho,hd⟩:=I.cell x c e
 obtain ⟨m,⟨o',es,ep,ho',hd',_⟩,_⟩:=I.loc
 rw [z,ho'] at ho; cases ho; rw [hd'] at hd; cases hd
theorem Inv.funs (I:Inv X pins σ H s):s.heap.FunFrames X.base X.outer:=by
 have all:∀ (l:List Env),(∀ b∈frs l,b∈X.fs)->X.s₀.heap.FunFrames X.base l->s.heap.FunFrames X.base l:=by
  intro l
  induction l with
  | nil=>intro _ _; trivial
  | cons env r ih =>
   intro hs hl
   obtain ⟨hk,⟨L,o,hf,hn,ho,hd⟩,hr⟩:=hl
   have hL:L∈X.fs:=hs L (by unfold frs; rw [List.filterMap_cons,hf]; exact List.mem_cons_self)
   obtain ⟨sl,e⟩:=I.base.slot L o ho (I.ok.frf L hL) hL fun z=>I.ok.exfs L z hL
   exact ⟨hk,⟨L,_,hf,hn,e,hd⟩,ih (fun b hb=>hs b (by unfold frs; rw [List.filterMap_cons,hf]; exact List.mem_cons_of_mem _ hb)) hr⟩
 exact all X.outer (fun _ hb=>hb) I.ok.funs
theorem Inv.stack (I:Inv X pins σ H s):s.heap.FunFrames X.base X.stack:=by
 rcases I.ok.stk with e | ⟨e,hf⟩
 ·rw [e]; exact I.funs
 ·rw [e]
  obtain ⟨m,hn,_⟩:=I.loc
  refine .cons (by rw [I.ok.kind]; decide) hf hn ?_ I.funs
  exact Heap.get?_none_of_le (Nat.le_trans I.ok.bsz I.ok.above)
theorem Inv.stkSub (I:Inv X pins σ H s):∀ b∈frs X.stack,b∈X.env.locals :: X.fs:=fun b hb=>by
 rcases I.ok.stk with e | ⟨e,hf⟩
 ·rw [e] at hb; exact List.mem_cons_of_mem _ hb
 ·rw [e] at hb
  unfold frs at hb
  rw [List.filterMap_cons,hf] at hb
  exact hb
theorem Inv.stkFree (I:Inv X pins σ H s):∀ b∈frs X.stack,H b=none:=fun b hb=>by
 rcases List.mem_cons.mp (I.stkSub b hb) with e | hb
 ·rw [e]; exact I.free
 ·obtain ⟨_,o,ho,_⟩:=I.ok.funs.mem hb
  exact I.base.free b o ho (I.ok.frf b hb) fun z=>I.ok.exfs b z hb
theorem Inv.step {g':Array GenState} {t':Nat} {d':Drawn} {ch:List Addr} (I:Inv X pins σ H s)
  (hch:∀ b∈ch,(b∈X.ex\/X.s₀.heap.objs.size<=b)/\b≠X.env.locals/\(∀ x c,X.env.cells.lookup x=some c->c≠b)/\∀ p∈X.pn++pins,p.1≠b)
  (keep:∀ b o,b≠X.env.locals->b ∉ X.fs->b ∉ ch->s.heap.get? b=some o->H b=none->h'.get? b=some o)
  (slot:∀ b o,b≠X.env.locals->b∈X.fs->b ∉ ch->s.heap.get? b=some o->H b=none->∃ sl,h'.get? b=some { o with slots:=sl }) (free:∀ b o,b ∉ ch->s.heap.get? b=some o->H b=none->H' b=none)
  (there:∀ b o,b ∉ ch->s.heap.get? b=some o->∃ o',h'.get? b=some o')
  (tups:∀ b xs,H b=some (.tup xs)->H' b=some (.tup xs)) (frzs:∀ b o u,H b=some (.frz o u)->H' b=some (.frz o u)) (tbls:∀ b ps,H b=some (.tbl ps)->∃ more,H' b=some (.tbl (ps++more)))
  (ns:∀ m,s.heap.Ns X.env.locals m->h'.Ns X.env.locals m) (hok:HOk X.prog X.w H' h') (hg:AllBare g') :
  Inv X pins σ H' { s with heap:=h',gens:=g',drawn:=d',toks:=t' }:=by
 have neL:∀ b o,X.s₀.heap.get? b=some o->b≠X.env.locals:=fun b o e=>Nat.ne_of_lt (Nat.lt_of_lt_of_le (Heap.lt_size e) I.ok.above)
 have neC:∀ b o,X.s₀.heap.get? b=some o->b ∉ X.ex->b ∉ ch:=fun b o e hx hb=>by
  rcases (hch b hb).1 with z | z
  ·exact hx z
  ·exact absurd (Nat.lt_of_lt_of_le (Heap.lt_size e) z) (Nat.lt_irrefl _)
 have cellK:∀ x c,X.env.cells.lookup x=some c->∀ v,s.heap.IsCell c v->h'.IsCell c v:=fun x c e v ⟨o,ho,hd⟩=>by
  have nch:c ∉ ch:=fun z=>(hch c z).2.2.1 x c e rfl
  by_cases hc:c∈X.fs
  ·obtain ⟨sl,q⟩:=slot c o (I.cne x c e) hc nch ho (I.freeC x c e)
   exact ⟨_,q,hd⟩
  ·exact ⟨o,keep c o (I.cne x c e) hc nch ho (I.freeC x c e),hd⟩
 refine ⟨I.ok,I.os,hg,⟨fun b o e n hb hx=>?_,fun b o e n hb hx=>?_,fun b o e n hx=>?_,fun b o e hx=>?_,fun b xs e=>tups b xs (I.base.tups b xs e),fun b o xs e=>frzs b o xs (I.base.frzs b o xs e),fun b ps e=>?_⟩,?_,fun x c e=>?_,?_,fun x c e=>?_,fun p hp=>?_,hok,I.len⟩
 ·exact keep b o (neL b o e) hb (neC b o e hx) (I.base.keep b o e n hb hx) (I.base.free b o e n hx)
 ·obtain ⟨sl,e1⟩:=I.base.slot b o e n hb hx
  obtain ⟨sl',e2⟩:=slot b _ (neL b o e) hb (neC b o e hx) e1 (I.base.free b o e n hx)
  exact ⟨sl',e2⟩
 ·obtain ⟨o',e1⟩:=I.base.there b o e hx
  exact free b o' (neC b o e hx) e1 (I.base.free b o e n hx)
 ·obtain ⟨o',e1⟩:=I.base.there b o e hx
  exact there b o' (neC b o e hx) e1
 ·obtain ⟨m1,e1⟩:=I.base.tbls b ps e
  obtain ⟨m2,e2⟩:=tbls b _ e1
  exact ⟨m1++m2,by rw [e2,Array.append_assoc]⟩
 ·obtain ⟨m,hn,hl⟩:=I.loc
  refine ⟨m,ns m hn,fun i x v e1 e2 e3=>?_⟩
  obtain ⟨u,r,l⟩:=hl i x v e1 e2 e3
  refine ⟨u,r,?_⟩
  rcases l with l | ⟨k,c,e,z⟩
  ·exact .inl l
  ·exact .inr ⟨k,c,e,cellK x c e _ z⟩
 ·obtain ⟨v,z⟩:=I.cell x c e
  exact ⟨v,cellK x c e v z⟩
 ·obtain ⟨m,⟨o,_,_,ho,_⟩,_⟩:=I.loc
  exact free _ o (fun z=>(hch _ z).2.1 rfl) ho I.free
 ·obtain ⟨v,o,ho,hd⟩:=I.cell x c e
  exact free c o (fun z=>(hch c z).2.2.1 x c e rfl) ho (I.freeC x c e)
 ·obtain ⟨e,n,ne,nf,d⟩:=I.pin p hp
  have nch:p.1 ∉ ch:=fun z=>(hch p.1 z).2.2.2 p hp rfl
  exact ⟨keep p.1 p.2 ne nf nch e n,free p.1 p.2 nch e n,ne,nf,d⟩
theorem Inv.un {t':Nat} (I:Inv X pins σ H s) (u:Un X.fs [] H H' s.heap h') (hok:HOk X.prog X.w H' h'):Inv X pins σ H' { s with heap:=h',toks:=t' }:=by
 obtain ⟨m,⟨o,es,ep,ho,r⟩,_⟩:=id I.loc
 obtain ⟨sl,hL⟩:=u.any ho I.free (by simp)
 exact I.step (g':=s.gens) (d':=s.drawn) (ch:=[]) (fun _ z=>nomatch z) (fun b o _ hb _ e n=>u.keep b o e n hb (by simp)) (fun b o _ hb _ e n=>u.slot b o e n hb (by simp)) (fun b o _ e n=>u.free b o e n (by simp)) (fun b o _ e=>u.there b o e (by simp)) u.tups u.frzs u.tbls (fun m' hm=>by
  obtain ⟨o',es',ep',ho',r'⟩:=hm
  rw [ho] at ho'; cases ho'
  exact ⟨_,es',ep',hL,r'⟩) hok I.bare
theorem Inv.call {g':Array GenState} {t':Nat} {d':Drawn} {ch:List Addr} (I:Inv X pins σ H s) (u:Un (frs X.stack) ch H H' s.heap h') (hok:HOk X.prog X.w H' h') (hg:AllBare g')
  (hch:∀ b∈ch,(b∈X.ex\/X.s₀.heap.objs.size<=b)/\b≠X.env.locals/\(∀ x c,X.env.cells.lookup x=some c->c≠b)/\∀ p∈X.pn++pins,p.1≠b) :
  Inv X pins σ H' { s with heap:=h',gens:=g',drawn:=d',toks:=t' }:=by
 obtain ⟨m,⟨o,es,ep,ho,r⟩,_⟩:=id I.loc
 obtain ⟨sl,hL⟩:=u.any ho I.free fun z=>(hch _ z).2.1 rfl
 exact I.step (ch:=ch) hch (fun b o hL hb hc e n=>u.keep b o e n (fun z=>(List.mem_cons.mp (I.stkSub b z)).elim hL hb) hc) (fun b o _ _ hc e n=>u.any e n hc) (fun b o hc e n=>u.free b o e n hc) (fun b o hc e=>u.there b o e hc) u.tups u.frzs u.tbls (fun m' hm=>by
  obtain ⟨o',es',ep',ho',r'⟩:=hm
  rw [ho] at ho'; cases ho'
  exact ⟨_,es',ep',hL,r'⟩) hok hg
theorem Inv.turned {t':Nat} {it:Addr} (I:Inv X pins σ H s) (k:∀ b o,b≠it->s.heap.get? b=some o->h'.get? b=some o) (hn:H it=none) (hL:it≠X.env.locals)
  (h1:it∈X.ex\/X.s₀.heap.objs.size<=it) (h2:∀ x c,X.env.cells.lookup x=some c->c≠it) (h3:∀ p∈X.pn++pins,p.1≠it):Inv X pins σ H { s with heap:=h',toks:=t' }:=by
 have nit:∀ b u,H b=some u->b≠it:=fun b u e z=>by rw [z,hn] at e; cases e
 refine I.step (g':=s.gens) (d':=s.drawn) (ch:=[it]) (fun b hb=>?_) (fun b o _ _ hc e _=>k b o (fun z=>hc (by simp [z])) e) (fun b o _ _ hc e _=>⟨o.slots,k b o (fun z=>hc (by simp [z])) e⟩) (fun _ _ _ _ n=>n)
  (fun b o hc e=>⟨o,k b o (fun z=>hc (by simp [z])) e⟩) (fun _ _ e=>e) (fun _ _ _ e=>e) (fun b ps e=>⟨#[],by rw [e]; simp⟩) (fun m hm=>?_) (fun b u e=>?_) I.bare
 ·have e:b=it:=by simpa using hb
  subst e
  exact ⟨h1,hL,h2,h3⟩
 ·obtain ⟨o,es,ep,ho,r⟩:=hm
  exact ⟨o,es,ep,k _ o (Ne.symm hL) ho,r⟩
 ·refine (I.hok b u e).stay (fun c v hc q=>k c v ?_ q) (fun _ q=>q) fun _ _ q=>q
  rcases hc with z | z
  ·rw [z]; exact nit b u e
  ·exact nit c _ z
theorem Inv.tok (I:Inv X pins σ H s) (t:Nat):Inv X pins σ H { s with toks:=t }:=I.un (h':=s.heap) (t':=t) Un.refl I.hok
theorem Inv.kept {t':Nat} (I:Inv X pins σ H s) (k:∀ b u,s.heap.get? b=some u->h'.get? b=some u):Inv X pins σ H { s with heap:=h',toks:=t' }:=I.un (Un.kept k) (I.hok.kept k)
theorem Inv.laid {a:Addr} {o:HO} {t':Nat} (I:Inv X pins σ H s) (k:∀ b u,s.heap.get? b=some u->h'.get? b=some u) (hp:s.heap.objs.size<=a) (new:b_B X.prog X.w (upd H a o) h' a o) :
  Inv X pins σ (upd H a o) { s with heap:=h',toks:=t' }:=I.un (Un.laid k hp (I.hok.fresh hp)) (I.hok.laid k hp new)
theorem Inv.write {x e:Addr} {o:HO} {t':Nat} (I:Inv X pins σ H s) (mu:Mut (H x)) (he:e=x\/H e=some (.own x)) (k:∀ b u,b≠e->s.heap.get? b=some u->h'.get? b=some u) (heo:∃ u,h'.get? e=some u)
  (new:b_B X.prog X.w (upd H x o) h' x o):Inv X pins σ (upd H x o) { s with heap:=h',toks:=t' }:=I.un (Un.write mu he k heo) (I.hok.write mu he k heo new)
theorem Inv.pins_of {pins':List (Addr × Obj)} (I:Inv X pins σ H s) (h:∀ p∈pins',s.heap.get? p.1=some p.2/\H p.1=none/\p.1≠X.env.locals/\p.1 ∉ X.fs/\∀ v,p.2.data≠.cell v):Inv X pins' σ H s :=
 ⟨I.ok,I.os,I.bare,I.base,I.loc,I.cell,I.free,I.freeC,fun p hp=>(List.mem_append.mp hp).elim (fun z=>I.pin p (List.mem_append_left _ z)) (h p),I.hok,I.len⟩
theorem g_e {N:List Str} (hN:N.Nodup) {i j:Nat} {x:Str} (a:N[i]?=some x) (b:N[j]?=some x):i=j:=by
 obtain ⟨h1,e1⟩:=List.getElem?_eq_some_iff.mp a
 obtain ⟨h2,e2⟩:=List.getElem?_eq_some_iff.mp b
 exact (List.getElem_inj hN).mp (e1.trans e2.symm)
theorem g_N {M:Model} {A:Around} {E:Value->Shared->Prop} {i:Nat} {x:Str} {v:V} {u:Value} {Q:Unit->Shared->Prop} (I:Inv X pins σ H s) (hN:X.N.Nodup) (hi:X.N[i]?=some x) (hx:Loc X.env.scope x) (r:RelV v u)
  (h:∀ s',Inv X pins (σ.set i (some v)) H s'->(∃ a,Heap.SameBut a s.heap s'.heap/\(a=X.env.locals\/X.env.cells.lookup x=some a))->Q () s') (hf:X.fn x=true\/X.env.scope.names.lookup x=some .local:=by first | exact .inl rfl | exact .inr rfl | assumption):wpAny M A (storeName X.env x u) Q E s:=by
 obtain ⟨m,hn,hl⟩:=id I.loc
 have hcls:(X.env.scope.kind == .class || (X.env.scope.kind == .module && X.env.locals != X.env.globals))=false:=by rw [I.ok.kind]; rfl
 have hiσ:i < σ.length:=by rw [I.len]; exact (List.getElem?_eq_some_iff.mp hi).1
 have cne:=I.cne
 have tracked:∀ {a:Addr} {h':Heap},(∃ o,s.heap.get? a=some o/\H a=none)->Heap.SameBut a s.heap h'->HOk X.prog X.w H h':=fun {a h'} ha hs b ob e=>by
  obtain ⟨_,_,hfree⟩:=ha
  refine (I.hok b ob e).stay (fun c w' hc q=>(hs.2 c ?_).trans q) (fun _ q=>q) fun _ _ q=>q
  rintro rfl
  rcases hc with rfl | hc
  ·rw [hfree] at e; cases e
  ·rw [hfree] at hc; cases hc
 rcases hx with hk | hk
 ·refine wpAny_storeName_local hk hn (fun h' hn' hs=>?_) hcls
  obtain ⟨oL,_,_,hoL,_⟩:=id hn
  refine h _ ⟨I.ok,I.os,I.bare,⟨fun b o e n hb hx=>?_,fun b o e n hb hx=>?_,I.base.free,fun b o e hx=>?_,I.base.tups,I.base.frzs,I.base.tbls⟩,⟨_,hn',fun j y v' e1 e2 e3=>?_⟩,fun y c e=>?_,I.free,I.freeC,fun p hp=>?_,tracked ⟨oL,hoL,I.free⟩ hs,by simpa using I.len⟩ ⟨_,hs,.inl rfl⟩
  ·exact (hs.2 b (Nat.ne_of_lt (Nat.lt_of_lt_of_le (Heap.lt_size e) I.ok.above))).trans (I.base.keep b o e n hb hx)
  ·obtain ⟨sl,e1⟩:=I.base.slot b o e n hb hx
   exact ⟨sl,(hs.2 b (Nat.ne_of_lt (Nat.lt_of_lt_of_le (Heap.lt_size e) I.ok.above))).trans e1⟩
  ·obtain ⟨o',e1⟩:=I.base.there b o e hx
   exact ⟨o',(hs.2 b (Nat.ne_of_lt (Nat.lt_of_lt_of_le (Heap.lt_size e) I.ok.above))).trans e1⟩
  ·by_cases hj:j=i
   ·subst hj
    rw [hi] at e1; cases e1
    rw [List.getElem?_set_self hiσ] at e2
    cases e2
    exact ⟨u,r,.inl ⟨hk,by simp⟩⟩
   ·rw [List.getElem?_set_ne (Ne.symm hj)] at e2
    obtain ⟨u',r',q⟩:=hl j y v' e1 e2 e3
    refine ⟨u',r',?_⟩
    rcases q with ⟨k,e⟩ | ⟨k,c,e,z⟩
    ·refine .inl ⟨k,?_⟩
     have:y≠x:=fun e=>hj (g_e hN e1 (e ▸ hi))
     simp [this,e]
    ·exact .inr ⟨k,c,e,z.sameBut hs (cne y c e)⟩
  ·obtain ⟨w',z⟩:=I.cell y c e
   exact ⟨w',z.sameBut hs (cne y c e)⟩
  ·obtain ⟨e,n,ne,nf,d⟩:=I.pin p hp
   exact ⟨(hs.2 p.1 ne).trans e,n,ne,nf,d⟩
 ·have hfn:X.fn x=true:=by
   rcases hf with z | z
   ·exact z
   ·rw [z] at hk; cases hk
  obtain ⟨c,hc⟩:=I.ok.has x (.inl hk)
  obtain ⟨w',z⟩:=I.cell x c hc
  refine wpAny_storeName_cell I.ok.kind hk hc z (fun h' hc' hs=>?_)
  obtain ⟨oc,hoc,hocd⟩:=id z
  refine h { s with heap:=h' } ⟨I.ok,I.os,I.bare,⟨fun b o e n hb hx=>?_,fun b o e n hb hx=>?_,I.base.free,fun b o e hx=>?_,I.base.tups,I.base.frzs,I.base.tbls⟩,⟨m,hn.sameBut hs (Ne.symm (cne x c hc)),fun j y v' e1 e2 e3=>?_⟩,fun y c' e=>?_,I.free,I.freeC,fun p hp=>?_,tracked ⟨oc,hoc,I.freeC x c hc⟩ hs,by simpa using I.len⟩ ⟨c,hs,.inr hc⟩
  ·exact (hs.2 b (Nat.ne_of_lt (Nat.lt_of_lt_of_le (Heap.lt_size e) (I.ok.cab x c hfn hc)))).trans (I.base.keep b o e n hb hx)
  ·obtain ⟨sl,e1⟩:=I.base.slot b o e n hb hx
   exact ⟨sl,(hs.2 b (Nat.ne_of_lt (Nat.lt_of_lt_of_le (Heap.lt_size e) (I.ok.cab x c hfn hc)))).trans e1⟩
  ·obtain ⟨o',e1⟩:=I.base.there b o e hx
   exact ⟨o',(hs.2 b (Nat.ne_of_lt (Nat.lt_of_lt_of_le (Heap.lt_size e) (I.ok.cab x c hfn hc)))).trans e1⟩
  ·by_cases hj:j=i
   ·subst hj
    rw [hi] at e1; cases e1
    rw [List.getElem?_set_self hiσ] at e2
    cases e2
    exact ⟨u,r,.inr ⟨.inl hk,c,hc,hc'⟩⟩
   ·rw [List.getElem?_set_ne (Ne.symm hj)] at e2
    obtain ⟨u',r',q⟩:=hl j y v' e1 e2 e3
    refine ⟨u',r',?_⟩
    rcases q with q | ⟨k,c',e,z'⟩
    ·exact .inl q
    ·refine .inr ⟨k,c',e,z'.sameBut hs ?_⟩
     rintro rfl
     exact hj (g_e hN e1 (I.ok.inj _ _ _ e hc ▸ hi))
  ·by_cases hcc:c'=c
   ·subst hcc; exact ⟨_,hc'⟩
   ·obtain ⟨w2,z2⟩:=I.cell y c' e
    exact ⟨w2,z2.sameBut hs hcc⟩
  ·obtain ⟨e,n,ne,nf,d⟩:=I.pin p hp
   refine ⟨(hs.2 p.1 ?_).trans e,n,ne,nf,d⟩
   intro q
   rw [q,hoc] at e
   have q':oc=p.2:=Option.some.inj e
   exact d w' (by rw [← q']; exact hocd)
theorem d_S {M:Model} {A:Around} {E:Value->Shared->Prop} {i:Nat} {x:Str} {v:V} {u:Value} {Q:Unit->Shared->Prop} (I:Inv X pins σ H s) (hN:X.N.Nodup) (hi:X.N[i]?=some x) (hx:Loc X.env.scope x) (r:RelV v u)
  (h:∀ s',Inv X pins (σ.set i (some v)) H s'->Q () s') (hf:X.fn x=true\/X.env.scope.names.lookup x=some .local:=by first | exact .inl rfl | exact .inr rfl | assumption):wpAny M A (storeName X.env x u) Q E s :=
 g_N I hN hi hx r (fun s' I' _=>h s' I') hf
theorem Inv.call' {s':Shared} {ch:List Addr} (I:Inv X pins σ H s) (ho:s'.os=s.os) (u:Un (frs X.stack) ch H H' s.heap s'.heap) (hok:HOk X.prog X.w H' s'.heap) (hg:AllBare s'.gens)
  (hch:∀ b∈ch,(b∈X.ex\/X.s₀.heap.objs.size<=b)/\b≠X.env.locals/\(∀ x c,X.env.cells.lookup x=some c->c≠b)/\∀ p∈X.pn++pins,p.1≠b):Inv X pins σ H' s':=by
 obtain ⟨h',g',d',t',o'⟩:=s'
 have e:o'=s.os:=ho
 subst e
 exact I.call (g':=g') (t':=t') (d':=d') u hok hg hch
end
noncomputable abbrev XK:=Value->Option Addr->Hp->Prop
noncomputable abbrev St:=List (Option V)
noncomputable abbrev VK:=V->Hp->Prop
noncomputable abbrev TE:=St->Hp->VK->Prop
noncomputable abbrev TT:=St->Hp->(Bool->Hp->Prop)->Prop
noncomputable abbrev TA:=St->Hp->(List V->Hp->Prop)->Prop
structure Ends where
 nx:St->Hp->Prop
 rt:VK
 bk:St->Hp->Prop:=fun _ _=>False
 ct:St->Hp->Prop:=fun _ _=>False
noncomputable abbrev TS:=Ends->St->Hp->Prop
noncomputable def EP (X:Cx) (pins:List (Addr × Obj)) (σ:St) (Q:VK) (u:Value) (s':Shared):Prop:=∃ v H',Inv X pins σ H' s'/\RelV v u/\Q v H'
noncomputable def TP (X:Cx) (pins:List (Addr × Obj)) (σ:St) (Q:Bool->Hp->Prop) (b:Bool) (s':Shared):Prop:=∃ H',Inv X pins σ H' s'/\Q b H'
noncomputable def AP (X:Cx) (pins:List (Addr × Obj)) (σ:St) (Q:List V->Hp->Prop) (us:List Value) (s':Shared):Prop:=∃ vs H',Inv X pins σ H' s'/\Vals vs us/\Q vs H'
noncomputable def SP (X:Cx) (pins:List (Addr × Obj)) (D:Ends) (f:Flow) (s':Shared):Prop :=
 match f with
 | .next=>∃ σ' H',Inv X pins σ' H' s'/\D.nx σ' H'
 | .brk=>∃ σ' H',Inv X pins σ' H' s'/\D.bk σ' H'
 | .cont=>∃ σ' H',Inv X pins σ' H' s'/\D.ct σ' H'
 | .ret u=>∃ v σ' H',Inv X pins σ' H' s'/\RelV v u/\D.rt v H'
noncomputable def PE (X:Cx) (e:Expr) (t:TE):Prop :=
 ∀ (pins:List (Addr × Obj)) (s:Shared) (σ:St) (H:Hp) (Q:VK),Inv X pins σ H s->t σ H Q->wpAny (model X.prog X.w) X.A (eval e X.env) (EP X pins σ Q) X.xe s
noncomputable def PT (X:Cx) (e:Expr) (t:TT):Prop :=
 ∀ (pins:List (Addr × Obj)) (s:Shared) (σ:St) (H:Hp) (Q:Bool->Hp->Prop),Inv X pins σ H s->t σ H Q->wpAny (model X.prog X.w) X.A (isTrue e X.env (eval e X.env)) (TP X pins σ Q) X.xe s
noncomputable def PW (X:Cx) (e:Expr) (t:TT):Prop :=
 ∀ (whole:Sem Value) (pins:List (Addr × Obj)) (s:Shared) (σ:St) (H:Hp) (Q:Bool->Hp->Prop),Inv X pins σ H s->t σ H Q->wpAny (model X.prog X.w) X.A (isTrue e X.env whole) (TP X pins σ Q) X.xe s
theorem PW.pt {X:Cx} {e:Expr} {t:TT} (h:PW X e t):PT X e t:=h _
noncomputable def PA (X:Cx) (es:List Expr) (t:TA):Prop :=
 ∀ (pos:Pos) (pins:List (Addr × Obj)) (s:Shared) (σ:St) (H:Hp) (Q:List V->Hp->Prop),Inv X pins σ H s->t σ H Q->wpAny (model X.prog X.w) X.A (spliced (backTo pos (starEach es X.env))) (AP X pins σ Q) X.xe s
noncomputable def PS (X:Cx) (st:Stmt) (t:TS):Prop :=
 ∀ (pins:List (Addr × Obj)) (s:Shared) (σ:St) (H:Hp) (D:Ends),Inv X pins σ H s->t D σ H->wpAny (model X.prog X.w) X.A (exec st X.env) (SP X pins D) X.xe s
noncomputable def PSs (X:Cx) (st:List Stmt) (t:TS):Prop :=
 ∀ (pins:List (Addr × Obj)) (s:Shared) (σ:St) (H:Hp) (D:Ends),Inv X pins σ H s->t D σ H->wpAny (model X.prog X.w) X.A (execs st X.env) (SP X pins D) X.xe s
theorem thn {α:Type} {t:Sem α} {Q Q':α->Shared->Prop} {M:Model} {A:Around} {E:Value->Shared->Prop} {s:Shared} (h:wpAny M A t Q E s) (hQ:∀ a s,Q a s->Q' a s):wpAny M A t Q' E s:=wpAny_mono h hQ fun _ _ x=>x
section
variable {X:Cx}
noncomputable def tVar (i:Nat):TE:=fun σ H Q=>∃ v,σ[i]?=some (some v)/\Q v H
noncomputable def tC (v:V):TE:=fun _ H Q=>Q v H
theorem i_v {i:Nat} {x:Str} {pos:Pos} (hN:X.N[i]?=some x) (hv:Vis X.env.scope x) (hd:(x == ("__debug__" : Str))=false:=by decide) (hcd:(x == ("__classdict__" : Str))=false:=by decide):PE X (.Name x pos) (tVar i):=by
 intro pins s σ H Q I h
 obtain ⟨v,e,h⟩:=h
 obtain ⟨m,hn,hl⟩:=I.loc
 obtain ⟨u,r,l⟩:=hl i x v hN e hv
 have fin:EP X pins σ Q u s:=⟨v,H,I,r,h⟩
 rcases l with ⟨hk,hm⟩ | ⟨hk,c,hc,hcell⟩
 ·exact wpAny_Name (wpAny_loadName_local I.ok.kind hk hn hm fin) hd
 ·rcases hk with hk | hk
  ·exact wpAny_Name (wpAny_loadName_cell I.ok.kind hk hc hcell fin) hd
  ·exact wpAny_Name (wpAny_loadName_free I.ok.kind hk hc hcell fin hcd) hd
theorem a_D {i j pos}:PE X (.Constant (.int i) j pos) (tC (.int i)):=fun _ _ _ H _ I h=>wpAny_Constant_int ⟨.int i,H,I.tok _,⟨_,rfl⟩,h⟩
theorem c_Q {b j pos}:PE X (.Constant (.bool b) j pos) (tC (.bl b)):=fun _ _ _ H _ I h=>Constant_bool ⟨.bl b,H,I,rfl,h⟩
theorem o_f {j pos}:PE X (.Constant .none j pos) (tC .non):=fun _ _ _ H _ I h=>Constant_none ⟨.non,H,I,rfl,h⟩
theorem c_Y {x j pos}:PE X (.Constant (.str x) j pos) (tC (.str x)):=fun _ _ _ H _ I h=>Calls.Constant_str ⟨.str x,H,I.tok _,⟨_,rfl⟩,h⟩
noncomputable def Gl (X:Cx) (x:Str):Prop:=X.env.kindOf x=some .globalImplicit
theorem c_R {E:Value->Shared->Prop} {pins:List (Addr × Obj)} {s:Shared} {σ:St} {H:Hp} {x:Str} {u:Value} {pos:Pos} {Q:Value->Shared->Prop} (I:Inv X pins σ H s) (hg:Gl X x) (hm:X.mg x=some u) (h:Q u s)
  (hd:(x == ("__debug__" : Str))=false:=by decide):wpAny (model X.prog X.w) X.A (eval (.Name x pos) X.env) Q E s :=
 Calls.Name_function_global I.ok.kind hg (Calls.loadGlobal_global (by rw [I.ok.glob]; exact I.mod.glob.keeps I.bk) hm h) hd
theorem d_H {E:Value->Shared->Prop} {pins:List (Addr × Obj)} {s:Shared} {σ:St} {H:Hp} {x:Str} {u:Value} {pos:Pos} {Q:Value->Shared->Prop} (I:Inv X pins σ H s) (hg:Gl X x) (hm:X.mg x=none) (hv:bootBuiltins x=some u) (h:Q u s)
  (hn:x ≠ "__name__" := by decide) (hd:(x == ("__debug__" : Str))=false:=by decide):wpAny (model X.prog X.w) X.A (eval (.Name x pos) X.env) Q E s:=by
 obtain ⟨mb,h1,h2⟩:=I.mod.blt
 exact Calls.Name_function_global I.ok.kind hg (Calls.loadGlobal_builtin (by rw [I.ok.glob]; exact I.mod.glob.keeps I.bk) hm (by rw [I.ok.blt]; exact h1.keeps I.bk) ((h2 x hn).trans hv) h) hd
theorem b_T {x:Str} {v:V} {u:Value} {pos:Pos} (hg:Gl X x) (hm:X.mg x=some u) (r:RelV v u) (hd:(x == ("__debug__" : Str))=false:=by decide):PE X (.Name x pos) (tC v) :=
 fun _ _ _ H _ I h=>c_R I hg hm ⟨v,H,I,r,h⟩ hd
theorem l_X {x:Str} {v:V} {u:Value} {pos:Pos} (hg:Gl X x) (hm:X.mg x=none) (hv:bootBuiltins x=some u) (r:RelV v u) (hn:x ≠ "__name__" := by decide) (hd:(x == ("__debug__" : Str))=false:=by decide):PE X (.Name x pos) (tC v) :=
 fun _ _ _ H _ I h=>d_H I hg hm hv ⟨v,H,I,r,h⟩ hn hd
variable {a b:Expr} {ta tb:TE} {pos:Pos}
noncomputable def tB (t:TE):TT:=fun σ H Q=>t σ H fun x H1=>∃ c,x=.bl c/\Q c H1
theorem c_C {e:Expr} {t:TE} (h:PE X e t) (he:∀ whole,isTrue e X.env whole=(do let v ← whole; standAt e.pos; holding [v] (truthy v)):=by intro _; rfl):PT X e (tB t):=by
 intro pins s σ H Q I hw
 refine isTrue_plain (thn (h pins s σ H _ I hw) fun v s1 ⟨x,H1,I1,r1,q1⟩=>?_) (he _)
 obtain ⟨d,rfl,q⟩:=q1
 cases r1
 exact wpAny_truthy_bool ⟨H1,I1,q⟩
variable {tA tB':TT} {rest:List Expr}
noncomputable def tAnd (t u:TT):TT:=fun σ H Q=>t σ H fun c H1=>if c=true then u σ H1 Q else Q false H1
noncomputable def tOr (t u:TT):TT:=fun σ H Q=>t σ H fun c H1=>if c=true then Q true H1 else u σ H1 Q
noncomputable def tNot (t:TT):TT:=fun σ H Q=>t σ H fun c H1=>Q (!c) H1
theorem f_V (ha:PT X a tA):PW X (.BoolOp .And [a] pos) tA:=by
 intro wh pins s σ H Q I h
 refine isTrue_and (thn (ha pins s σ H Q I h) fun c s1 e=>?_)
 cases c with
 | true=>exact isTrue_and_nil e
 | false=>exact e
theorem i_w (ha:PT X a tA):PW X (.BoolOp .Or [a] pos) tA:=by
 intro wh pins s σ H Q I h
 refine isTrue_or (thn (ha pins s σ H Q I h) fun c s1 e=>?_)
 cases c with
 | false=>exact isTrue_or_nil e
 | true=>exact e
theorem h_l (ha:PT X a tA) (hb:PW X (.BoolOp .And (b :: rest) pos) tB'):PW X (.BoolOp .And (a :: b :: rest) pos) (tAnd tA tB'):=by
 intro wh pins s σ H Q I h
 refine isTrue_and (thn (ha pins s σ H _ I h) fun c s1 ⟨H1,I1,q1⟩=>?_)
 cases c with
 | true=>exact hb wh pins s1 σ H1 Q I1 q1
 | false=>exact ⟨H1,I1,q1⟩
theorem k_v (ha:PT X a tA) (hb:PW X (.BoolOp .Or (b :: rest) pos) tB'):PW X (.BoolOp .Or (a :: b :: rest) pos) (tOr tA tB'):=by
 intro wh pins s σ H Q I h
 refine isTrue_or (thn (ha pins s σ H _ I h) fun c s1 ⟨H1,I1,q1⟩=>?_)
 cases c with
 | true=>exact ⟨H1,I1,q1⟩
 | false=>exact hb wh pins s1 σ H1 Q I1 q1
theorem e_V (ha:PT X a tA):PT X (.UnaryOp .Not a pos) (tNot tA):=by
 intro pins s σ H Q I h
 exact isTrue_not (ha pins s σ H (fun c H1=>Q (!c) H1) I h)
noncomputable def n_N (ta tb:TE):TE:=fun σ H Q=>ta σ H fun x H1=>∃ c,x=.bl c/\if c=true then tb σ H1 Q else Q (.bl false) H1
noncomputable def tOrV (ta tb:TE):TE:=fun σ H Q=>ta σ H fun x H1=>∃ c,x=.bl c/\if c=true then Q (.bl true) H1 else tb σ H1 Q
noncomputable def n_O (ta:TE):TE:=fun σ H Q=>ta σ H fun x H1=>∃ c,x=.bl c/\Q (.bl (!c)) H1
theorem e_W {op} {t:TE} (h:PE X a t):PE X (.BoolOp op [a] pos) t:=fun pins s σ H Q I hw=>BoolOp_one (h pins s σ H Q I hw)
theorem g_f (ha:PE X a ta) (hb:PE X (.BoolOp .And (b :: rest) pos) tb):PE X (.BoolOp .And (a :: b :: rest) pos) (n_N ta tb):=by
 intro pins s σ H Q I h
 refine BoolOp_and (thn (ha pins s σ H _ I h) fun v s1 ⟨x,H1,I1,r1,q1⟩=>?_)
 obtain ⟨c,rfl,q1⟩:=q1
 cases r1
 refine wpAny_truthy_bool ?_
 cases c with
 | true=>exact hb pins s1 σ H1 Q I1 q1
 | false=>exact ⟨.bl false,H1,I1,rfl,q1⟩
theorem n_P (ha:PE X a ta) (hb:PE X (.BoolOp .Or (b :: rest) pos) tb):PE X (.BoolOp .Or (a :: b :: rest) pos) (tOrV ta tb):=by
 intro pins s σ H Q I h
 refine BoolOp_or (thn (ha pins s σ H _ I h) fun v s1 ⟨x,H1,I1,r1,q1⟩=>?_)
 obtain ⟨c,rfl,q1⟩:=q1
 cases r1
 refine wpAny_truthy_bool ?_
 cases c with
 | false=>exact hb pins s1 σ H1 Q I1 q1
 | true=>exact ⟨.bl true,H1,I1,rfl,q1⟩
theorem o_g (ha:PE X a ta):PE X (.UnaryOp .Not a pos) (n_O ta):=by
 intro pins s σ H Q I h
 refine UnaryOp_ (thn (ha pins s σ H _ I h) fun v s1 ⟨x,H1,I1,r1,q1⟩=>?_)
 obtain ⟨c,rfl,q1⟩:=q1
 cases r1
 exact not_of (wpAny_truthy_bool ⟨.bl (!c),H1,I1,rfl,q1⟩)
noncomputable def tIf (t:TT) (ta tb:TE):TE:=fun σ H Q=>t σ H fun c H1=>if c=true then ta σ H1 Q else tb σ H1 Q
theorem h_Q {c:Expr} (hc:PT X c tA) (ha:PE X a ta) (hb:PE X b tb):PE X (.IfExp c a b pos) (tIf tA ta tb):=by
 intro pins s σ H Q I h
 refine wpAny_IfExp (thn (hc pins s σ H _ I h) fun d s1 ⟨H1,I1,q1⟩=>?_)
 cases d with
 | true=>exact ha pins s1 σ H1 Q I1 q1
 | false=>exact hb pins s1 σ H1 Q I1 q1
end
noncomputable def SqL (K:Frag) (H:Hp) (a:Addr) (xs:List V):Prop :=
 Rd H a (.lst xs) \/
  ∃ (o:Obj) (its:Array Value) (n:Nat),K.lookup a=some o/\o.cls=.type "list" /\ o.dict=none/\o.data=.seq its n/\its.size<=sizeLine/\Vals xs its.toList
noncomputable def SqT (K:Frag) (H:Hp) (a:Addr) (xs:List V):Prop :=
 Rd H a (.tup xs) \/
  ∃ (o:Obj) (its:Array Value) (n:Nat),K.lookup a=some o/\o.cls=.type "tuple" /\ o.data=.seq its n/\its.size<=sizeLine/\Vals xs its.toList
noncomputable def absV:Value->Option V
 | .none=>some .non
 | .bool b=>some (.bl b)
 | .int i _=>some (.int i)
 | .str x _=>some (.str x)
 | .bytes b _=>some (.byt b)
 | .float b _=>some (.flt b)
 | .ref a=>some (.ref a)
 | .type n=>some (.ty n)
 | _=>none
theorem RelV.abs {x:V} {u:Value} (r:RelV x u):absV u=some x:=by
 cases x with
 | non=>cases r; rfl
 | bl _=>cases r; rfl
 | int _=>obtain ⟨t,rfl⟩:=r; rfl
 | str _=>obtain ⟨t,rfl⟩:=r; rfl
 | byt _=>obtain ⟨t,rfl⟩:=r; rfl
 | flt _=>obtain ⟨t,rfl⟩:=r; rfl
 | ref _=>cases r; rfl
 | ty _=>cases r; rfl
theorem RelV.inj {x y:V} {u:Value} (r:RelV x u) (q:RelV y u):x=y:=Option.some.inj (r.abs.symm.trans q.abs)
theorem Vals.inj:∀ {xs ys:List V} {us:List Value},Vals xs us->Vals ys us->xs=ys
 | _,_,_,.nil,.nil=>rfl
 | _,_,_,.cons r t,.cons r' t'=>by rw [r.inj r',Vals.inj t t']
section
variable {X:Cx} {pins:List (Addr × Obj)} {σ:St} {H:Hp} {s:Shared} {a:Addr} {xs ys:List V}
theorem SqL.of {K:Frag} (h:H a=some (.lst xs)):SqL K H a xs:=.inl (.inl h)
theorem SqT.of {K:Frag} (h:H a=some (.tup xs)):SqT K H a xs:=.inl (.inl h)
theorem Inv.list (I:Inv X pins σ H s) (h:SqL X.K H a xs):∃ its:List Value,Vals xs its/\PlainL s.heap a its.toArray/\xs.length<=sizeLine:=by
 rcases h with h | ⟨o,its,n,hk,hc,hd,hs,hz,r⟩
 ·obtain ⟨z,its,n,r,e⟩:=h.ok I.hok
  exact ⟨its,r,⟨_,n,e,rfl,rfl,rfl⟩,z⟩
 ·refine ⟨its.toList,r,⟨o,n,I.kIn a o hk,hc,hd,by simpa using hs⟩,?_⟩
  have e:=r.length
  simp only [Array.length_toList] at e
  omega
theorem Inv.tuple (I:Inv X pins σ H s) (h:SqT X.K H a xs):∃ its:List Value,Vals xs its/\IsTup s.heap a its.toArray/\xs.length<=sizeLine:=by
 rcases h with h | ⟨o,its,n,hk,hc,hs,hz,r⟩
 ·obtain ⟨z,its,r,p⟩:=h.ok I.hok
  exact ⟨its,r,p,z⟩
 ·refine ⟨its.toList,r,⟨o,I.kIn a o hk,hc,n,by simpa using hs⟩,?_⟩
  have e:=r.length
  simp only [Array.length_toList] at e
  omega
theorem Inv.list_inj (I:Inv X pins σ H s) (h:SqL X.K H a xs) (h':SqL X.K H a ys):xs=ys:=by
 obtain ⟨its,r,⟨o,n,e,_,_,d⟩,_⟩:=I.list h
 obtain ⟨its',r',⟨o',n',e',_,_,d'⟩,_⟩:=I.list h'
 rw [e] at e'; cases e'
 rw [d] at d'
 injection d' with d1 _
 have:its=its':=by simpa using congrArg Array.toList d1
 subst this
 exact r.inj r'
theorem Inv.tuple_inj (I:Inv X pins σ H s) (h:SqT X.K H a xs) (h':SqT X.K H a ys):xs=ys:=by
 obtain ⟨its,r,⟨o,e,_,n,d⟩,_⟩:=I.tuple h
 obtain ⟨its',r',⟨o',e',_,n',d'⟩,_⟩:=I.tuple h'
 rw [e] at e'; cases e'
 rw [d] at d'
 injection d' with d1 _
 have:its=its':=by simpa using congrArg Array.toList d1
 subst this
 exact r.inj r'
end
noncomputable abbrev Cx.wish (X:Cx) (E:Value->Shared->Prop):Cx:={ X with xe:=E }
noncomputable abbrev Cx.nox (X:Cx):Cx:=X.wish fun _ _=>False
theorem Cx.Ok.wish {X:Cx} (ok:X.Ok) (E:Value->Shared->Prop):(X.wish E).Ok :=
 ⟨ok.mod,ok.kind,ok.glob,ok.blt,ok.above,ok.inj,ok.has,ok.cab,ok.hd,ok.frames,ok.stk,ok.exf,ok.bs,ok.bsz,ok.noex,ok.exfs,ok.funs,ok.frf⟩
theorem Cx.Ok.unwish {X:Cx} {E:Value->Shared->Prop} (ok:(X.wish E).Ok):X.Ok :=
 ⟨ok.mod,ok.kind,ok.glob,ok.blt,ok.above,ok.inj,ok.has,ok.cab,ok.hd,ok.frames,ok.stk,ok.exf,ok.bs,ok.bsz,ok.noex,ok.exfs,ok.funs,ok.frf⟩
section
variable {X:Cx} {pins:List (Addr × Obj)} {σ:St} {H:Hp} {s:Shared} {E:Value->Shared->Prop}
theorem Inv.wish (I:Inv X pins σ H s) (E:Value->Shared->Prop):Inv (X.wish E) pins σ H s:=⟨I.ok.wish E,I.os,I.bare,I.base,I.loc,I.cell,I.free,I.freeC,I.pin,I.hok,I.len⟩
theorem Inv.unwish (I:Inv (X.wish E) pins σ H s):Inv X pins σ H s:=⟨I.ok.unwish,I.os,I.bare,I.base,I.loc,I.cell,I.free,I.freeC,I.pin,I.hok,I.len⟩
theorem SP.unwish {D:Ends} {f:Flow} {s':Shared} (h:SP (X.wish E) pins D f s'):SP X pins D f s':=by
 cases f with
 | next=>obtain ⟨σ',H',I,q⟩:=h; exact ⟨σ',H',I.unwish,q⟩
 | brk=>obtain ⟨σ',H',I,q⟩:=h; exact ⟨σ',H',I.unwish,q⟩
 | cont=>obtain ⟨σ',H',I,q⟩:=h; exact ⟨σ',H',I.unwish,q⟩
 | ret u=>obtain ⟨v,σ',H',I,r,q⟩:=h; exact ⟨v,σ',H',I.unwish,r,q⟩
theorem PE.nox {e:Expr} {t:TE} (h:PE X.nox e t):PE X e t:=fun pins s σ H Q I hw =>
 wpAny_mono (h pins s σ H Q (I.wish _) hw) (fun _ _ ⟨v,H',I',r,q⟩=>⟨v,H',I'.unwish,r,q⟩) fun _ _ z=>False.elim z
theorem PT.nox {e:Expr} {t:TT} (h:PT X.nox e t):PT X e t:=fun pins s σ H Q I hw =>
 wpAny_mono (h pins s σ H Q (I.wish _) hw) (fun _ _ ⟨H',I',q⟩=>⟨H',I'.unwish,q⟩) fun _ _ z=>False.elim z
theorem PSs.nox {st:List Stmt} {t:TS} (h:PSs X.nox st t):PSs X st t:=fun pins s σ H D I hw =>
 wpAny_mono (h pins s σ H D (I.wish _) hw) (fun _ _ q=>q.unwish) fun _ _ z=>False.elim z
end
section
variable {X:Cx} {st:Stmt} {rest:List Stmt} {t u:TS} {e:Expr} {te:TE} {pos:Pos}
noncomputable def n_Q:TS:=fun D σ H=>D.nx σ H
noncomputable def tSeq (t u:TS):TS:=fun D σ H=>t { D with nx:=u D } σ H
theorem b_y:PSs X [] n_Q:=fun _ _ σ H _ I h=>wpAny_execs_nil ⟨σ,H,I,h⟩
theorem a_C (h1:PS X st t) (h2:PSs X rest u):PSs X (st :: rest) (tSeq t u):=by
 intro pins s σ H D I h
 refine wpAny_execs_cons (thn (h1 pins s σ H { D with nx:=u D } I h) fun f s1 q=>?_)
 cases f with
 | next =>
  obtain ⟨σ',H',I',q⟩:=q
  exact h2 pins s1 σ' H' D I' q
 | ret v=>exact q
 | brk=>exact q
 | cont=>exact q
theorem a_I (h1:PS X st t):PSs X [st] t:=by
 intro pins s σ H D I h
 refine wpAny_execs_cons (thn (h1 pins s σ H D I h) fun f s1 q=>?_)
 cases f with
 | next=>exact wpAny_execs_nil q
 | ret v=>exact q
 | brk=>exact q
 | cont=>exact q
theorem Inv.quiet {pins:List (Addr × Obj)} {σ:St} {H:Hp} {s:Shared} (I:Inv X pins σ H s):interactive X.env=false:=by simp [interactive,I.ok.kind]
noncomputable def h_R (te:TE):TS:=fun D σ H=>te σ H fun _ H1=>D.nx σ H1
theorem b_L (he:PE X e te) (hs:swapsWith e none pos.line X.env=pure false:=by rfl):PS X (.Expr e pos) (h_R te):=by
 intro pins s σ H D I h
 exact wpAny_Expr_any (thn (he pins s σ H _ I h) fun v s1 ⟨x,H1,I1,r1,q1⟩=>⟨σ,H1,I1,q1⟩) I.quiet hs
noncomputable def tRet (te:TE):TS:=fun D σ H=>te σ H D.rt
theorem a_S (he:PE X e te):PS X (.Return (some e) pos) (tRet te):=by
 intro pins s σ H D I h
 exact wpAny_Return_some (thn (he pins s σ H _ I h) fun v s1 ⟨x,H1,I1,r1,q1⟩=>⟨x,σ,H1,I1,r1,q1⟩)
noncomputable def o_L:TS:=fun D _ H=>D.rt .non H
noncomputable def tIfS (c:TT) (t u:TS):TS:=fun D σ H=>c σ H fun b H1=>if b=true then t D σ H1 else u D σ H1
theorem b_W {c:Expr} {a b:List Stmt} {tc:TT} (hc:PT X c tc) (ha:PSs X a t) (hb:PSs X b u):PS X (.If c a b pos) (tIfS tc t u):=by
 intro pins s σ H D I h
 refine wpAny_If (thn (hc pins s σ H _ I h) fun d s1 ⟨H1,I1,q1⟩=>?_)
 cases d with
 | true=>exact ha pins s1 σ H1 D I1 q1
 | false=>exact hb pins s1 σ H1 D I1 q1
end
noncomputable abbrev TG:=V->St->Hp->(St->Hp->Prop)->Prop
noncomputable abbrev TGs:=List V->St->Hp->(St->Hp->Prop)->Prop
noncomputable def PG (X:Cx) (target:Expr) (t:TG):Prop :=
 ∀ (pins:List (Addr × Obj)) (s:Shared) (σ:St) (H:Hp) (v:V) (u:Value) (Q:St->Hp->Prop),Inv X pins σ H s->RelV v u->t v σ H Q ->
  wpAny (model X.prog X.w) X.A (assign target X.env u) (fun _ s'=>∃ σ' H',Inv X pins σ' H' s'/\Q σ' H') X.xe s
noncomputable def PGs (X:Cx) (ts:List Expr) (t:TGs):Prop :=
 ∀ (pins:List (Addr × Obj)) (s:Shared) (σ:St) (H:Hp) (vs:List V) (us:List Value) (Q:St->Hp->Prop),Inv X pins σ H s->Vals vs us->t vs σ H Q ->
  wpAny (model X.prog X.w) X.A (assignInOrder ((assignEach ts X.env).map (·.2)) us) (fun _ s'=>∃ σ' H',Inv X pins σ' H' s'/\Q σ' H') X.xe s
noncomputable abbrev TSet:=V->V->V->Hp->(Hp->Prop)->Prop
noncomputable def PSet (X:Cx) (t:TSet):Prop :=
 ∀ (pins:List (Addr × Obj)) (s:Shared) (σ:St) (H:Hp) (o i v:V) (ov iv u:Value) (Q:Hp->Prop),Inv X pins σ H s->RelV o ov->RelV i iv->RelV v u->t o i v H Q ->
  wpAny (model X.prog X.w) X.A (setItem ov iv u) (fun _ s'=>∃ H',Inv X pins σ H' s'/\Q H') X.xe s
noncomputable abbrev TIp:=V->V->Hp->VK->Prop
noncomputable def PIp (X:Cx) (op:Operator) (t:TIp):Prop :=
 ∀ (pins:List (Addr × Obj)) (s:Shared) (σ:St) (H:Hp) (x y:V) (v u:Value) (Q:VK),Inv X pins σ H s->RelV x v->RelV y u->t x y H Q ->
  wpAny (model X.prog X.w) X.A (inplaceOp op v u) (EP X pins σ Q) X.xe s
section
variable {X:Cx} {pos:Pos}
noncomputable def a_R (i:Nat):TG:=fun v σ H Q=>Q (σ.set i (some v)) H
theorem b_N {i:Nat} {x:Str} (hN:X.N.Nodup) (hi:X.N[i]?=some x) (hx:Loc X.env.scope x) (hf:X.fn x=true\/X.env.scope.names.lookup x=some .local:=by first | exact .inl rfl | exact .inr rfl | assumption):PG X (.Name x pos) (a_R i):=by
 intro pins s σ H v u Q I r h
 exact wpAny_assign_Name (d_S I hN hi hx r (fun s' I'=>⟨_,H,I',h⟩) hf)
noncomputable def gNil:TGs:=fun vs σ H Q=>vs=[]/\Q σ H
noncomputable def c_i (t:TG) (u:TGs):TGs:=fun vs σ H Q=>∃ v r,vs=v :: r/\t v σ H fun σ' H'=>u r σ' H' Q
theorem c_S:PGs X [] gNil:=by
 intro pins s σ H vs us Q I r h
 obtain ⟨e,h⟩:=h
 subst e
 cases r
 exact assignInOrder_nil ⟨σ,H,I,h⟩
theorem b_F {e:Expr} {es:List Expr} {t:TG} {u:TGs} (h1:PG X e t) (h2:PGs X es u)
  (hs:(assignEach (e :: es) X.env).map (·.2)=assign e X.env :: (assignEach es X.env).map (·.2):=by rfl):PGs X (e :: es) (c_i t u):=by
 intro pins s σ H vs us Q I r h
 obtain ⟨v,vr,e1,h⟩:=h
 subst e1
 cases r with
 | cons r rr =>
  rw [hs]
  refine assignInOrder_cons (thn (h1 pins s σ H _ _ _ I r h) fun _ s1 ⟨σ1,H1,I1,q1⟩=>?_)
  exact h2 pins s1 σ1 H1 _ _ Q I1 rr q1
noncomputable def gTup (K:Frag) (n:Nat) (t:TGs):TG:=fun v σ H Q=>∃ a xs,v=.ref a/\SqT K H a xs/\xs.length=n/\t xs σ H Q
theorem d_T {es:List Expr} {k:Nat} {t:TGs} {n:Nat} (hc:X.calm=true) (h:PGs X es t)
  (hn:(assignEach es X.env).length=n:=by rfl) (hst:(assignEach es X.env).findIdx? (·.1)=none:=by rfl):PG X (.Tuple es k pos) (gTup X.K n t):=by
 intro pins s σ H v u Q I r hw
 obtain ⟨a,xs,e1,hq,hl,hw⟩:=hw
 subst e1
 cases r
 obtain ⟨its,rv,ht,hz⟩:=I.tuple hq
 refine assign_Tuple_tuple (I.ok.hd hc) ht (by simp [hn,← hl,rv.length]) hst fun h' hx=>?_
 have I1:Inv X pins σ H { s with heap:=h' }:=I.kept (t':=s.toks) fun b o e=>hx b o (Nat.ne_of_lt (Heap.lt_size e)) e
 exact h pins _ σ H xs _ Q I1 (by simpa using rv) hw
noncomputable def gSub (to ti:TE) (t:TSet):TG:=fun v σ H Q=>to σ H fun o H1=>ti σ H1 fun i H2=>t o i v H2 fun H3=>Q σ H3
theorem d_U {o i:Expr} {to ti:TE} {t:TSet} (ho:PE X o to) (hi:PE X i ti) (hs:PSet X t)
  (ha:∀ v,assign (.Subscript o i pos) X.env v=(do
   let ov ← holding [v] (eval o X.env)
   let iv ← holding [v,ov] (eval i X.env)
   standAt pos
   holding [v,ov,iv] (setItem ov iv v)
   release [v,ov,iv] []):=by intro _; rfl):PG X (.Subscript o i pos) (gSub to ti t):=by
 intro pins s σ H v u Q I r h
 rw [ha]
 refine wpAny_bind (wpAny_holding (thn (ho pins s σ H _ I h) fun ov s1 ⟨x,H1,I1,r1,q1⟩=>?_))
 refine wpAny_bind (wpAny_holding (thn (hi pins s1 σ H1 _ I1 q1) fun iv s2 ⟨y,H2,I2,r2,q2⟩=>?_))
 refine wpAny_bind (wpAny_standAt (wpAny_bind (wpAny_holding (thn (hs pins s2 σ H2 x y v ov iv u _ I2 r1 r2 r q2) fun _ s3 ⟨H3,I3,q3⟩=>?_))))
 exact wpAny_release ⟨σ,H3,I3,q3⟩
noncomputable def tAsg (te:TE) (g:TG):TS:=fun D σ H=>te σ H fun x H1=>g x σ H1 D.nx
theorem d_V {tg e:Expr} {te:TE} {g:TG} (he:PE X e te) (hg:PG X tg g) (hs:swapsWithSole [tg] e pos.line X.env=pure false:=by rfl) (hw:swappedStores [tg] e X.env=pure none:=by rfl)
  (h1:(assignEach [tg] X.env).map (·.2)=[assign tg X.env]:=by rfl):PS X (.Assign [tg] e pos) (tAsg te g):=by
 intro pins s σ H D I h
 refine wpAny_Assign_stores (thn (he pins s σ H _ I h) fun v s1 ⟨x,H1,I1,r1,q1⟩=>?_) hs hw
 rw [h1]
 exact thn (hg pins s1 σ H1 x v _ I1 r1 q1) fun _ s2 q=>q
theorem a_L {i:Nat} {x:Str} {e:Expr} {te:TE} {pos':Pos} (hN:X.N.Nodup) (hi:X.N[i]?=some x) (hx:Loc X.env.scope x) (he:PE X e te) (hs:swapsWith e (some (.Name x pos')) pos.line X.env=pure false:=by rfl) (hf:X.fn x=true\/X.env.scope.names.lookup x=some .local:=by first | exact .inl rfl | exact .inr rfl | assumption) :
  PS X (.Assign [.Name x pos'] e pos) (tAsg te (a_R i)):=by
 intro pins s σ H D I h
 refine wpAny_Assign_Name (thn (he pins s σ H _ I h) fun v s1 ⟨y,H1,I1,r1,q1⟩=>?_) hs
 exact d_S I1 hN hi hx r1 (fun s2 I2=>⟨_,H1,I2,q1⟩) hf
noncomputable def tPar (i j:Nat) (ta:TA):TS:=fun D σ H=>ta σ H fun vs H1=>∃ v w,vs=[v,w]/\D.nx ((σ.set i (some v)).set j (some w)) H1
noncomputable def tAug (i:Nat) (te:TE) (ti:TIp):TS:=fun D σ H=>∃ x,σ[i]?=some (some x)/\te σ H fun y H1=>ti x y H1 fun z H2=>D.nx (σ.set i (some z)) H2
theorem o_h {i:Nat} {x:Str} {e:Expr} {te:TE} {op:Operator} {ti:TIp} {pos':Pos} (hN:X.N.Nodup) (hi:X.N[i]?=some x) (hx:Loc X.env.scope x) (he:PE X e te) (ho:PIp X op ti) (hf:X.fn x=true\/X.env.scope.names.lookup x=some .local:=by first | exact .inl rfl | exact .inr rfl | assumption) :
  PS X (.AugAssign (.Name x pos') op e pos) (tAug i te ti):=by
 intro pins s σ H D I h
 obtain ⟨v,e1,h⟩:=h
 obtain ⟨m,hn,hl⟩:=I.loc
 have vis:Vis X.env.scope x:=by rcases hx with k | k; exact .inl k; exact .inr (.inl k)
 obtain ⟨u,r,l⟩:=hl i x v hi e1 vis
 refine wpAny_AugAssign_Name ?_
 have go:wpAny (model X.prog X.w) X.A (eval e X.env) (fun w s₂=>wpAny (model X.prog X.w) X.A (inplaceOp op u w) (fun r s₃=>wpAny (model X.prog X.w) X.A (storeName X.env x r) (fun _=>SP X pins D .next) X.xe s₃) X.xe s₂) X.xe s:=by
  refine thn (he pins s σ H _ I h) fun w s1 ⟨y,H1,I1,r1,q1⟩=>?_
  refine thn (ho pins s1 σ H1 v y u w _ I1 r r1 q1) fun z s2 ⟨zv,H2,I2,r2,q2⟩=>?_
  exact d_S I2 hN hi hx r2 (fun s3 I3=>⟨_,H2,I3,q2⟩) hf
 rcases l with ⟨hk,hm⟩ | ⟨hk,c,hc,hcell⟩
 ·exact wpAny_loadName_local I.ok.kind hk hn hm go
 ·rcases hk with hk | hk
  ·exact wpAny_loadName_cell I.ok.kind hk hc hcell go
  ·rcases hx with k | k
   ·have:X.env.scope.names.lookup x=some .free:=hk
    rw [k] at this; cases this
   ·have:X.env.scope.names.lookup x=some .free:=hk
    rw [k] at this; cases this
noncomputable def ipI (f:Int->Int->Int):TIp:=fun x y H Q=>∃ i j,x=.int i/\y=.int j/\Q (.int (f i j)) H
theorem o_i:PIp X .Add (ipI fun i j=>i+j):=by
 intro pins s σ H x y v u Q I r1 r2 h
 obtain ⟨i,j,e1,e2,q⟩:=h
 subst e1; subst e2
 obtain ⟨t,rfl⟩:=r1
 obtain ⟨t',rfl⟩:=r2
 exact iadd_int ⟨.int _,H,I.tok _,⟨_,rfl⟩,q⟩
end
section
variable {X:Cx} {pos:Pos}
noncomputable def k_w (c:TT) (tb:TS):TS:=fun D σ H=>∃ W:Nat->St->Hp->Prop,(∃ m,W m σ H)/\∀ m σ H,W m σ H ->
 c σ H fun b H1=>if b=true then ∃ N:St->Hp->Prop,(∀ σ' H',N σ' H'->∃ m',m' < m/\W m' σ' H')/\tb { D with nx:=N,ct:=N,bk:=D.nx } σ H1 else D.nx σ H1
theorem h_S {c:Expr} {body:List Stmt} {tc:TT} {tb:TS} (hp:PassesOwn (model X.prog X.w) X.A X.env X.xe) (hc:PT X c tc) (hb:PSs X body tb):PS X (.While c body [] pos) (k_w tc tb):=by
 intro pins s σ H D I h
 obtain ⟨W,⟨m0,w0⟩,turn⟩:=h
 refine wpAny_While (codeAny_whileLoop (fun n s'=>∃ σ' H',Inv X pins σ' H' s'/\W n σ' H') ?_ m0 ⟨σ,H,I,w0⟩)
 rintro n s1 ⟨σ1,H1,I1,w1⟩
 refine wpAny_passesOwn hp (thn (hc pins s1 σ1 H1 _ I1 (turn n σ1 H1 w1)) fun b s2 ⟨H2,I2,q2⟩=>?_)
 cases b with
 | true =>
  obtain ⟨N,hN,q2⟩:=q2
  rw [if_pos rfl]
  refine wpAny_passesOwn hp (thn (hb pins s2 σ1 H2 _ I2 q2) fun f s3 q3=>?_)
  cases f with
  | next =>
   obtain ⟨σ3,H3,I3,n3⟩:=q3
   obtain ⟨m',hm,w3⟩:=hN σ3 H3 n3
   exact ⟨m',hm,σ3,H3,I3,w3⟩
  | cont =>
   obtain ⟨σ3,H3,I3,n3⟩:=q3
   obtain ⟨m',hm,w3⟩:=hN σ3 H3 n3
   exact ⟨m',hm,σ3,H3,I3,w3⟩
  | brk=>exact q3
  | ret v=>exact q3
 | false =>
  rw [if_neg Bool.false_ne_true]
  exact wpAny_execs_nil ⟨σ1,H2,I2,q2⟩
end
structure It where
 go:Nat->Hp->Prop
 yld:Nat->Hp->V->Hp->Prop
 stop:Nat->Hp->Prop
noncomputable def FpOk (X:Cx) (pins:List (Addr × Obj)) (H:Hp) (b:Addr):Prop :=
 H b=none/\b≠X.env.locals/\b ∉ X.fs/\(b∈X.ex\/X.s₀.heap.objs.size<=b)/\(∀ x c,X.env.cells.lookup x=some c->c≠b)/\∀ p∈X.pn++pins,p.1≠b
theorem Inv.fpOk {X:Cx} {pins:List (Addr × Obj)} {σ:St} {H H':Hp} {s:Shared} {b:Addr} (I:Inv X pins σ H s) (hb:s.heap.objs.size<=b) (hn:H' b=none):FpOk X pins H' b:=by
 refine ⟨hn,Nat.ne_of_gt (Nat.lt_of_lt_of_le I.lt hb),I.nofs hb,.inr (Nat.le_trans I.sz hb),fun x c e z=>?_,fun p hp z=>?_⟩
 ·obtain ⟨v,q⟩:=I.cell x c e
  exact absurd (Nat.lt_of_lt_of_le q.lt (by rw [z]; exact hb)) (Nat.lt_irrefl _)
 ·exact absurd (Nat.lt_of_lt_of_le (Heap.lt_size (I.pin p hp).1) (by rw [z]; exact hb)) (Nat.lt_irrefl _)
structure Turn (P:Program) (w:World) (K:Frag) (tg:Expr) (J:It) (fp:List Addr) (it:Addr) (tn:Nat->Heap->Prop):Prop where
 mem:it∈fp
 obj:∀ i h,tn i h->∀ b∈fp,∃ o,h.get? b=some o/\∀ v,o.data≠.cell v
 keep:∀ i h h',tn i h->(∀ b∈fp,∀ o,h.get? b=some o->h'.get? b=some o)->tn i h'
 item:∀ (X:Cx),X.prog=P->X.w=w->X.K=K->X.calm=true->∀ (i:Nat) (pins:List (Addr × Obj)) (s:Shared) (σ:St) (H:Hp) (E:Value->Shared->Prop),Inv X pins σ H s->(∀ b∈fp,FpOk X pins H b)->tn i s.heap->J.go i H ->
  wpAny (model P w) X.A (pyNext (.ref it)) (fun r s1=>∃ u,r=some u /\
   wpAny (model P w) X.A (letOwnedTupleGo tg (.ref it) u) (fun _ s2=>∃ x H',Inv X pins σ H' s2/\RelV x u/\J.yld i H x H'/\tn (i+1) s2.heap/\∀ b∈fp,H' b=none) E s1) E s
 done:∀ (X:Cx),X.prog=P->X.w=w->X.K=K->X.calm=true->∀ (i:Nat) (pins:List (Addr × Obj)) (s:Shared) (σ:St) (H:Hp) (E:Value->Shared->Prop),Inv X pins σ H s->(∀ b∈fp,FpOk X pins H b)->tn i s.heap->J.stop i H ->
  wpAny (model P w) X.A (pyNext (.ref it)) (fun r s1=>r=none/\Inv X pins σ H s1) E s
 self:∀ (A:Around) (i:Nat) (s:Shared) (Q:Value->Shared->Prop) (E:Value->Shared->Prop),tn i s.heap->Q (.ref it) s->wpAny (model P w) A (pyIter (.ref it)) Q E s
noncomputable abbrev TI:=St->Hp->(It->Hp->Prop)->Prop
noncomputable def PIE (X:Cx) (pins:List (Addr × Obj)) (σ:St) (tg:Expr) (R:It->Hp->Prop) (itv:Value) (s2:Shared):Prop :=
 ∃ (it:Addr) (fp:List Addr) (tn:Nat->Heap->Prop) (J:It) (H':Hp),itv=.ref it/\Inv X pins σ H' s2/\Turn X.prog X.w X.K tg J fp it tn/\tn 0 s2.heap/\(∀ b∈fp,FpOk X pins H' b)/\R J H'
noncomputable def PI (X:Cx) (tg iter:Expr) (wi:TI):Prop :=
 ∀ (pins:List (Addr × Obj)) (s:Shared) (σ:St) (H:Hp) (R:It->Hp->Prop),Inv X pins σ H s->wi σ H R ->
  wpAny (model X.prog X.w) X.A (eval iter X.env) (fun v s1=>wpAny (model X.prog X.w) X.A (pyIter v) (PIE X pins σ tg R) X.xe s1) X.xe s
theorem h_T {M:Model} {A:Around} {E:Value->Shared->Prop} {s:Shared} {tg:Expr} {it:Addr} {u:Value} {o:Obj} {n:String} {vs:Array Value} {Q:Unit->Shared->Prop} (ho:s.heap.get? it=some o) (hc:o.cls=.type n) (hd:o.data=.fields vs)
    (hn:["enumerate","zip","dict_itemiterator","dict_reverseitemiterator","odict_iterator","itertools.zip_longest","itertools.pairwise"].contains n=false) (hQ:Q () s):wpAny M A (letOwnedTupleGo tg (.ref it) u) Q E s:=by
  unfold letOwnedTupleGo
  cases tg <;> first
    | exact wpAny_pure hQ
    | (cases u <;> first
        | exact wpAny_pure hQ
        | (refine wpAny_bind (wpAny_load ho ?_)
           rw [hc,hd]
           show wpAny M A (if (["enumerate","zip","dict_itemiterator","dict_reverseitemiterator","odict_iterator","itertools.zip_longest","itertools.pairwise"].contains n && vs[0]? == some (rawInt _))=true then _ else _) Q E s
           rw [if_neg (by intro h; rw [hn,Bool.false_and] at h; cases h)]
           exact wpAny_pure hQ))
noncomputable def Itl (K:Frag) (a:Addr):It :=
 ⟨fun i H=>∃ xs x,SqL K H a xs/\xs[i]?=some x,fun i H x H'=>H'=H/\∀ xs,SqL K H a xs->xs[i]?=some x,fun i H=>∃ xs,SqL K H a xs/\xs.length<=i⟩
noncomputable def Itt (K:Frag) (a:Addr):It :=
 ⟨fun i H=>∃ xs x,SqT K H a xs/\xs[i]?=some x,fun i H x H'=>H'=H/\∀ xs,SqT K H a xs->xs[i]?=some x,fun i H=>∃ xs,SqT K H a xs/\xs.length<=i⟩
noncomputable def Itr (lo:Int) (n:Nat):It:=⟨fun i _=>i < n,fun i H x H'=>H'=H/\x=.int (lo+i),fun i _=>n<=i⟩
theorem j_V {P:Program} {w:World} {K:Frag} {tg:Expr} (a it:Addr):Turn P w K tg (Itl K a) [it] it (fun i h=>h.IsListIter it a i) where
 mem:=by simp
 obj:=fun i h st b hb=>by
  have e:b=it:=by simpa using hb
  subst e
  obtain ⟨o,e,c,d⟩:=st
  exact ⟨o,e,fun v z=>by rw [d] at z; cases z⟩
 keep:=fun i h h' st k=>st.at fun o e=>k it (by simp) o e
 item:=by
  intro X hP hw hK hc i pins s σ H E I hf st hg
  subst hP hw hK
  obtain ⟨xs,x,hq,hx⟩:=hg
  obtain ⟨its,rv,p,hz⟩:=I.list hq
  obtain ⟨u,hu,ru⟩:=rv.get hx
  obtain ⟨f0,f1,f2,f3,f4,f5⟩:=hf it (by simp)
  refine wpAny_pyNext_list_item st p.isList (x:=u) (by simpa using hu) fun h' st' sb=>?_
  have I1:Inv X pins σ H { s with heap:=h' }:=I.turned (t':=s.toks) (fun b o hb e=>(sb.2 b hb).trans e) f0 f1 f3 f4 f5
  obtain ⟨o,e,c,d⟩:=id st'
  exact ⟨u,rfl,h_T (s:={ s with heap:=h' }) e c d (by decide) ⟨x,H,I1,ru,⟨rfl,fun ys hy=>by rw [I.list_inj hy hq]; exact hx⟩,st',fun b hb=>(hf b hb).1⟩⟩
 done:=by
  intro X hP hw hK hc i pins s σ H E I hf st hg
  subst hP hw hK
  obtain ⟨xs,hq,hx⟩:=hg
  obtain ⟨its,rv,p,hz⟩:=I.list hq
  obtain ⟨f0,f1,f2,f3,f4,f5⟩:=hf it (by simp)
  have hl:=rv.length
  exact wpAny_pyNext_list_end (I.ok.hd hc) st p.isList (by simp; omega) fun h' eb=>⟨rfl,I.turned (t':=s.toks) (fun b o hb e=>eb b o hb e) f0 f1 f3 f4 f5⟩
 self:=fun _ _ _ _ _ st h=>wpAny_pyIter_listiter st h
theorem i_x {P:Program} {w:World} {K:Frag} {tg:Expr} (a it:Addr):Turn P w K tg (Itt K a) [it] it (fun i h=>h.IsTupleIter it a i) where
 mem:=by simp
 obj:=fun i h st b hb=>by
  have e:b=it:=by simpa using hb
  subst e
  obtain ⟨o,e,c,d⟩:=st
  exact ⟨o,e,fun v z=>by rw [d] at z; cases z⟩
 keep:=fun i h h' st k=>st.at fun o e=>k it (by simp) o e
 item:=by
  intro X hP hw hK hc i pins s σ H E I hf st hg
  subst hP hw hK
  obtain ⟨xs,x,hq,hx⟩:=hg
  obtain ⟨its,rv,p,hz⟩:=I.tuple hq
  obtain ⟨u,hu,ru⟩:=rv.get hx
  obtain ⟨f0,f1,f2,f3,f4,f5⟩:=hf it (by simp)
  refine wpAny_pyNext_tuple_item st (show s.heap.IsTuple a its.toArray from p) (x:=u) (by simpa using hu) fun h' st' sb=>?_
  have I1:Inv X pins σ H { s with heap:=h' }:=I.turned (t':=s.toks) (fun b o hb e=>(sb.2 b hb).trans e) f0 f1 f3 f4 f5
  obtain ⟨o,e,c,d⟩:=id st'
  exact ⟨u,rfl,h_T (s:={ s with heap:=h' }) e c d (by decide) ⟨x,H,I1,ru,⟨rfl,fun ys hy=>by rw [I.tuple_inj hy hq]; exact hx⟩,st',fun b hb=>(hf b hb).1⟩⟩
 done:=by
  intro X hP hw hK hc i pins s σ H E I hf st hg
  subst hP hw hK
  obtain ⟨xs,hq,hx⟩:=hg
  obtain ⟨its,rv,p,hz⟩:=I.tuple hq
  obtain ⟨f0,f1,f2,f3,f4,f5⟩:=hf it (by simp)
  have hl:=rv.length
  exact wpAny_pyNext_tuple_end (I.ok.hd hc) st (show s.heap.IsTuple a its.toArray from p) (by simp; omega) fun h' eb=>⟨rfl,I.turned (t':=s.toks) (fun b o hb e=>eb b o hb e) f0 f1 f3 f4 f5⟩
 self:=fun _ _ _ _ _ st h=>wpAny_pyIter_tupleiter st h
theorem i_y {P:Program} {w:World} {K:Frag} {tg:Expr} (it:Addr) (lo:Int) (n:Nat):Turn P w K tg (Itr lo n) [it] it (fun i h=>IsRangeIter h it (lo+(i:Nat)*1) ((n:Int) - (i:Nat)) 1) where
 mem:=by simp
 obj:=fun i h st b hb=>by
  have e:b=it:=by simpa using hb
  subst e
  exact ⟨_,st,fun v z=>by
   have z':Data.fields _=Data.cell v:=z
   cases z'⟩
 keep:=fun i h h' st k=>k it (by simp) _ st
 item:=by
  intro X hP hw hK hc i pins s σ H E I hf st hg
  subst hP hw hK
  obtain ⟨f0,f1,f2,f3,f4,f5⟩:=hf it (by simp)
  have W:=Walks.range (prog:=X.prog) (w:=X.w) (I.ok.hd hc) it lo 1 n
  refine W.item i s _ _ hg st fun v h' tk hv st' kk=>?_
  obtain ⟨t,rfl⟩:=hv
  have I1:Inv X pins σ H { s with heap:=h',toks:=tk }:=I.turned (fun b o hb e=>kk b o (by simpa using hb) e) f0 f1 f3 f4 f5
  refine ⟨_,rfl,h_T (s:={ s with heap:=h',toks:=tk }) (n := "range_iterator") st' rfl rfl (by decide) ⟨.int (lo+i),H,I1,⟨t,?_⟩,⟨rfl,rfl⟩,st',fun b hb=>(hf b hb).1⟩⟩
  rw [Int.mul_one]
 done:=by
  intro X hP hw hK hc i pins s σ H E I hf st hg
  subst hP hw hK
  obtain ⟨f0,f1,f2,f3,f4,f5⟩:=hf it (by simp)
  exact wpAny_pyNext_range_end (I.ok.hd hc) st (by have:n<=i:=hg; omega) fun h' eb=>⟨rfl,I.turned (t':=s.toks) (fun b o hb e=>eb b o hb e) f0 f1 f3 f4 f5⟩
 self:=fun _ _ _ _ _ st h=>wpAny_pyIter_rangeiter st h
section
variable {X:Cx} {tg:Expr}
theorem h_U {pins:List (Addr × Obj)} {σ:St} {H:Hp} {s:Shared} {R:It->Hp->Prop} {E:Value->Shared->Prop} {lo hi:Int} {t u v:Tok} {tk:Nat} (I:Inv X pins σ H s) (h1:-(2 ^ 62)<=lo) (h2:lo < 2 ^ 62) (h3:-(2 ^ 62)<=hi) (h4:hi < 2 ^ 62)
  (q:R (Itr lo (hi - lo).toNat) H):wpAny (model X.prog X.w) X.A (pyIter (.ref s.heap.objs.size)) (PIE X pins σ tg R) E { s with heap:=s.heap.push { cls:=.type "range",data:=.fields #[.int lo t,.int hi u,.int 1 v] },toks:=tk }:=by
 refine wpAny_pyIter_range (IsRange.new ..) (small_one h1 h2 h3 h4) ?_
 have I1:Inv X pins σ H { s with heap:=s.heap.push { cls:=.type "range",data:=.fields #[.int lo t,.int hi u,.int 1 v] },toks:=tk }:=I.kept fun b o e=>Heap.get?_push_of_some _ e
 refine ⟨(s.heap.push { cls:=.type "range",data:=.fields #[.int lo t,.int hi u,.int 1 v] }).objs.size,[(s.heap.push { cls:=.type "range",data:=.fields #[.int lo t,.int hi u,.int 1 v] }).objs.size],_,_,H,rfl,
  I1.kept (t':=tk) fun b o e=>Heap.get?_push_of_some _ e,i_y _ lo (hi - lo).toNat,?_,fun b hb=>?_,q⟩
 ·have e1:lo+((0:Nat):Int)*1=lo:=by simp
  have e2:(((hi - lo).toNat:Nat):Int) - ((0:Nat):Int)=Builtin.Range.rangeSize lo hi 1:=by rw [rangeSize_one]; split <;> omega
  show IsRangeIter _ _ (lo+((0:Nat):Int)*1) ((((hi - lo).toNat:Nat):Int) - ((0:Nat):Int)) 1
  rw [e1,e2]
  exact Heap.get?_push_size _ rfl
 ·have e:b=(s.heap.push { cls:=.type "range",data:=.fields #[.int lo t,.int hi u,.int 1 v] }).objs.size:=by simpa using hb
  subst e
  exact I1.fpOk (Nat.le_refl _) (I1.hok.fresh (Nat.le_refl _))
noncomputable def d_W (ta:TA):TI:=fun σ H R=>ta σ H fun vs H1=>∃ j:Int,vs=[.int j]/\-(2 ^ 62)<=j/\j < 2 ^ 62/\R (Itr 0 j.toNat) H1
noncomputable def j_i (ta:TA):TI:=fun σ H R=>ta σ H fun vs H1=>∃ i j:Int,vs=[.int i,.int j]/\(-(2 ^ 62)<=i/\i < 2 ^ 62/\-(2 ^ 62)<=j/\j < 2 ^ 62)/\R (Itr i (j - i).toNat) H1
theorem c_f {a:Expr} {ta:TA} {p pos:Pos} (hg:Gl X "range") (hm:X.mg "range" = none) (ha:PA X [a] ta) (hs:starEach [a] X.env=[(false,eval a X.env)]:=by rfl):PI X tg (.Call (.Name "range" p) [a] [] pos) (d_W ta):=by
 intro pins s σ H R I h
 refine Call_ (d_H I hg hm boot_range (PyProof.Rows.callWith_type1 (thn (ha pos pins s σ H _ I h) fun us s1 ⟨vs,H1,I1,r1,q1⟩=>?_) hs rfl))
 obtain ⟨j,e,q1,q2,q⟩:=q1
 subst e
 cases r1 with
 | cons r rr =>
  cases rr
  obtain ⟨t,rfl⟩:=r
  exact call_range_1 (h_U I1 (by omega) (by omega) q1 q2 (by simpa using q))
theorem e_X {a b:Expr} {ta:TA} {p pos:Pos} (hg:Gl X "range") (hm:X.mg "range" = none) (ha:PA X [a,b] ta) (hs:starEach [a,b] X.env=[(false,eval a X.env),(false,eval b X.env)]:=by rfl) (hs2:starEach [b] X.env=[(false,eval b X.env)]:=by rfl) :
  PI X tg (.Call (.Name "range" p) [a,b] [] pos) (j_i ta):=by
 intro pins s σ H R I h
 refine Call_ (d_H I hg hm boot_range (PyProof.Rows.callWith_type1 (thn (ha pos pins s σ H _ I h) fun us s1 ⟨vs,H1,I1,r1,q1⟩=>?_) (by rw [hs,hs2]) (by rw [hs2]; rfl)))
 obtain ⟨i,j,e,⟨q1,q2,q3,q4⟩,q⟩:=q1
 subst e
 cases r1 with
 | cons r rr =>
  cases rr with
  | cons r' rr =>
   cases rr
   obtain ⟨t,rfl⟩:=r
   obtain ⟨t',rfl⟩:=r'
   exact call_range_2 (h_U I1 q1 q2 q3 q4 q)
noncomputable def tFor (wi:TI) (g:TG) (tb:TS):TS:=fun D σ H=>wi σ H fun J H1=>∃ W:Nat->Nat->St->Hp->Prop,(∃ m,W 0 m σ H1)/\∀ i m σ H,W i m σ H ->
 (J.stop i H/\D.nx σ H)\/(J.go i H/\∃ N:St->Hp->Prop,(∀ σ' H',N σ' H'->∃ m',m' < m/\W (i+1) m' σ' H')/\∀ x H',J.yld i H x H'->g x σ H' fun σ2 H2=>tb { D with nx:=N,ct:=N,bk:=D.nx } σ2 H2)
noncomputable def g_g (fp:List Addr) (h:Heap):List (Addr × Obj):=fp.filterMap fun b=>(h.get? b).map fun o=>(b,o)
theorem d_I {fp:List Addr} {h:Heap} {b:Addr} {o:Obj} (hb:b∈fp) (e:h.get? b=some o):(b,o)∈g_g fp h:=List.mem_filterMap.mpr ⟨b,hb,by rw [e]; rfl⟩
theorem j_W {fp:List Addr} {h:Heap} {p:Addr × Obj} (hp:p∈g_g fp h):p.1∈fp/\h.get? p.1=some p.2:=by
 obtain ⟨b,hb,e⟩:=List.mem_filterMap.mp hp
 cases q:h.get? b with
 | none=>rw [q] at e; cases e
 | some o =>
  rw [q] at e
  have e':(b,o)=p:=Option.some.inj e
  subst e'
  exact ⟨hb,q⟩
theorem Inv.pinned {pins:List (Addr × Obj)} {σ:St} {H:Hp} {s:Shared} {fp:List Addr} (I:Inv X pins σ H s) (hf:∀ b∈fp,FpOk X pins H b) (ho:∀ b∈fp,∃ o,s.heap.get? b=some o/\∀ v,o.data≠.cell v):Inv X (pins++g_g fp s.heap) σ H s :=
 I.pins_of fun p hp=>(List.mem_append.mp hp).elim (fun z=>I.pin p (List.mem_append_right _ z)) fun z=>by
  obtain ⟨hb,e⟩:=j_W z
  obtain ⟨f0,f1,f2,_⟩:=hf p.1 hb
  obtain ⟨o,e',d⟩:=ho p.1 hb
  rw [e] at e'; cases e'
  exact ⟨e,f0,f1,f2,d⟩
theorem Inv.unpinned {pins pl:List (Addr × Obj)} {σ:St} {H:Hp} {s:Shared} (I:Inv X (pins++pl) σ H s):Inv X pins σ H s:=I.pins_of fun p hp=>I.pin p (List.mem_append_right _ (List.mem_append_left _ hp))
theorem c_Z {iter:Expr} {body:List Stmt} {wi:TI} {g:TG} {tb:TS} {pos:Pos} (hp:PassesOwn (model X.prog X.w) X.A X.env X.xe) (hc:X.calm=true) (hi:PI X tg iter wi) (hg:PG X tg g) (hb:PSs X body tb)
  (hs:∀ x,foldedSetIterable iter X.env x=pure x:=by intro _; rfl):PS X (.For tg iter body [] pos) (tFor wi g tb):=by
 intro pins s σ H D I h
 refine wpAny_For (thn (hi pins s σ H _ I h) fun v s1 h1=>thn h1 fun itv s2 h2=>?_) hs
 obtain ⟨it,fp,tn,J,H2,e,I2,T,st2,f2,W,⟨m0,w0⟩,turn⟩:=h2
 subst e
 -- what stays true of the iterator's objects through the loop
 have stat:∀ {H':Hp},(∀ b∈fp,H' b=none)->∀ b∈fp,FpOk X pins H' b:=fun hn b hb=>⟨hn b hb,(f2 b hb).2⟩
 refine codeAny_forLoop_any (fun n s'=>∃ i σ' H',Inv X pins σ' H' s'/\tn i s'.heap/\(∀ b∈fp,H' b=none)/\W i n σ' H') ?_ m0 ⟨0,σ,H2,I2,st2,fun b hb=>(f2 b hb).1,w0⟩
 rintro n s3 ⟨i,σ3,H3,I3,st3,fr3,w3⟩
 rcases turn i n σ3 H3 w3 with ⟨stop,qn⟩ | ⟨go,N,hN,step⟩
 ·refine wpAny_passesOwn hp (thn (T.done X rfl rfl rfl hc i pins s3 σ3 H3 X.xe I3 (stat fr3) st3 stop) fun r s4 ⟨hr,I4⟩=>?_)
  subst hr
  exact wpAny_execs_nil ⟨σ3,H3,I4,qn⟩
 ·refine wpAny_passesOwn hp (thn (T.item X rfl rfl rfl hc i pins s3 σ3 H3 X.xe I3 (stat fr3) st3 go) fun r s4 ⟨u,hr,h4⟩=>?_)
  subst hr
  refine wpAny_passesOwn hp (thn h4 fun _ s5 ⟨x,H5,I5,r5,y5,st5,fr5⟩=>?_)
  have I5':=I5.pinned (stat fr5) (T.obj _ _ st5)
  refine wpAny_passesOwn hp (thn (hg _ s5 σ3 H5 x u _ I5' r5 (step x H5 y5)) fun _ s6 ⟨σ6,H6,I6,q6⟩=>?_)
  refine wpAny_passesOwn hp (thn (hb _ s6 σ6 H6 _ I6 q6) fun f s7 q7=>?_)
  have again:∀ {σ7:St} {H7:Hp},Inv X (pins++g_g fp s5.heap) σ7 H7 s7->N σ7 H7->∃ m,m < n/\∃ i σ' H',Inv X pins σ' H' s7/\tn i s7.heap/\(∀ b∈fp,H' b=none)/\W i m σ' H':=fun {σ7 H7} I7 n7=>by
   obtain ⟨m',hm,w7⟩:=hN σ7 H7 n7
   refine ⟨m',hm,i+1,σ7,H7,I7.unpinned,T.keep _ _ _ st5 fun b hb o e=>(I7.pin (b,o) (List.mem_append_right _ (List.mem_append_right _ (d_I hb e)))).1,fun b hb=>?_,w7⟩
   obtain ⟨o,e,d⟩:=T.obj _ _ st5 b hb
   exact (I7.pin (b,o) (List.mem_append_right _ (List.mem_append_right _ (d_I hb e)))).2.1
  cases f with
  | next=>obtain ⟨σ7,H7,I7,n7⟩:=q7; exact again I7 n7
  | cont=>obtain ⟨σ7,H7,I7,n7⟩:=q7; exact again I7 n7
  | brk=>obtain ⟨σ7,H7,I7,q7⟩:=q7; exact ⟨σ7,H7,I7.unpinned,q7⟩
  | ret v=>obtain ⟨x7,σ7,H7,I7,r7,q7⟩:=q7; exact ⟨x7,σ7,H7,I7.unpinned,r7,q7⟩
end
theorem k_x {K:Frag} {a:Addr} {xs:List V} {g:TG} {tb:TS} {D:Ends} {σ:St} {H:Hp} (Pv:Nat->St->Hp->Prop) (h0:Pv 0 σ H) (hl:∀ i σ H,i<=xs.length->Pv i σ H->SqL K H a xs)
  (hs:∀ i x σ H,xs[i]?=some x->Pv i σ H->g x σ H fun σ2 H2=>tb { D with nx:=Pv (i+1),ct:=Pv (i+1),bk:=D.nx } σ2 H2) (hd:∀ σ H,Pv xs.length σ H->D.nx σ H) :
  ∃ W:Nat->Nat->St->Hp->Prop,(∃ m,W 0 m σ H)/\∀ i m σ H,W i m σ H ->
   ((Itl K a).stop i H/\D.nx σ H)\/((Itl K a).go i H/\∃ N:St->Hp->Prop,(∀ σ' H',N σ' H'->∃ m',m' < m/\W (i+1) m' σ' H')/\∀ x H',(Itl K a).yld i H x H'->g x σ H' fun σ2 H2=>tb { D with nx:=N,ct:=N,bk:=D.nx } σ2 H2):=by
 refine ⟨fun i m σ H=>m=xs.length - i/\i<=xs.length/\Pv i σ H,⟨xs.length,by simp,Nat.zero_le _,h0⟩,?_⟩
 rintro i m σ H ⟨rfl,hi,p⟩
 have q:=hl i σ H hi p
 by_cases hlt:i < xs.length
 ·refine .inr ⟨⟨xs,xs[i],q,by simp [hlt]⟩,Pv (i+1),fun σ' H' p'=>⟨xs.length - (i+1),by omega,rfl,hlt,p'⟩,fun x H' y=>?_⟩
  obtain ⟨e,y⟩:=y
  subst e
  exact hs i x σ _ (y xs q) p
 ·have e:i=xs.length:=by omega
  subst e
  exact .inl ⟨⟨xs,q,Nat.le_refl _⟩,hd σ H p⟩
theorem l_Y {K:Frag} {a:Addr} {xs:List V} {g:TG} {tb:TS} {D:Ends} {σ:St} {H:Hp} (Pv:Nat->St->Hp->Prop) (h0:Pv 0 σ H) (hl:∀ i σ H,i<=xs.length->Pv i σ H->SqT K H a xs)
  (hs:∀ i x σ H,xs[i]?=some x->Pv i σ H->g x σ H fun σ2 H2=>tb { D with nx:=Pv (i+1),ct:=Pv (i+1),bk:=D.nx } σ2 H2) (hd:∀ σ H,Pv xs.length σ H->D.nx σ H) :
  ∃ W:Nat->Nat->St->Hp->Prop,(∃ m,W 0 m σ H)/\∀ i m σ H,W i m σ H ->
   ((Itt K a).stop i H/\D.nx σ H)\/((Itt K a).go i H/\∃ N:St->Hp->Prop,(∀ σ' H',N σ' H'->∃ m',m' < m/\W (i+1) m' σ' H')/\∀ x H',(Itt K a).yld i H x H'->g x σ H' fun σ2 H2=>tb { D with nx:=N,ct:=N,bk:=D.nx } σ2 H2):=by
 refine ⟨fun i m σ H=>m=xs.length - i/\i<=xs.length/\Pv i σ H,⟨xs.length,by simp,Nat.zero_le _,h0⟩,?_⟩
 rintro i m σ H ⟨rfl,hi,p⟩
 have q:=hl i σ H hi p
 by_cases hlt:i < xs.length
 ·refine .inr ⟨⟨xs,xs[i],q,by simp [hlt]⟩,Pv (i+1),fun σ' H' p'=>⟨xs.length - (i+1),by omega,rfl,hlt,p'⟩,fun x H' y=>?_⟩
  obtain ⟨e,y⟩:=y
  subst e
  exact hs i x σ _ (y xs q) p
 ·have e:i=xs.length:=by omega
  subst e
  exact .inl ⟨⟨xs,q,Nat.le_refl _⟩,hd σ H p⟩
theorem j_X {lo:Int} {n:Nat} {g:TG} {tb:TS} {D:Ends} {σ:St} {H:Hp} (Pv:Nat->St->Hp->Prop) (h0:Pv 0 σ H)
  (hs:∀ i σ H,i < n->Pv i σ H->g (.int (lo+i)) σ H fun σ2 H2=>tb { D with nx:=Pv (i+1),ct:=Pv (i+1),bk:=D.nx } σ2 H2) (hd:∀ σ H,Pv n σ H->D.nx σ H) :
  ∃ W:Nat->Nat->St->Hp->Prop,(∃ m,W 0 m σ H)/\∀ i m σ H,W i m σ H ->
   ((Itr lo n).stop i H/\D.nx σ H)\/((Itr lo n).go i H/\∃ N:St->Hp->Prop,(∀ σ' H',N σ' H'->∃ m',m' < m/\W (i+1) m' σ' H')/\∀ x H',(Itr lo n).yld i H x H'->g x σ H' fun σ2 H2=>tb { D with nx:=N,ct:=N,bk:=D.nx } σ2 H2):=by
 refine ⟨fun i m σ H=>m=n - i/\i<=n/\Pv i σ H,⟨n,by simp,Nat.zero_le _,h0⟩,?_⟩
 rintro i m σ H ⟨rfl,hi,p⟩
 by_cases hlt:i < n
 ·refine .inr ⟨hlt,Pv (i+1),fun σ' H' p'=>⟨n - (i+1),by omega,rfl,hlt,p'⟩,fun x H' y=>?_⟩
  obtain ⟨e,y⟩:=y
  subst e y
  exact hs i σ _ hlt p
 ·have e:i=n:=by omega
  subst e
  exact .inl ⟨Nat.le_refl _,hd σ H p⟩
noncomputable abbrev R2:=V->V->Hp->VK->Prop
noncomputable def OpR (X:Cx) (f:Value->Value->Sem Value) (r:R2):Prop :=
 ∀ (pins:List (Addr × Obj)) (s:Shared) (σ:St) (H:Hp) (x y:V) (v u:Value) (Q:VK),Inv X pins σ H s->RelV x v->RelV y u->r x y H Q ->
  wpAny (model X.prog X.w) X.A (f v u) (EP X pins σ Q) X.xe s
noncomputable def UnR (X:Cx) (f:Value->Sem Value) (r:V->Hp->VK->Prop):Prop :=
 ∀ (pins:List (Addr × Obj)) (s:Shared) (σ:St) (H:Hp) (x:V) (v:Value) (Q:VK),Inv X pins σ H s->RelV x v->r x H Q ->
  wpAny (model X.prog X.w) X.A (f v) (EP X pins σ Q) X.xe s
noncomputable def c_z (X:Cx) (f:Value) (r:List V->Hp->VK->Prop):Prop :=
 ∀ (pins:List (Addr × Obj)) (s:Shared) (σ:St) (H:Hp) (xs:List V) (us:List Value) (Q:VK),Inv X pins σ H s->Vals xs us->r xs H Q ->
  wpAny (model X.prog X.w) X.A (call f us) (EP X pins σ Q) X.xe s
noncomputable def tOp (r:R2) (ta tb:TE):TE:=fun σ H Q=>ta σ H fun x H1=>tb σ H1 fun y H2=>r x y H2 Q
noncomputable def tUn (r:V->Hp->VK->Prop) (ta:TE):TE:=fun σ H Q=>ta σ H fun x H1=>r x H1 Q
noncomputable def rI (C:Int->Int->Prop) (g:Int->Int->V):R2:=fun x y H Q=>∃ i j,x=.int i/\y=.int j/\C i j/\Q (g i j) H
noncomputable def rI0 (g:Int->Int->V):R2:=fun x y H Q=>∃ i j,x=.int i/\y=.int j/\Q (g i j) H
noncomputable def rU (g:Int->V):V->Hp->VK->Prop:=fun x H Q=>∃ i,x=.int i/\Q (g i) H
section
variable {X:Cx} {a b c:Expr} {ta tb tc:TE} {pos:Pos}
theorem binT (ha:PE X a ta) (hb:PE X b tb) {pins:List (Addr × Obj)} {s:Shared} {σ:St} {H:Hp} {R:V->V->Hp->Prop} (I:Inv X pins σ H s)
  (h:ta σ H fun x H1=>tb σ H1 fun y H2=>R x y H2) {Q:Value->Shared->Prop} {f:Value->Value->Sem Value}
  (hf:∀ v u s2 x y H2,Inv X pins σ H2 s2->RelV x v->RelV y u->R x y H2->wpAny (model X.prog X.w) X.A (f v u) Q X.xe s2) :
  wpAny (model X.prog X.w) X.A (eval a X.env) (fun v s₁=>wpAny (model X.prog X.w) X.A (eval b X.env) (fun u s₂=>wpAny (model X.prog X.w) X.A (f v u) Q X.xe s₂) X.xe s₁) X.xe s:=by
 refine thn (ha pins s σ H _ I h) fun v s1 ⟨x,H1,I1,r1,q1⟩=>?_
 refine thn (hb pins s1 σ H1 _ I1 q1) fun u s2 ⟨y,H2,I2,r2,q2⟩=>?_
 exact hf v u s2 x y H2 I2 r1 r2 q2
theorem a_O {op:Operator} {r:R2} (ho:OpR X (binaryOp op) r) (ha:PE X a ta) (hb:PE X b tb):PE X (.BinOp a op b pos) (tOp r ta tb):=by
 intro pins s σ H Q I h
 exact wpAny_BinOp (binT ha hb I h fun v u s2 x y H2 I2 rx ry q=>ho pins s2 σ H2 x y v u Q I2 rx ry q)
theorem g_O {op:UnaryOp} {r:V->Hp->VK->Prop} (ho:UnR X (unaryOp op) r) (ha:PE X a ta):PE X (.UnaryOp op a pos) (tUn r ta):=by
 intro pins s σ H Q I h
 exact UnaryOp_ (thn (ha pins s σ H _ I h) fun v s1 ⟨x,H1,I1,r1,q1⟩=>ho pins s1 σ H1 x v Q I1 r1 q1)
theorem opI {f:Value->Value->Sem Value} {C:Int->Int->Prop} {g:Int->Int->Int}
  (rule:∀ (i j:Int) (t u:Tok) (s:Shared) (Q:Value->Shared->Prop) (E:Value->Shared->Prop),C i j->Q (.int (g i j) s.toks) { s with toks:=s.toks+1 }->wpAny (model X.prog X.w) X.A (f (.int i t) (.int j u)) Q E s) :
  OpR X f (rI C fun i j=>.int (g i j)):=by
 intro pins s σ H x y v u Q I rx ry h
 obtain ⟨i,j,rfl,rfl,hc,q⟩:=h
 obtain ⟨t,rfl⟩:=rx
 obtain ⟨t',rfl⟩:=ry
 exact rule i j t t' s _ _ hc ⟨.int (g i j),H,I.tok _,⟨_,rfl⟩,q⟩
theorem opI0 {f:Value->Value->Sem Value} {g:Int->Int->Int}
  (rule:∀ (i j:Int) (t u:Tok) (s:Shared) (Q:Value->Shared->Prop) (E:Value->Shared->Prop),Q (.int (g i j) s.toks) { s with toks:=s.toks+1 }->wpAny (model X.prog X.w) X.A (f (.int i t) (.int j u)) Q E s) :
  OpR X f (rI0 fun i j=>.int (g i j)):=by
 intro pins s σ H x y v u Q I rx ry h
 obtain ⟨i,j,rfl,rfl,q⟩:=h
 obtain ⟨t,rfl⟩:=rx
 obtain ⟨t',rfl⟩:=ry
 exact rule i j t t' s _ _ ⟨.int (g i j),H,I.tok _,⟨_,rfl⟩,q⟩
theorem opB0 {f:Value->Value->Sem Value} {g:Int->Int->Bool}
  (rule:∀ (i j:Int) (t u:Tok) (s:Shared) (Q:Value->Shared->Prop) (E:Value->Shared->Prop),Q (.bool (g i j)) s->wpAny (model X.prog X.w) X.A (f (.int i t) (.int j u)) Q E s) :
  OpR X f (rI0 fun i j=>.bl (g i j)):=by
 intro pins s σ H x y v u Q I rx ry h
 obtain ⟨i,j,rfl,rfl,q⟩:=h
 obtain ⟨t,rfl⟩:=rx
 obtain ⟨t',rfl⟩:=ry
 exact rule i j t t' s _ _ ⟨.bl (g i j),H,I,rfl,q⟩
noncomputable def CPow (i j:Int):Prop:=0<=j/\j<=1000000/\i.natAbs < 2 ^ 64
noncomputable def CMul (i j:Int):Prop:=(-(2 ^ 64) < i/\i < 2 ^ 64)\/(-(2 ^ 64) < j/\j < 2 ^ 64)
theorem CMul.ok {i j:Int} (h:CMul i j):IntMulOk i j:=by
 rcases h with ⟨h1,h2⟩ | ⟨h1,h2⟩
 ·exact .of_left (intBits_le_64 h1 h2)
 ·exact .of_right (intBits_le_64 h1 h2)
theorem c_K:OpR X (binaryOp .Add) (rI0 fun i j=>.int (i+j)):=opI0 fun _ _ _ _ _ _ _ q=>add_int q
theorem d_m:OpR X (binaryOp .Sub) (rI0 fun i j=>.int (i - j)):=opI0 fun _ _ _ _ _ _ _ q=>sub_int q
theorem b_Q:OpR X (binaryOp .Mod) (rI (fun _ j=>j≠0) fun i j=>.int (i.fmod j)):=opI fun _ _ _ _ _ _ _ hc q=>mod_int' hc q
theorem k_y:OpR X (binaryOp .Pow) (rI CPow fun i j=>.int (i ^ j.toNat)):=opI fun _ _ _ _ _ _ _ hc q=>pow_int_small hc.1 hc.2.1 hc.2.2 q
theorem unI {f:Value->Sem Value} {g:Int->Int}
  (rule:∀ (i:Int) (t:Tok) (s:Shared) (Q:Value->Shared->Prop) (E:Value->Shared->Prop),Q (.int (g i) s.toks) { s with toks:=s.toks+1 }->wpAny (model X.prog X.w) X.A (f (.int i t)) Q E s) :
  UnR X f (rU fun i=>.int (g i)):=by
 intro pins s σ H x v Q I rx h
 obtain ⟨i,rfl,q⟩:=h
 obtain ⟨t,rfl⟩:=rx
 exact rule i t s _ _ ⟨.int (g i),H,I.tok _,⟨_,rfl⟩,q⟩
theorem e_Y:UnR X (unaryOp .USub) (rU fun i=>.int (-i)):=unI fun _ _ _ _ _ q=>neg_int q
end
noncomputable def scal:V->V->Bool
 | .non,.non=>true | .non,.int _=>true | .int _,.non=>true | .non,.bl _=>true | .bl _,.non=>true | .non,.str _=>true | .str _,.non=>true
 | .int _,.int _=>true | .bl _,.bl _=>true | .str _,.str _=>true | .byt _,.byt _=>true
 | .int _,.str _=>true | .str _,.int _=>true | .bl _,.str _=>true | .str _,.bl _=>true
 | _,_=>false
noncomputable def rEq:R2:=fun x y H Q=>scal x y=true/\Q (.bl (decide (x=y))) H
theorem l_Z {i j:Int}:decide (V.int i=V.int j)=(i == j):=by
 rw [Bool.eq_iff_iff]
 simp
theorem o_j {i j:Bool}:decide (V.bl i=V.bl j)=(i == j):=by
 rw [Bool.eq_iff_iff]
 simp
theorem m_g {i j:Str}:decide (V.str i=V.str j)=(i == j):=by
 rw [Bool.eq_iff_iff]
 simp
theorem m_A {i j:Array UInt8}:decide (V.byt i=V.byt j)=(i.toList == j.toList):=by
 rw [Bool.eq_iff_iff]
 cases i
 cases j
 simp
section
variable {X:Cx} {a b c:Expr} {ta tb tc:TE} {pos:Pos}
theorem c_h {pins:List (Addr × Obj)} {σ:St} {H:Hp} {s:Shared} {Q:VK} {k k':Bool} (I:Inv X pins σ H s) (q:Q (.bl k) H) (e:k=k'):EP X pins σ Q (.bool k') s:=by
 subst e
 exact ⟨.bl k,H,I,rfl,q⟩
theorem k_z:OpR X (compareOp .Eq) rEq:=by
 intro pins s σ H x y v u Q I rx ry h
 obtain ⟨hs,q⟩:=h
 cases x with
 | non =>
  cases rx
  cases y with
  | non=>cases ry; exact PySem.EqNone.eq_none_none (c_h I q (by simp))
  | bl j=>cases ry; exact PySem.EqNone.eq_none_bool (c_h I q (by simp))
  | int j=>obtain ⟨t',rfl⟩:=ry; exact PySem.EqNone.eq_none_int (c_h I q (by simp))
  | str j=>obtain ⟨t',rfl⟩:=ry; exact PySem.EqNone.eq_none_str (c_h I q (by simp))
  | _=>exact absurd (show false=true from hs) Bool.false_ne_true
 | bl i =>
  cases rx
  cases y with
  | non=>cases ry; exact PySem.EqNone.eq_bool_none (c_h I q (by simp))
  | bl j=>cases ry; exact eq_bool (c_h I q o_j)
  | str j=>obtain ⟨t',rfl⟩:=ry; exact PySem.EqMixed.eq_bool_str (c_h I q (by simp))
  | _=>exact absurd (show false=true from hs) Bool.false_ne_true
 | int i =>
  obtain ⟨t,rfl⟩:=rx
  cases y with
  | non=>cases ry; exact PySem.EqNone.eq_int_none (c_h I q (by simp))
  | int j=>obtain ⟨t',rfl⟩:=ry; exact eq_int (c_h I q l_Z)
  | str j=>obtain ⟨t',rfl⟩:=ry; exact PySem.EqMixed.eq_int_str (c_h I q (by simp))
  | _=>exact absurd (show false=true from hs) Bool.false_ne_true
 | str i =>
  obtain ⟨t,rfl⟩:=rx
  cases y with
  | non=>cases ry; exact PySem.EqNone.eq_str_none (c_h I q (by simp))
  | bl j=>cases ry; exact PySem.EqMixed.eq_str_bool (c_h I q (by simp))
  | int j=>obtain ⟨t',rfl⟩:=ry; exact PySem.EqMixed.eq_str_int (c_h I q (by simp))
  | str j=>obtain ⟨t',rfl⟩:=ry; exact eq_str (c_h I q m_g)
  | _=>exact absurd (show false=true from hs) Bool.false_ne_true
 | byt i =>
  obtain ⟨t,rfl⟩:=rx
  cases y with
  | byt j=>obtain ⟨t',rfl⟩:=ry; exact PySem.W.eq_bytes (c_h I q m_A)
  | _=>exact absurd (show false=true from hs) Bool.false_ne_true
 | _=>cases y <;> exact absurd (show false=true from hs) Bool.false_ne_true
theorem h_V:OpR X (compareOp .Lt) (rI0 fun i j=>.bl (decide (i < j))):=opB0 fun _ _ _ _ _ _ _ q=>lt_int q
theorem h_W:OpR X (compareOp .Gt) (rI0 fun i j=>.bl (decide (j < i))):=opB0 fun _ _ _ _ _ _ _ q=>gt_int q
theorem OpR.or {f:Value->Value->Sem Value} {r r':R2} (h:OpR X f r) (h':OpR X f r'):OpR X f (fun x y H Q=>r x y H Q\/r' x y H Q):=by
 intro pins s σ H x y v u Q I rx ry q
 rcases q with q | q
 ·exact h pins s σ H x y v u Q I rx ry q
 ·exact h' pins s σ H x y v u Q I rx ry q
theorem a_V (b:Expr) {op:CmpOp} (h:op≠.In:=by decide) (h2:op≠.NotIn:=by decide):behindInMarks op b=false:=by
 have e1:(op == CmpOp.In)=false:=by cases op <;> first | rfl | exact absurd rfl h
 have e2:(op == CmpOp.NotIn)=false:=by cases op <;> first | rfl | exact absurd rfl h2
 cases b <;> simp [behindInMarks,e1,e2]
theorem c_y {op:CmpOp} {r:R2} (ho:OpR X (compareOp op) r) (ha:PE X a ta) (hb:PE X b tb) (hm:behindInMarks op b=false):PE X (.Compare a [op] [b] pos) (tOp r ta tb):=by
 intro pins s σ H Q I h
 exact wpAny_Compare1 (binT ha hb I h fun v u s2 x y H2 I2 rx ry q=>ho pins s2 σ H2 x y v u Q I2 rx ry q) hm
noncomputable def g_h (t:TE):TT:=fun σ H Q=>t σ H fun x H'=>∃ k,x=.bl k/\Q k H'
theorem a_X {op:CmpOp} {r:R2} (ho:OpR X (compareOp op) r) (ha:PE X a ta) (hb:PE X b tb) (hm:behindInMarks op b=false):PT X (.Compare a [op] [b] pos) (g_h (tOp r ta tb)):=by
 intro pins s σ H Q I h
 refine wpAny_isTrue_Compare1 (thn (ha pins s σ H _ I h) fun v s1 ⟨x,H1,I1,r1,q1⟩=>thn (hb pins s1 σ H1 _ I1 q1) fun u s2 ⟨y,H2,I2,r2,q2⟩ =>
  thn (ho pins s2 σ H2 x y v u _ I2 r1 r2 q2) fun c s3 ⟨z,H3,I3,r3,k,e,q3⟩=>?_) hm
 subst e
 cases r3
 exact wpAny_truthy_bool ⟨H3,I3,q3⟩
theorem h_m:(sizeLine:Nat) < 2 ^ 63:=by rw [sizeLine_eq]; decide
theorem e_y {x:V} {us:List Value} (r:Vals [x] us):∃ u,us=[u]/\RelV x u:=by
 cases r with
 | cons r1 r2=>cases r2; exact ⟨_,rfl,r1⟩
theorem o_M {x y:V} {us:List Value} (r:Vals [x,y] us):∃ u w',us=[u,w']/\RelV x u/\RelV y w':=by
 cases r with
 | cons r1 r2 =>
  cases r2 with
  | cons r3 r4=>cases r4; exact ⟨_,_,rfl,r1,r3⟩
theorem e_D:c_z X (.builtin "abs") (fun xs H Q=>∃ i,xs=[.int i]/\Q (.int (if i < 0 then -i else i)) H):=by
 intro pins s σ H xs us Q I r h
 obtain ⟨i,rfl,q⟩:=h
 obtain ⟨u,rfl,t,rfl⟩:=e_y r
 exact call_abs_int fun u tk=>⟨.int (if i < 0 then -i else i),H,I.tok _,⟨_,rfl⟩,q⟩
theorem j_Y (hc:X.calm=true):c_z X (.builtin "max") (fun xs H Q=>∃ i j,xs=[.int i,.int j]/\Q (.int (if j > i then j else i)) H):=by
 intro pins s σ H xs us Q I r h
 obtain ⟨i,j,rfl,q⟩:=h
 obtain ⟨u,w',rfl,⟨t,rfl⟩,⟨t',rfl⟩⟩:=o_M r
 refine max_two_ints (I.ok.hd hc) fun h' tk k=>⟨_,H,I.kept k,?_,q⟩
 by_cases hj:j > i
 ·rw [if_pos hj,if_pos hj]; exact ⟨_,rfl⟩
 ·rw [if_neg hj,if_neg hj]; exact ⟨_,rfl⟩
end
structure ObjM (h:Heap) (x dx C:Addr) (mA:Str->Option Value):Prop where
 obj:h.get? x=some (PySem.W.instObj C dx)
 ns:h.Ns1 dx mA
 ne:dx≠x
theorem j_Z {h:Heap} {dx:Addr} {mA:Str->Option Value} (n:h.Ns1 dx mA):∃ od,h.get? dx=some od/\∀ name,PySem.W.lookIn name od=some (mA name):=by
 obtain ⟨o,es,ep,ho,hd,hk,_,hm⟩:=n
 refine ⟨o,ho,fun name=>?_⟩
 have e:=hm name
 unfold nsFind findBy at e
 rw [← Array.find?_toList] at e
 unfold PySem.W.lookIn
 rw [hd]
 dsimp only
 split
 ·rename_i y q
  rw [q] at e
  exact congrArg some e
 ·rename_i q
  rw [q] at e
  have a:es.toList.any (·.refKey)=false:=by
   rw [List.any_eq_false]
   intro y hy
   obtain ⟨z,t,hkey⟩:=hk y (Array.mem_toList_iff.mp hy)
   simp [DictEntry.refKey,hkey]
  have a':¬ es.toList.any (·.refKey)=true:=by rw [a]; exact Bool.false_ne_true
  rw [if_neg a']
  exact congrArg some e
theorem ObjM.look {h:Heap} {x dx C:Addr} {mA:Str->Option Value} (I:ObjM h x dx C mA):∃ od,PySem.W.InstAt h x (PySem.W.instObj C dx) C (some od)/\∀ name,PySem.W.lookIn name od=some (mA name) :=
 let ⟨od,ho,hl⟩:=j_Z I.ns
 ⟨od,⟨I.obj,rfl,rfl,ho⟩,hl⟩
section
variable {prog:Program} {w:World} {A:Around} {E:Value->Shared->Prop} {s:Shared} {K:Frag} {x dx C f:Addr} {mA:Str->Option Value} {name:Str} {v:Value}
theorem m_B {expr:Bool} {Q:Value->Shared->Prop} (X:K.In s.heap) (I:ObjM s.heap x dx C mA) (hg:PySem.W.plainGet K C name=true) (hh:PySem.W.hasDictIn K C=true)
  (ha:PySem.W.findIn K (.ref C) name=some none) (hv:mA name=some v) (hv':PySem.W.handedIn v=true) (h:Q v { s with toks:=s.toks+1 }) :
  wpAny (model prog w) A (getAttr (.ref x) name expr) Q E s:=by
 obtain ⟨od,J,hl⟩:=I.look
 exact PySem.W.get_value X J (PySem.W.plainGet_of hg).1 (PySem.W.findObj_own hh ha rfl (by rw [hl,hv])) hv' h
theorem k_A {pl:Sem Bool} {Q:Value × List Value->Shared->Prop} (X:K.In s.heap) (I:ObjM s.heap x dx C mA) (hg:PySem.W.plainGet K C name=true)
  (hf:PySem.W.findIn K (.ref C) name=some (some (.ref f))) (ht:PySem.W.isFn K (.ref f)=true) (hv:mA name=none) (h:Q (.ref f,[.ref x]) s) :
  wpAny (model prog w) A (getMethod (.ref x) name pl) Q E s:=by
 obtain ⟨od,J,hl⟩:=I.look
 exact PySem.W.method_fn X J (PySem.W.plainGet_of hg).1 (PySem.W.plainGet_of hg).2 hf (beq_iff_eq.mp ht) (by show (PySem.W.lookIn name od).map (·.isSome)=some false; rw [hl,hv]; rfl) h
theorem m_C {ns:List Str} {Q:Unit->Shared->Prop} (X:K.In s.heap) (I:ObjM s.heap x dx C mA)
  (hs:PySem.W.findIn K (.ref C) "__setattr__" = some (some (.builtin "object.__setattr__"))) (hp:PySem.W.plainOver K C=true) (ht:PySem.W.takerIn K C name=some none) (hh:PySem.W.hasDictIn K C=true)
  (hw:PySem.Within mA ns) (hsz:ns.length<=sizeLine)
  (h:∀ h',ObjM h' x dx C (fun y=>if y=name then some v else mA y)->Heap.SameBut dx s.heap h'->Q () { s with heap:=h',toks:=s.toks+2 }) :
  wpAny (model prog w) A (setAttr (.ref x) name v) Q E s:=by
 obtain ⟨od,J,hl⟩:=I.look
 refine PySem.W.set_plain X J hs (PySem.W.osa_open (s:={ s with toks:=s.toks+1 }) (r:=none) X J hp ht fun b=>?_)
 obtain ⟨cd,hc,hd'⟩:=PySem.W.any_some hh
 have hx:s.heap.get? x=some ⟨.ref C,some dx,.plain,#[]⟩:=I.obj
 refine wpAny_bind (wpAny_pure (wpAny_bind (wpAny_bind (wpAny_loadPart hx (wpAny_bind (PySem.W.Looks.here (s:={ s with toks:=s.toks+1 }) (PySem.W.looks_clsIn X hc) ?_))))))
 rw [hd']
 refine wpAny_pure (a:=some dx) (wpAny_bind (wpAny_pure (wpAny_bind ?_)))
 refine wpAny_nsSet1 (s:={ s with toks:=s.toks+1 }) I.ns fun h' hn2 hs2=>?_
 obtain ⟨oD,esD,epD,hoD,hdD,hcD⟩:=hn2.count (PySem.Within.cons name v hw)
 refine wpAny_bind (wpAny_lookBehind hoD (by rw [hdD]; exact pastItsLine_dict (Nat.le_trans hcD (by rw [List.length_cons]; omega))) ?_)
 exact wpAny_pure (h _ ⟨(hs2.2 _ (Ne.symm I.ne)).trans I.obj,hn2,I.ne⟩ hs2)
theorem k_B {R:Result->Shared->Prop} {vs:List Value} {kw:List (Str × Value)} (X:K.In s.heap) (hm:PySem.W.makesIn K C=true)
  (hi:PySem.W.findIn K (.ref C) "__init__" = some (some (.ref f))) (hf:PySem.W.typeIn K (.ref f)=some (.type "function"))
  (h:codeAny (model prog w) (A.under (.builtin "type.__call__" ⟨.ref C :: vs,kw⟩)) (.call (.ref f) ⟨.ref (s.heap.objs.size+1) :: vs,kw⟩) (PySem.W.InitBack (s.heap.objs.size+1) R)
   { s with heap:=(s.heap.push PySem.W.emptyDict).push (PySem.W.instObj C s.heap.objs.size) }) :
  codeAny (model prog w) A (.call (.ref C) ⟨vs,kw⟩) R s:=by
 obtain ⟨hh,g,d,t,os⟩:=s
 exact PySem.W.make_core (PySem.W.makes_of X hm) (PySem.W.looks_findIn X hi) (fun self=>PySem.W.bind_fn X self hf) (.inl rfl) h
end
noncomputable def putF (f:Str) (v:V):List (Str × V)->List (Str × V)
 | []=>[(f,v)]
 | (g,x) :: r=>if g=f then (g,v) :: r else (g,x) :: putF f v r
theorem c_c (f g:Str) (v:V):∀ fs:List (Str × V),(putF f v fs).lookup g=if g=f then some v else fs.lookup g
 | []=>by
  show List.lookup g [(f,v)]=_
  by_cases h:g=f
  ·have hb:(g == f)=true:=beq_iff_eq.mpr h
   simp only [List.lookup,hb,if_pos h]
  ·have hb:(g == f)=false:=beq_eq_false_iff_ne.mpr h
   simp only [List.lookup,hb,if_neg h]
 | (k,x) :: r=>by
  have ih:=c_c f g v r
  rw [show putF f v ((k,x) :: r)=(if k=f then (k,v) :: r else (k,x) :: putF f v r) from rfl]
  by_cases hk:k=f
  ·rw [if_pos hk]
   by_cases h:g=k
   ·have hb:(g == k)=true:=beq_iff_eq.mpr h
    simp only [List.lookup,hb,if_pos (h.trans hk)]
   ·have hb:(g == k)=false:=beq_eq_false_iff_ne.mpr h
    simp only [List.lookup,hb,if_neg (fun e:g=f=>h (e.trans hk.symm))]
  ·rw [if_neg hk]
   by_cases h:g=k
   ·have hb:(g == k)=true:=beq_iff_eq.mpr h
    simp only [List.lookup,hb,if_neg (fun e:g=f=>hk (h.symm.trans e))]
   ·have hb:(g == k)=false:=beq_eq_false_iff_ne.mpr h
    simp only [List.lookup,hb]
    exact ih
theorem e_Z (f:Str) (v:V):∀ fs:List (Str × V),f∈(putF f v fs).map (·.1)/\∀ g,g∈fs.map (·.1)->g∈(putF f v fs).map (·.1)
 | []=>⟨by simp [putF],fun g h=>by simp at h⟩
 | (k,x) :: r=>by
  obtain ⟨i1,i2⟩:=e_Z f v r
  rw [show putF f v ((k,x) :: r)=(if k=f then (k,v) :: r else (k,x) :: putF f v r) from rfl]
  by_cases hk:k=f
  ·rw [if_pos hk]
   subst hk
   exact ⟨by simp,fun g h=>by simpa using h⟩
  ·rw [if_neg hk]
   refine ⟨?_,fun g h=>?_⟩
   ·rw [List.map_cons]
    exact List.mem_cons_of_mem _ i1
   ·rw [List.map_cons] at h ⊢
    rcases List.mem_cons.mp h with e | e
    ·exact List.mem_cons.mpr (.inl e)
    ·exact List.mem_cons_of_mem _ (i2 g e)
theorem f_O (f:Str) (v:V):∀ fs:List (Str × V),(putF f v fs).length<=fs.length+1
 | []=>by simp [putF]
 | (k,x) :: r=>by
  have ih:=f_O f v r
  rw [show putF f v ((k,x) :: r)=(if k=f then (k,v) :: r else (k,x) :: putF f v r) from rfl]
  by_cases hk:k=f
  ·rw [if_pos hk,List.length_cons,List.length_cons]; omega
  ·rw [if_neg hk,List.length_cons,List.length_cons]; omega
theorem RelO.some_of {v:V} {o:Option Value} (r:RelO (some v) o):∃ u,o=some u/\RelV v u:=by
 cases o with
 | none=>exact (show False from r).elim
 | some u=>exact ⟨u,rfl,r⟩
theorem RelO.none_of {o:Option Value} (r:RelO none o):o=none:=by
 cases o with
 | none=>rfl
 | some u=>exact (show False from r).elim
theorem k_a {v:V} {u:Value} (r:RelV v u):PySem.W.handedIn u=true:=by
 cases v with
 | non=>cases (show u=Value.none from r); rfl
 | bl b=>cases (show u=Value.bool b from r); rfl
 | int i=>obtain ⟨t,e⟩:=(show ∃ t,u=Value.int i t from r); cases e; rfl
 | str x=>obtain ⟨t,e⟩:=(show ∃ t,u=Value.str x t from r); cases e; rfl
 | byt b=>obtain ⟨t,e⟩:=(show ∃ t,u=Value.bytes b t from r); cases e; rfl
 | flt b=>obtain ⟨t,e⟩:=(show ∃ t,u=Value.float b t from r); cases e; rfl
 | ref a=>cases (show u=Value.ref a from r); rfl
 | ty n=>cases (show u=Value.type n from r); rfl
section
variable {P:Program} {w:World} {H H':Hp} {h h':Heap} {a C dx:Addr} {fs fs':List (Str × V)}
theorem f_W (hok:HOk P w H h) (e:H a=some (.ins C dx fs)):∃ mA,ObjM h a dx C mA/\(∀ f,RelO (fs.lookup f) (mA f))/\PySem.Within mA (fs.map (·.1))/\fs.length<=1000/\H dx=some (.own a):=by
 obtain ⟨d,z,ne,ob,mA,n,r,q⟩:=(show b_B P w H h a (.ins C dx fs) from hok a _ e)
 exact ⟨mA,⟨ob,n,ne⟩,r,q,z,d⟩
end
structure Cls (K:Frag) (C:Addr):Prop where
 pg:PySem.W.plainGet K C Str.empty=true
 hd:PySem.W.hasDictIn K C=true
 po:PySem.W.plainOver K C=true
 sa:PySem.W.findIn K (.ref C) "__setattr__" = some (some (.builtin "object.__setattr__"))
theorem Cls.get {K:Frag} {C:Addr} (c:Cls K C) (f:Str):PySem.W.plainGet K C f=true:=c.pg
noncomputable def e_z (K:Frag) (C:Addr) (f:Str):Prop:=PySem.W.findIn K (.ref C) f=some none
theorem e_z.taker {K:Frag} {C:Addr} {f:Str} (n:e_z K C f):PySem.W.takerIn K C f=some none:=by
 unfold PySem.W.takerIn
 rw [show PySem.W.findIn K (.ref C) f=some none from n]
 rfl
structure Meth (K:Frag) (C:Addr) (m:Str) (f:Addr):Prop where
 at_:PySem.W.findIn K (.ref C) m=some (some (.ref f))
 fn:PySem.W.isFn K (.ref f)=true
 kp:PySem.W.keepIn K (.ref f)=true
section
variable {X:Cx} {pins:List (Addr × Obj)} {σ:St} {H:Hp} {s:Shared} {a C dx:Addr} {fs:List (Str × V)} {f:Str} {v:V} {A:Around} {E:Value->Shared->Prop}
theorem i_A {b:Bool} {Q:Value->Shared->Prop} (I:Inv X pins σ H s) (e:H a=some (.ins C dx fs)) (c:Cls X.K C) (n:e_z X.K C f) (l:fs.lookup f=some v)
  (h:∀ u s',Inv X pins σ H s'->RelV v u->Q u s'):wpAny (model X.prog X.w) A (getAttr (.ref a) f b) Q E s:=by
 obtain ⟨mA,O,r,_,_,_⟩:=f_W I.hok e
 obtain ⟨u,hu,ru⟩:=RelO.some_of (v:=v) (o:=mA f) (by rw [← l]; exact r f)
 exact m_B I.kIn O (c.get f) c.hd n hu (k_a ru) (h u _ (I.tok _) ru)
theorem i_B {m:Str} {g:Addr} {pl:Sem Bool} {Q:Value × List Value->Shared->Prop} (I:Inv X pins σ H s) (e:H a=some (.ins C dx fs)) (c:Cls X.K C) (k:Meth X.K C m g) (l:fs.lookup m=none)
  (h:Q (.ref g,[.ref a]) s):wpAny (model X.prog X.w) A (getMethod (.ref a) m pl) Q E s:=by
 obtain ⟨mA,O,r,_,_,_⟩:=f_W I.hok e
 have hn:mA m=none:=RelO.none_of (by rw [← l]; exact r m)
 exact k_A I.kIn O (c.get m) k.at_ k.fn hn h
theorem i_C {y:V} {u:Value} {Q:Unit->Shared->Prop} (I:Inv X pins σ H s) (e:H a=some (.ins C dx fs)) (c:Cls X.K C) (n:e_z X.K C f) (hl:fs.length < 1000) (ry:RelV y u)
  (h:∀ s',Inv X pins σ (upd H a (.ins C dx (putF f y fs))) s'->Q () s'):wpAny (model X.prog X.w) A (setAttr (.ref a) f u) Q E s:=by
 obtain ⟨mA,O,r,wi,_,ho⟩:=f_W I.hok e
 have hz:(fs.map (·.1)).length<=sizeLine:=by rw [List.length_map,sizeLine_eq]; omega
 refine m_C I.kIn O c.sa c.po n.taker c.hd wi hz fun h' O' sb=>h _ ?_
 have hd:∃ o,h'.get? dx=some o:=let ⟨o,_,_,e',_⟩:=O'.ns; ⟨o,e'⟩
 refine I.write (x:=a) (e:=dx) (by rw [e]; exact True.intro) (.inr ho) (fun b q hb z=>(sb.2 b hb).trans z) hd ?_
 refine ⟨by rw [a_E O.ne]; exact ho,?_,O.ne,O'.obj,_,O'.ns,fun g=>?_,fun g hg=>?_⟩
 ·have:=f_O f y fs; omega
 ·show RelO ((putF f y fs).lookup g) (if g=f then some u else mA g)
  rw [c_c]
  by_cases q:g=f
  ·rw [if_pos q,if_pos q]; exact ry
  ·rw [if_neg q,if_neg q]; exact r g
 ·by_cases q:g=f
  ·rw [q]; exact (e_Z f y fs).1
  ·refine (e_Z f y fs).2 g (wi g fun z=>hg ?_)
   show (if g=f then some u else mA g)=none
   rw [if_neg q]; exact z
theorem Inv.made (I:Inv X pins σ H s):Inv X pins σ (upd (upd H s.heap.objs.size (.own (s.heap.objs.size+1))) (s.heap.objs.size+1) (.ins C s.heap.objs.size []))
  { s with heap:=(s.heap.push PySem.W.emptyDict).push (PySem.W.instObj C s.heap.objs.size) }:=by
 have e1:(s.heap.push PySem.W.emptyDict).get? s.heap.objs.size=some PySem.W.emptyDict:=Heap.get?_push_size s.heap rfl
 have e2:((s.heap.push PySem.W.emptyDict).push (PySem.W.instObj C s.heap.objs.size)).get? (s.heap.objs.size+1)=some (PySem.W.instObj C s.heap.objs.size):=by
  have:=Heap.get?_push_size (s.heap.push PySem.W.emptyDict) (o:=PySem.W.instObj C s.heap.objs.size) rfl
  rwa [Heap.size_push] at this
 have e3:(s.heap.push PySem.W.emptyDict).Ns s.heap.objs.size (fun _=>none):=⟨PySem.W.emptyDict,#[],_,e1,rfl,(fun e he=>absurd he (by simp)),fun _=>rfl⟩
 have I1:=I.laid (a:=s.heap.objs.size) (o:=.own (s.heap.objs.size+1)) (h':=s.heap.push PySem.W.emptyDict) (t':=s.toks) (fun b u q=>Heap.get?_push_of_some _ q) (Nat.le_refl _) ⟨_,e1⟩
 refine I1.laid (a:=s.heap.objs.size+1) (o:=.ins C s.heap.objs.size []) (t':=s.toks) (fun b u q=>Heap.get?_push_of_some _ q) (Nat.le_of_eq (Heap.size_push _ _)) ?_
 have ne:s.heap.objs.size≠s.heap.objs.size+1:=Nat.ne_of_lt (Nat.lt_succ_self _)
 refine ⟨by rw [a_E ne,a_F],Nat.zero_le _,ne,e2,fun _=>none,(Heap.Ns1.of_empty e3).at fun o q=>Heap.get?_push_of_some _ q,fun _=>True.intro,fun y hy=>absurd rfl hy⟩
theorem m_D {prog:Program} {w:World} {env:Env} {e:Expr} {f:Str} {pos:Pos} {s:Shared} {Q:Value->Shared->Prop} (hb:attributeBase e f env (eval e env)=eval e env)
  (h:wpAny (model prog w) A (eval e env) (fun o s₁=>wpAny (model prog w) A (getAttr o f true) Q E s₁) E s):wpAny (model prog w) A (eval (.Attribute e f pos) env) Q E s :=
 Attribute_any_ h (by rw [arm_eval_Attribute,hb])
end
noncomputable def tFld (K:Frag) (ta:TE) (f:Str):TE:=fun σ H Q=>ta σ H fun x H1=>∃ a C dx fs v,x=.ref a/\H1 a=some (.ins C dx fs)/\Cls K C/\e_z K C f/\fs.lookup f=some v/\Q v H1
noncomputable def sFld (K:Frag) (ta tv:TE) (f:Str):TS:=fun D σ H=>tv σ H fun y H1=>ta σ H1 fun x H2=>∃ a C dx fs,x=.ref a/\H2 a=some (.ins C dx fs)/\Cls K C/\e_z K C f/\fs.length < 1000 /\
 D.nx σ (upd H2 a (.ins C dx (putF f y fs)))
section
variable {X:Cx} {o e value:Expr} {f:Str} {pos pos' tpos:Pos} {ta tv:TE}
theorem b_U (he:PE X e ta) (hb:attributeBase e f X.env (eval e X.env)=eval e X.env):PE X (.Attribute e f pos) (tFld X.K ta f):=by
 intro pins s σ H Q I h
 refine m_D hb (thn (he pins s σ H _ I h) fun u s1 ⟨x,H1,I1,rx,a,C,dx,fs,v,ex,ea,c,n,l,q⟩=>?_)
 subst ex
 obtain rfl:u=Value.ref a:=rx
 exact i_A I1 ea c n l fun u' s2 I2 ru=>⟨v,H1,I2,ru,q⟩
theorem k_C (ha:PE X o ta) (hv:PE X value tv) (hs:swapsWith value (some (.Attribute o f pos')) pos.line X.env=pure false):PS X (.Assign [.Attribute o f pos'] value pos) (sFld X.K ta tv f):=by
 intro pins s σ H D I h
 refine plainObj_wpAny_Assign_Attribute (thn (hv pins s σ H _ I h) fun u s1 ⟨y,H1,I1,ry,q⟩=>thn (ha pins s1 σ H1 _ I1 q) fun ov s2 ⟨x,H2,I2,rx,a,C,dx,fs,ex,ea,c,n,l,q2⟩=>?_) hs
 subst ex
 obtain rfl:ov=Value.ref a:=rx
 exact i_C I2 ea c n l ry fun s3 I3=>⟨σ,_,I3,q2⟩
end
section
variable {X:Cx} {pins:List (Addr × Obj)} {σ:St} {H:Hp} {s:Shared} {A:Around} {E:Value->Shared->Prop} {Q:Value->Shared->Prop} {c:Value} {b:Bool}
inductive TyOf (K:Frag) (H:Hp):V->Value->Prop where
 | non:TyOf K H .non (.type "NoneType")
 | bl (x:Bool):TyOf K H (.bl x) (.type "bool")
 | int (i:Int):TyOf K H (.int i) (.type "int")
 | str (x:Str):TyOf K H (.str x) (.type "str")
 | flt (x:UInt64):TyOf K H (.flt x) (.type "float")
 | lst {a:Addr} {xs:List V} (e:H a=some (.lst xs)):TyOf K H (.ref a) (.type "list")
 | frz {a:Addr} {o:Obj} {xs:List V} (e:H a=some (.frz o (.lst xs))):TyOf K H (.ref a) (.type "list")
 | tup {a:Addr} {xs:List V} (e:H a=some (.tup xs)):TyOf K H (.ref a) (.type "tuple")
 | dK {a:Addr} {kvs:List (Key × V)} (e:H a=some (.dK kvs)):TyOf K H (.ref a) (.type "dict")
 | dT {a:Addr} {kvs:List (List Key × V)} (e:H a=some (.dT kvs)):TyOf K H (.ref a) (.type "dict")
 | ins {a C dx:Addr} {fs:List (Str × V)} (e:H a=some (.ins C dx fs)) (cl:Cls K C) (ha:PySem.W.findIn K (.ref C) "__class__" = some (some (.builtin "object.__class__")))
   (hn:PySem.W.specialIn K (.builtin "object.__class__") "__get__" = some (some (.builtin "getset_descriptor.__get__"))) (htk:PySem.W.takesIn K (.builtin "object.__class__")=some true)
   (hm:PySem.W.mroIn K C (.type "object")=some true):TyOf K H (.ref a) (.ref C)
theorem k_b {x:V} {u t:Value} (I:Inv X pins σ H s) (rx:RelV x u) (ty:TyOf X.K H x t) (e:PySem.W.kitOne X.K t c=some b) (h:∀ tk,Q (.bool b) { s with toks:=tk }) :
  wpAny (model X.prog X.w) A (call (.builtin "isinstance") [u,c]) Q E s:=by
 cases ty with
 | non=>cases (show u=Value.none from rx); exact PySem.W.kia_one PySem.W.kitx_none I.kIn True.intro e (fun z=>nomatch z) h
 | bl y=>cases (show u=Value.bool y from rx); exact PySem.W.kia_one PySem.W.kitx_bool I.kIn True.intro e (fun z=>nomatch z) h
 | int i=>obtain ⟨t,q⟩:=(show ∃ t,u=Value.int i t from rx); cases q; exact PySem.W.kia_one PySem.W.kitx_int I.kIn True.intro e (fun z=>nomatch z) h
 | str y=>obtain ⟨t,q⟩:=(show ∃ t,u=Value.str y t from rx); cases q; exact PySem.W.kia_one PySem.W.kitx_str I.kIn True.intro e (fun z=>nomatch z) h
 | flt y=>obtain ⟨t,q⟩:=(show ∃ t,u=Value.float y t from rx); cases q; exact PySem.W.kia_one PySem.W.kitx_float I.kIn True.intro e (fun z=>nomatch z) h
 | @lst a xs ea =>
  cases (show u=Value.ref a from rx)
  obtain ⟨_,_,n,_,h1⟩:=(show b_B X.prog X.w H s.heap a (.lst xs) from I.hok a _ ea)
  exact PySem.W.kia_one PySem.W.kitx_list I.kIn ⟨_,h1,rfl⟩ e (fun z=>nomatch z) h
 | @frz a ob xs ea =>
  cases (show u=Value.ref a from rx)
  obtain ⟨_,_,_,n,_,h1⟩:=(show b_B X.prog X.w H s.heap a (.frz ob (.lst xs)) from I.hok a _ ea)
  exact PySem.W.kia_one PySem.W.kitx_list I.kIn ⟨_,h1,rfl⟩ e (fun z=>nomatch z) h
 | @tup a xs ea =>
  cases (show u=Value.ref a from rx)
  obtain ⟨_,_,_,p⟩:=(show b_B X.prog X.w H s.heap a (.tup xs) from I.hok a _ ea)
  obtain ⟨o,h1,h2,_⟩:=p
  exact PySem.W.kia_one PySem.W.kitx_tuple I.kIn ⟨o,h1,h2⟩ e (fun z=>nomatch z) h
 | @dK a kvs ea =>
  cases (show u=Value.ref a from rx)
  obtain ⟨_,_,vs,_,p⟩:=(show b_B X.prog X.w H s.heap a (.dK kvs) from I.hok a _ ea)
  obtain ⟨o,es,ep,h1,h2,_⟩:=p
  exact PySem.W.kia_one PySem.W.kitx_dict I.kIn ⟨o,h1,h2.1⟩ e (fun z=>nomatch z) h
 | @dT a kvs ea =>
  cases (show u=Value.ref a from rx)
  obtain ⟨_,_,xs,_,o,es,ep,h1,h2,_⟩:=(show b_B X.prog X.w H s.heap a (.dT kvs) from I.hok a _ ea)
  exact PySem.W.kia_one PySem.W.kitx_dict I.kIn ⟨o,h1,h2.1⟩ e (fun z=>nomatch z) h
 | @ins a C dx fs ea cl ha hn htk hm =>
  cases (show u=Value.ref a from rx)
  obtain ⟨mA,O,_⟩:=f_W I.hok ea
  obtain ⟨od,J,_⟩:=O.look
  exact PySem.W.kia_one (PySem.W.kitx_own (cl.get _) cl.hd ha hn htk hm) I.kIn J e (fun z=>nomatch z) h
end
structure Room (k:Nat) (A:Around):Prop where
 hd:A.handled=none
 dp:A.depth+3*k+5 < recursionLimit
 un:A.units+16*k+200 < cLine
theorem Room.mono {j k:Nat} {A:Around} (r:Room k A) (h:j<=k):Room j A:=⟨r.hd,by have:=r.dp; omega,by have:=r.un; omega⟩
theorem Room.mo {j k:Nat} {A:Around} (r:Room k A) (h:j<=k:=by first | decide | omega):Room j A:=r.mono h
theorem Room.deeper {k:Nat} {A:Around} (r:Room (k+1) A) (env:Env):Room k (A.deeper env) :=
 ⟨r.hd,by have:=r.dp; show A.depth+1+3*k+5 < _; omega,by have:=r.un; show A.units+3+16*k+200 < _; omega⟩
theorem Room.in1 {k:Nat} {A:Around} (r:Room (k+1) A):Room k A.in1 :=
 ⟨r.hd,by have:=r.dp; show A.depth+3*k+5 < _; omega,by have:=r.un; show A.units+1+16*k+200 < _; omega⟩
theorem i_D {A:Around} {C:Addr} {us:List Value} {kw:List (Str × Value)}:(A.under (.builtin "type.__call__" ⟨.ref C :: us,kw⟩)).depth=A.depth+1:=by
 first | rfl | simp [Around.under,Code.weight,Code.isCreation,Code.isGuard,Code.isCaller,Code.frames,Code.isFrame,guardIds]
theorem i_E {A:Around} {C:Addr} {us:List Value} {kw:List (Str × Value)}:(A.under (.builtin "type.__call__" ⟨.ref C :: us,kw⟩)).units=A.units+1:=by
 first | rfl | simp [Around.under,Code.cUnits,Code.frames,Code.isFrame]
theorem Room.make {k:Nat} {A:Around} (r:Room (k+1) A) (C:Addr) (us:List Value) (kw:List (Str × Value)):Room k (A.under (.builtin "type.__call__" ⟨.ref C :: us,kw⟩)) :=
 ⟨r.hd,by have:=r.dp; rw [i_D]; omega,by have:=r.un; rw [i_E]; omega⟩
theorem Room.depth {k:Nat} {A:Around} (r:Room k A):A.depth < recursionLimit:=by have:=r.dp; omega
theorem Room.units {k:Nat} {A:Around} (r:Room k A):A.units+64 < cLine:=by have:=r.un; omega
noncomputable def tNil:TA:=fun _ H Q=>Q [] H
noncomputable def b_O (ta:TE) (tr:TA):TA:=fun σ H Q=>ta σ H fun x H1=>tr σ H1 fun xs H2=>Q (x :: xs) H2
section
variable {X:Cx} {e:Expr} {es:List Expr} {te:TE} {t:TA} {pos:Pos}
theorem a_B:PA X [] tNil:=fun _ _ _ _ H Q I h=>Calls.spliced_nil ⟨[],H,I,.nil,h⟩
theorem a_A (ha:PE X e te) (hr:PA X es t) (hs:starEach (e :: es) X.env=(false,eval e X.env) :: starEach es X.env:=by rfl):PA X (e :: es) (b_O te t):=by
 intro pos pins s σ H Q I h
 rw [hs]
 show wpAny _ _ (spliced ((false,eval e X.env) :: backTo pos (starEach es X.env))) _ _ s
 refine Calls.spliced_cons (thn (ha pins s σ H _ I h) fun u s1 ⟨x,H1,I1,r1,q1⟩=>?_)
 exact thn (hr pos pins s1 σ H1 _ I1 q1) fun us s2 ⟨xs,H2,I2,r2,q2⟩=>⟨x :: xs,H2,I2,.cons r1 r2,q2⟩
noncomputable def tTup (t:TA):TE:=fun σ H Q=>t σ H fun xs H1=>xs.length<=sizeLine/\∀ p,H1 p=none->Q (.ref p) (upd H1 p (.tup xs))
noncomputable def tLst (t:TA):TE:=fun σ H Q=>t σ H fun xs H1=>xs.length<=sizeLine/\∀ p,H1 p=none->Q (.ref p) (upd H1 p (.lst xs))
theorem d_J {x1} (h:PA X es t):PE X (.Tuple es x1 pos) (tTup t):=by
 intro pins s σ H Q I hq
 refine wpAny_Tuple_spliced (thn (h pos pins s σ H _ I hq) fun us s1 ⟨xs,H1,I1,r,z,q⟩=>⟨by rw [← r.length]; exact z,?_⟩)
 have hf:H1 s1.heap.objs.size=none:=I1.hok.fresh (Nat.le_refl _)
 refine ⟨.ref s1.heap.objs.size,upd H1 s1.heap.objs.size (.tup xs),I1.laid (t':=s1.toks) (fun b u e=>Heap.get?_push_of_some _ e) (Nat.le_refl _) ?_,rfl,q _ hf⟩
 exact ⟨z,us,r,⟨_,Heap.get?_push_size _ rfl,rfl,_,rfl⟩⟩
theorem c_L (h:PA X es t):PE X (.List es pos) (tLst t):=by
 intro pins s σ H Q I hq
 refine wpAny_List_spliced (thn (h pos pins s σ H _ I hq) fun us s1 ⟨xs,H1,I1,r,z,q⟩=>⟨by rw [← r.length]; exact z,?_⟩)
 have hf:H1 s1.heap.objs.size=none:=I1.hok.fresh (Nat.le_refl _)
 refine ⟨.ref s1.heap.objs.size,upd H1 s1.heap.objs.size (.lst xs),I1.laid (t':=s1.toks) (fun b u e=>Heap.get?_push_of_some _ e) (Nat.le_refl _) ?_,rfl,q _ hf⟩
 exact ⟨z,us,0,r,Heap.get?_push_size _ rfl⟩
end
noncomputable abbrev Sp:=List V->Hp->VK->XK->Prop
noncomputable abbrev CXT:=List Env->Hp->Shared->XK->Value->Shared->Prop
structure Env0 (P:Program) (w:World) (K:Frag) (mg:Str->Option Value) (base:Heap) (A:Around) (outer:List Env) (s:Shared) (H:Hp):Prop where
 frames:A.frames=some outer
 mod:Mod K mg base
 bs:∀ b o,base.get? b=some o->s.heap.get? b=some o/\H b=none
 bsz:base.objs.size<=s.heap.objs.size
 funs:s.heap.FunFrames base outer
 frf:∀ b∈frs outer,H b=none
 hok:HOk P w H s.heap
 bare:AllBare s.gens
noncomputable def CE (outer:List Env) (P:Program) (w:World) (H:Hp) (s:Shared) (Q:VK) (u:Value) (s':Shared):Prop :=
 ∃ v H',s'.os=s.os/\AllBare s'.gens/\Un (frs outer) [] H H' s.heap s'.heap/\HOk P w H' s'.heap/\RelV v u/\Q v H'
noncomputable def CR (CX:CXT) (outer:List Env) (P:Program) (w:World) (H:Hp) (s:Shared) (Q:VK) (E:XK) (r:Result) (s':Shared):Prop :=
 match r with
 | .ok (.ret u)=>CE outer P w H s Q u s'
 | .ok _=>False
 | .error e=>CX outer H s E e s'
structure FnOk (P:Program) (w:World) (K:Frag) (mg:Str->Option Value) (base:Heap) (CX:CXT) (k:Nat) (f:Addr) (fd:FuncData) (ps:List Str) (sp:Sp):Prop where
 len:∀ vs H Q E,sp vs H Q E->vs.length=ps.length
 run:∀ (A:Around) (outer:List Env) (s:Shared) (H:Hp) (args:Args) (us:List Value) (vs:List V) (Q:VK) (E:XK),Room k A->Env0 P w K mg base A outer s H->BindsTo s fd args (ps.zip us)->Vals vs us->sp vs H Q E ->
  codeAny (model P w) A (.call (.ref f) args) (CR CX outer P w H s Q E) s
theorem FnOk.mono {P:Program} {w:World} {K:Frag} {mg:Str->Option Value} {base:Heap} {CX:CXT} {j k:Nat} {f:Addr} {fd:FuncData} {ps:List Str} {sp:Sp} (F:FnOk P w K mg base CX j f fd ps sp) (h:j<=k) :
  FnOk P w K mg base CX k f fd ps sp:=⟨F.len,fun A outer s H args us vs Q E hr=>F.run A outer s H args us vs Q E (hr.mono h)⟩
theorem FnOk.imp {P:Program} {w:World} {K:Frag} {mg:Str->Option Value} {base:Heap} {CX:CXT} {k:Nat} {f:Addr} {fd:FuncData} {ps:List Str} {sp sp':Sp} (F:FnOk P w K mg base CX k f fd ps sp)
  (h:∀ vs H Q E,sp' vs H Q E->sp vs H Q E):FnOk P w K mg base CX k f fd ps sp' :=
 ⟨fun vs H Q E q=>F.len vs H Q E (h _ _ _ _ q),fun A outer s H args us vs Q E hr he hb hv hs=>F.run A outer s H args us vs Q E hr he hb hv (h _ _ _ _ hs)⟩
theorem Env0.make {P:Program} {w:World} {K:Frag} {mg:Str->Option Value} {base:Heap} {A:Around} {outer:List Env} {s:Shared} {H:Hp} (e:Env0 P w K mg base A outer s H) (C:Addr) (us:List Value) (kw:List (Str × Value)) :
  Env0 P w K mg base (A.under (.builtin "type.__call__" ⟨.ref C :: us,kw⟩)) outer s H:=⟨by first | exact e.frames | (simpa [Around.under,Code.envs,Code.isFrame,pushEnvs] using e.frames),e.mod,e.bs,e.bsz,e.funs,e.frf,e.hok,e.bare⟩
theorem Env0.in1 {P:Program} {w:World} {K:Frag} {mg:Str->Option Value} {base:Heap} {A:Around} {outer:List Env} {s:Shared} {H:Hp} (e:Env0 P w K mg base A outer s H) :
  Env0 P w K mg base A.in1 outer s H:=⟨e.frames,e.mod,e.bs,e.bsz,e.funs,e.frf,e.hok,e.bare⟩
section
variable {X:Cx} {pins:List (Addr × Obj)} {σ:St} {H:Hp} {s s':Shared}
theorem Inv.env0 (I:Inv X pins σ H s):Env0 X.prog X.w X.K X.mg X.base X.A X.stack s H :=
 ⟨I.ok.frames,I.ok.mod,I.bs,Nat.le_trans I.ok.bsz I.sz,I.stack,I.stkFree,I.hok,I.bare⟩
theorem Inv.after {Q:VK} {u:Value} (I:Inv X pins σ H s) (h:CE X.stack X.prog X.w H s Q u s'):EP X pins σ Q u s':=by
 obtain ⟨v,H',os,bare,un,hok,r,q⟩:=h
 obtain ⟨hh,g,d,t,os'⟩:=s'
 obtain rfl:os'=s.os:=os
 exact ⟨v,H',I.call (h':=hh) (g':=g) (d':=d) (t':=t) (ch:=[]) un hok bare (fun b z=>absurd z (by simp)),r,q⟩
end
noncomputable def d_Q (sp:Sp) (dvs:List V) (E:XK) (t:TA):TE:=fun σ H Q=>t σ H fun vs H1=>sp (vs++dvs) H1 Q E
noncomputable def j_j (C:Addr) (m:Str) (sp:Sp) (dvs:List V) (E:XK) (ta:TE) (t:TA):TE:=fun σ H Q=>ta σ H fun x H1=>∃ a dx fs,x=.ref a/\H1 a=some (.ins C dx fs)/\fs.lookup m=none /\
 t σ H1 fun vs H2=>sp (x :: (vs++dvs)) H2 Q E
noncomputable def k_D (C:Addr) (sp:Sp) (dvs:List V) (E:XK) (t:TA):TE:=fun σ H Q=>t σ H fun vs H1=>∀ x dx,H1 x=none->H1 dx=none->dx≠x ->
 sp (.ref x :: (vs++dvs)) (upd (upd H1 dx (.own x)) x (.ins C dx [])) (fun v H2=>v=.non/\Q (.ref x) H2) E
noncomputable def a_Z (K:Frag) (fd:FuncData) (ps:List Str) (ds:List Value):Prop :=
 ∀ (s:Shared) (us:List Value),K.In s.heap->(us++ds).length=ps.length->BindsTo s fd ⟨us,[]⟩ (ps.zip (us++ds))
theorem a_Z.all {K:Frag} {fd:FuncData} {ps:List Str} (h:∀ us:List Value,us.length=ps.length->bindArgs fd ⟨us,[]⟩=pure (ps.zip us)):a_Z K fd ps []:=fun s us _ hl=>by
 rw [List.append_nil] at hl ⊢
 exact .of_eq (h us hl)
noncomputable def e_A (CX:CXT) (X:Cx) (E:XK):Prop:=∀ (pins:List (Addr × Obj)) (σ:St) (H:Hp) (s:Shared) (e:Value) (s':Shared),Inv X pins σ H s->CX X.stack H s E e s'->X.xe e s'
section
variable {X:Cx} {CX:CXT} {k:Nat} {f C:Addr} {fd:FuncData} {ps:List Str} {sp:Sp} {dvs:List V} {ds:List Value} {E:XK} {x m:Str} {p pos apos:Pos} {e o:Expr} {es:List Expr} {ta:TE} {t:TA}
theorem k_E {pins:List (Addr × Obj)} {σ:St} {H:Hp} {s:Shared} {Q:VK} {us:List Value} {vs:List V} (F:FnOk X.prog X.w X.K X.mg X.base CX k f fd ps sp) (hr:Room k X.A) (hb:a_Z X.K fd ps ds) (hd:Vals dvs ds) (hx:e_A CX X E)
  (I:Inv X pins σ H s) (r:Vals vs us) (h:sp (vs++dvs) H Q E):wpAny (model X.prog X.w) X.A (call (.ref f) us) (EP X pins σ Q) X.xe s:=by
 have r2:Vals (vs++dvs) (us++ds):=r.append hd
 have hl:(us++ds).length=ps.length:=by rw [← r2.length]; exact F.len _ _ _ _ h
 refine wpAny_call (codeAny_mono (F.run X.A X.stack s H ⟨us,[]⟩ (us++ds) (vs++dvs) Q E hr I.env0 (hb s us I.kIn hl) r2 h) fun r s' hq=>?_)
 cases r with
 | error e=>exact hx pins σ H s e s' I hq
 | ok fl =>
  cases fl with
  | ret u=>exact I.after hq
  | next=>exact False.elim hq
  | brk=>exact False.elim hq
  | cont=>exact False.elim hq
theorem a_K (F:FnOk X.prog X.w X.K X.mg X.base CX k f fd ps sp) (hr:Room k X.A) (hg:Gl X x) (hm:X.mg x=some (.ref f)) (hk:PySem.W.keepIn X.K (.ref f)=true) (hb:a_Z X.K fd ps ds) (hd:Vals dvs ds) (hx:e_A CX X E)
  (ha:PA X (e :: es) t) (hdb:(x == ("__debug__" : Str))=false:=by decide) (he:starEach (e :: es) X.env=(false,eval e X.env) :: starEach es X.env:=by rfl) (hpl:(backTo pos (starEach es X.env)).any (·.1)=false:=by rfl) :
  PE X (.Call (.Name x p) (e :: es) [] pos) (d_Q sp dvs E t):=by
 intro pins s σ H Q I h
 refine wpAny_Call_Name_kw (c_R I hg hm ?_ hdb)
 refine PySem.W.callWith_K (h₀:=X.base) I.ok.mod.kin hk (thn (ha pos pins s σ H _ I h) fun us s1 ⟨vs,H1,I1,r,q⟩=>⟨I1.kIn,?_⟩) he hpl
 exact k_E F hr hb hd hx I1 r q
theorem e_p {pl:Sem Bool} (he:PE X o ta) (c:Cls X.K C) (hm:Meth X.K C m f) (F:FnOk X.prog X.w X.K X.mg X.base CX k f fd ps sp) (hr:Room k X.A) (hb:a_Z X.K fd ps ds) (hd:Vals dvs ds) (hx:e_A CX X E) (ha:PA X (e :: es) t)
  (hst:starEach (e :: es) X.env=(false,eval e X.env) :: starEach es X.env:=by rfl) (hpl:(backTo pos (starEach es X.env)).any (·.1)=false:=by rfl)
  (ht:eval (.Call (.Attribute o m apos) (e :: es) [] pos) X.env=(do
   let ov ← eval o X.env
   standAt apos.atName
   let (f,first) ← holding [ov] (getMethod ov m pl)
   callWith pos f first (backTo pos (starEach (e :: es) X.env)) (backToKw pos (keywordEach [] X.env))):=by rfl) :
  PE X (.Call (.Attribute o m apos) (e :: es) [] pos) (j_j C m sp dvs E ta t):=by
 intro pins s σ H Q I h
 refine PySem.W.methodCall_KW (pl:=pl) (thn (he pins s σ H _ I h) fun u s1 ⟨x,H1,I1,rx,a,dx,fs,ex,ea,l,q⟩=>?_) ht
 subst ex
 obtain rfl:u=Value.ref a:=rx
 refine i_B I1 ea c hm l ?_
 refine PySem.W.callWith_K (first:=[.ref a]) (h₀:=X.base) I.ok.mod.kin hm.kp (thn (ha pos pins s1 σ H1 _ I1 q) fun us s2 ⟨vs,H2,I2,r,q2⟩=>⟨I2.kIn,?_⟩) hst hpl
 exact k_E (us:=.ref a :: us) (vs:=.ref a :: vs) F hr hb hd hx I2 (.cons rfl r) q2
structure Mk (K:Frag) (C f:Addr):Prop where
 makes:PySem.W.makesIn K C=true
 init:PySem.W.findIn K (.ref C) "__init__" = some (some (.ref f))
 fn:PySem.W.isFn K (.ref f)=true
 kp:PySem.W.keepIn K (.ref C)=true
theorem k_F {pins:List (Addr × Obj)} {σ:St} {H:Hp} {s:Shared} {Q:VK} {us:List Value} {vs:List V} (M:Mk X.K C f) (F:FnOk X.prog X.w X.K X.mg X.base CX k f fd ps sp) (hr:Room (k+1) X.A) (hb:a_Z X.K fd ps ds) (hd:Vals dvs ds)
  (hx:e_A CX X E) (I:Inv X pins σ H s) (r:Vals vs us)
  (h:∀ x dx,H x=none->H dx=none->dx≠x->sp (.ref x :: (vs++dvs)) (upd (upd H dx (.own x)) x (.ins C dx [])) (fun v H2=>v=.non/\Q (.ref x) H2) E) :
  wpAny (model X.prog X.w) X.A (call (.ref C) us) (EP X pins σ Q) X.xe s:=by
 have hq:=h (s.heap.objs.size+1) s.heap.objs.size (I.hok.fresh (Nat.le_succ _)) (I.hok.fresh (Nat.le_refl _)) (Nat.ne_of_lt (Nat.lt_succ_self _))
 have I2:=Inv.made (C:=C) I
 have r2:Vals (V.ref (s.heap.objs.size+1) :: (vs++dvs)) (Value.ref (s.heap.objs.size+1) :: (us++ds)):=.cons rfl (r.append hd)
 have hl:(Value.ref (s.heap.objs.size+1) :: us++ds).length=ps.length:=by
  have e:=r2.length
  rw [F.len _ _ _ _ hq] at e
  exact e.symm
 refine wpAny_call (k_B (f:=f) I.kIn M.makes M.init (beq_iff_eq.mp M.fn) (codeAny_mono (F.run _ X.stack _ _ ⟨Value.ref (s.heap.objs.size+1) :: us,[]⟩ (Value.ref (s.heap.objs.size+1) :: (us++ds)) _ _ E (hr.make C us [])
  (I2.env0.make C us []) (hb _ (Value.ref (s.heap.objs.size+1) :: us) I2.kIn hl) r2 hq) fun r s' hq'=>?_))
 cases r with
 | error e=>exact hx pins σ _ _ e s' I2 hq'
 | ok fl =>
  cases fl with
  | ret u =>
   obtain ⟨v,H',I3,rv,ev,q3⟩:=I2.after hq'
   subst ev
   exact ⟨rv,⟨V.ref (s.heap.objs.size+1),H',I3,rfl,q3⟩⟩
  | next=>exact False.elim hq'
  | brk=>exact False.elim hq'
  | cont=>exact False.elim hq'
theorem m_E (M:Mk X.K C f) (F:FnOk X.prog X.w X.K X.mg X.base CX k f fd ps sp) (hr:Room (k+1) X.A) (hg:Gl X x) (hm:X.mg x=some (.ref C)) (hb:a_Z X.K fd ps ds) (hd:Vals dvs ds) (hx:e_A CX X E)
  (ha:PA X (e :: es) t) (hdb:(x == ("__debug__" : Str))=false:=by decide) (he:starEach (e :: es) X.env=(false,eval e X.env) :: starEach es X.env:=by rfl) (hpl:(backTo pos (starEach es X.env)).any (·.1)=false:=by rfl) :
  PE X (.Call (.Name x p) (e :: es) [] pos) (k_D C sp dvs E t):=by
 intro pins s σ H Q I h
 refine wpAny_Call_Name_kw (c_R I hg hm ?_ hdb)
 refine PySem.W.callWith_K (h₀:=X.base) I.ok.mod.kin M.kp (thn (ha pos pins s σ H _ I h) fun us s1 ⟨vs,H1,I1,r,q⟩=>⟨I1.kIn,?_⟩) he hpl
 exact k_F M F hr hb hd hx I1 r q
end
noncomputable def PK (X:Cx) (kws:List Keyword) (t:TA):Prop :=
 ∀ (pos:Pos) (pins:List (Addr × Obj)) (s:Shared) (σ:St) (H:Hp) (Q:List V->Hp->Prop),Inv X pins σ H s->t σ H Q->wpAny (model X.prog X.w) X.A (evalAll ((backToKw pos (keywordEach kws X.env)).map (·.2))) (AP X pins σ Q) X.xe s
section
variable {X:Cx} {CX:CXT} {k:Nat} {f C:Addr} {fd:FuncData} {ps ks:List Str} {sp:Sp} {E:XK} {x m:Str} {p pos apos kpos:Pos} {e o:Expr} {es:List Expr} {kws:List Keyword} {te ta:TE} {t tk:TA} {nm:Option Str}
theorem o_k:PK X [] tNil:=fun _ _ _ _ H Q I h=>wpAny_evalAll_nil ⟨[],H,I,.nil,h⟩
theorem m_F (ha:PE X e te) (hr:PK X kws t):PK X (⟨nm,e,kpos⟩ :: kws) (b_O te t):=by
 intro pos pins s σ H Q I h
 show wpAny _ _ (evalAll ((do let v ← eval e X.env; standAt pos; pure v) :: (backToKw pos (keywordEach kws X.env)).map (·.2))) _ _ s
 refine wpAny_evalAll_cons (wpAny_bind (thn (ha pins s σ H _ I h) fun u s1 ⟨x,H1,I1,r1,q1⟩=>wpAny_bind (wpAny_standAt (wpAny_pure ?_))))
 exact thn (hr pos pins s1 σ H1 _ I1 q1) fun us s2 ⟨xs,H2,I2,r2,q2⟩=>⟨x :: xs,H2,I2,.cons r1 r2,q2⟩
variable {g:List Value->List Value->List Value} {gV:List V->List V->List V}
end
structure a_Q (N P:List Str) (sc:Scope):Prop where
 kind:sc.kind=.function
 co:sc.isCoroutine=false
 gen:sc.isGenerator=false
 nd:N.Nodup
 pre:N.take P.length=P
 par:∀ x∈P,sc.names.lookup x=some .local\/sc.names.lookup x=some .cell
 nofree:∀ y∈sc.names,y.2≠.free
theorem g_P {kindOf:Str->Option NameKind} {x:Str}:∀ {binds:List (Str × Value)} {m:Str->Option Value},(∀ v,(x,v) ∉ binds)->bindL kindOf binds m x=m x
 | [],_,_=>rfl
 | (n,v) :: r,m,h=>by
  unfold bindL
  rw [g_P fun w hw=>h w (List.mem_cons_of_mem _ hw)]
  split
  ·have:x≠n:=by rintro rfl; exact h v List.mem_cons_self
   simp [this]
  ·rfl
theorem g_Q {kindOf:Str->Option NameKind} {x:Str}:∀ {binds:List (Str × Value)} {m:Str->Option Value},(∀ v,(x,v) ∉ binds)->bindC kindOf binds m x=m x
 | [],_,_=>rfl
 | (n,v) :: r,m,h=>by
  unfold bindC
  rw [g_Q fun w hw=>h w (List.mem_cons_of_mem _ hw)]
  split
  ·rfl
  ·have:x≠n:=by rintro rfl; exact h v List.mem_cons_self
   simp [this]
theorem g_R {kindOf:Str->Option NameKind} {x:Str} {v:Value}:∀ {P:List Str} {vs:List Value} {i:Nat} {m:Str->Option Value},P.Nodup->P[i]?=some x->vs[i]?=some v->kindOf x=some .local ->
  bindL kindOf (P.zip vs) m x=some v
 | [],_,_,_,_,h,_,_=>by simp at h
 | _ :: _,[],_,_,_,_,h,_=>by simp at h
 | p :: P,w :: vs,0,m,nd,h1,h2,hk=>by
  simp at h1 h2; subst h1; subst h2
  show bindL kindOf ((p,w) :: P.zip vs) m p=_
  unfold bindL
  rw [g_P fun v hv=>(List.nodup_cons.mp nd).1 (List.of_mem_zip hv).1,if_pos hk]
  simp
 | p :: P,w :: vs,i+1,m,nd,h1,h2,hk=>by
  show bindL kindOf ((p,w) :: P.zip vs) m x=_
  unfold bindL
  exact g_R (i:=i) (List.nodup_cons.mp nd).2 (by simpa using h1) (by simpa using h2) hk
theorem g_S {kindOf:Str->Option NameKind} {x:Str} {v:Value}:∀ {P:List Str} {vs:List Value} {i:Nat} {m:Str->Option Value},P.Nodup->P[i]?=some x->vs[i]?=some v->kindOf x≠some .local ->
  bindC kindOf (P.zip vs) m x=some v
 | [],_,_,_,_,h,_,_=>by simp at h
 | _ :: _,[],_,_,_,_,h,_=>by simp at h
 | p :: P,w :: vs,0,m,nd,h1,h2,hk=>by
  simp at h1 h2; subst h1; subst h2
  show bindC kindOf ((p,w) :: P.zip vs) m p=_
  unfold bindC
  rw [g_Q fun v hv=>(List.nodup_cons.mp nd).1 (List.of_mem_zip hv).1,if_neg hk]
  simp
 | p :: P,w :: vs,i+1,m,nd,h1,h2,hk=>by
  show bindC kindOf ((p,w) :: P.zip vs) m x=_
  unfold bindC
  exact g_S (i:=i) (List.nodup_cons.mp nd).2 (by simpa using h1) (by simpa using h2) hk
noncomputable def start (N:List Str) (vs:List V):St:=vs.map some++List.replicate (N.length - vs.length) none
noncomputable def cxOf (CX:CXT) (P:Program) (w:World) (K:Frag) (mg:Str->Option Value) (base:Heap) (N:List Str) (qual:Str) (scope:Scope) (f:Addr) (cd:Value) (A:Around) (outer:List Env) (s:Shared) (H:Hp) (E:XK):Cx where
 prog:=P
 w:=w
 K:=K
 mg:=mg
 base:=base
 A:=A.deeper (envOfC qual scope s.heap.objs.size f cd)
 N:=N
 s₀:=s
 H₀:=H
 env:=envOfC qual scope s.heap.objs.size f cd
 outer:=outer
 stack:=envOfC qual scope s.heap.objs.size f cd :: outer
 ex:=[]
 calm:=true
 fn:=fun _=>true
 pn:=[]
 xe:=fun e s'=>wpAny (model P w) (A.deeper (envOfC qual scope s.heap.objs.size f cd)) (leaving (envOfC qual scope s.heap.objs.size f cd) e) (fun _ s''=>CX outer H s E e s'') (fun e' s''=>CX outer H s E e' s'') s'
theorem h_X {sc:Scope} {n:Nat} {x:Str} (h:sc.names.lookup x=some .cell):∃ c,(cellsFrom n sc.names []).lookup x=some c:=by
 have q:=PySem.W.cellsFrom_some sc.names n [] (.inl h)
 exact Option.isSome_iff_exists.mp q
theorem g_T {CX:CXT} {P:Program} {w:World} {K:Frag} {mg:Str->Option Value} {base:Heap} {N ps:List Str} {qual:Str} {scope:Scope} {f:Addr} {cd:Value} {A:Around} {outer:List Env} {s s1:Shared} {H:Hp} {E:XK} {us:List Value} {vs:List V}
  (S:a_Q N ps scope) (hd:A.handled=none) (e0:Env0 P w K mg base A outer s H) (hl:vs.length=ps.length) (r:Vals vs us)
  (x:InCallC s s.heap.objs.size (bindL (envOfC qual scope s.heap.objs.size f cd).kindOf (ps.zip us) fun _=>none) (cellsFrom (s.heap.objs.size+1) scope.names []) (bindC (envOfC qual scope s.heap.objs.size f cd).kindOf (ps.zip us) fun _=>none) s1) :
  Inv (cxOf CX P w K mg base N qual scope f cd A outer s H E) [] (start N vs) H s1:=by
 have hpl:ps.length<=N.length:=by have:=congrArg List.length S.pre; rw [List.length_take] at this; omega
 obtain ⟨h1,tk,rfl,hk⟩:=x.done
 have noA:∀ b:Addr,b ∉ (cxOf CX P w K mg base N qual scope f cd A outer s H E).ex:=fun b z=>absurd (show b∈([]:List Addr) from z) (by simp)
 refine ⟨⟨e0.mod,S.kind,rfl,rfl,Nat.le_refl _,fun y z c h1 h2=>?_,fun y hy=>?_,fun y c _ h=>?_,fun _=>hd,Around.frames_deeper e0.frames,.inr ⟨rfl,rfl⟩,fun b z=>absurd z (noA b),e0.bs,e0.bsz,fun b _ _=>noA b,fun b z=>absurd z (noA b),e0.funs,e0.frf⟩,
  rfl,e0.bare,Un.kept hk,⟨_,x.toInCall.ns,fun i y v h1 h2 h3=>?_⟩,fun y c h=>⟨_,x.cell y c h⟩,e0.hok.fresh (Nat.le_refl _),fun y c h=>?_,fun p hp=>absurd (show p∈([]:List (Addr × Obj)) from hp) (by simp),e0.hok.kept hk,?_⟩
 ·exact name_of_addr x.apart (PySem.mem_of_lookup h1) (PySem.mem_of_lookup h2)
 ·have hy:scope.names.lookup y=some .cell\/scope.names.lookup y=some .free:=hy
  rcases hy with hy | hy
  ·exact h_X hy
  ·exact absurd rfl (S.nofree _ (PySem.mem_of_lookup hy))
 ·exact Nat.le_of_lt (x.above y c (PySem.mem_of_lookup h))
 ·have hi:i < vs.length:=by
   unfold start at h2
   by_cases hi:i < vs.length
   ·exact hi
   ·rw [List.getElem?_append_right (by simpa using hi)] at h2
    rw [List.getElem?_replicate] at h2
    split at h2 <;> cases h2
  have ha:vs[i]?=some v:=by
   unfold start at h2
   rw [List.getElem?_append_left (by simpa using hi),List.getElem?_map] at h2
   cases e:vs[i]? with
   | none=>rw [e] at h2; cases h2
   | some a=>rw [e] at h2; cases h2; rfl
  obtain ⟨u,hu,rv⟩:=r.get ha
  have hp:ps[i]?=some y:=by
   rw [← S.pre,List.getElem?_take_of_lt (by omega)]; exact h1
  have ndP:ps.Nodup:=by rw [← S.pre]; exact S.nd.sublist (List.take_sublist _ _)
  refine ⟨u,rv,?_⟩
  rcases S.par y (List.mem_of_getElem? hp) with k | k
  ·exact .inl ⟨k,g_R ndP hp hu k⟩
  ·obtain ⟨c,e⟩:=h_X (n:=s.heap.objs.size+1) k
   refine .inr ⟨.inl k,c,e,?_⟩
   have q:=x.cell y c e
   rw [g_S ndP hp hu (by show scope.names.lookup y≠_; rw [k]; decide)] at q
   exact q
 ·exact e0.hok.fresh (Nat.le_of_lt (x.above y c (PySem.mem_of_lookup h)))
 ·unfold start
  show _=N.length
  rw [List.length_append,List.length_map,List.length_replicate]
  omega
theorem j_k {CX:CXT} {P:Program} {w:World} {K:Frag} {mg:Str->Option Value} {base:Heap} {k:Nat} {f:Addr} {name qual:Str} {params:Arguments} {body:List Stmt} {scope:Scope} {dV kV doc pm cdv ct oc:Value} {an od:Option Addr}
  {osl:Array (Option Value)} {N ps:List Str} {sp:Sp} (lk:K.lookup f=some ⟨oc,od,.func (PySem.W.fnOf name qual params body scope dV kV doc pm an cdv ct),osl⟩) (hcd:PySem.W.codeIn K cdv qual=true) (S:a_Q N ps scope)
  (len:∀ vs H Q E,sp vs H Q E->vs.length=ps.length)
  (hbody:∀ (A:Around) (outer:List Env) (s:Shared) (H:Hp) (vs:List V) (Q:VK) (E:XK),Room k (A.deeper (envOfC qual scope s.heap.objs.size f cdv))->sp vs H Q E ->
   ∃ t,PSs (cxOf CX P w K mg base N qual scope f cdv A outer s H E) body t/\t { nx:=fun _ H'=>Q .non H',rt:=Q } (start N vs) H) :
  FnOk P w K mg base CX (k+1) f (PySem.W.fnOf name qual params body scope dV kV doc pm an cdv ct) ps sp:=by
 refine ⟨len,fun A outer s H args us vs Q E hr e0 hb r hsp=>?_⟩
 have hl:=len _ _ _ _ hsp
 have KX:K.In s.heap:=e0.mod.kin.keeps fun b o e=>(e0.bs b o e).1
 have lim:s.heap.NoLimit:=e0.mod.nolimit.keeps fun b o e=>(e0.bs b o e).1
 have hkind:∀ y∈ps.zip us,scope.names.lookup y.1=some .local\/(scope.names.lookup y.1=some .cell/\((cellsFrom (s.heap.objs.size+1) scope.names []).lookup y.1).isSome=true):=fun ⟨n,v⟩ hy=>by
  rcases S.par n (List.of_mem_zip hy).1 with q | q
  ·exact .inl q
  ·exact .inr ⟨q,PySem.W.cellsFrom_some _ _ _ (.inl q)⟩
 refine codeAny_call_function hr.depth (KX _ _ lk) rfl S.co S.gen rfl (PySem.W.codeRec_of KX hcd) (hb _ _ _ _ ?_)
 refine wpAny_newFunctionEnv_cells S.kind hkind fun env he s1 x=>?_
 subst he
 refine ⟨lim.keeps x.toInCall.keep,codeAny_func ?_⟩
 obtain ⟨t,ht,hq⟩:=hbody A outer s H vs Q E (hr.deeper _) hsp
 have I:Inv (cxOf CX P w K mg base N qual scope f cdv A outer s H E) [] (start N vs) H s1:=g_T S hr.hd e0 hl r x
 refine wpAny_mono (ht [] s1 (start N vs) H _ I hq) (fun fl s' hs=>?_) fun e s' hs=>hs
 have fin:∀ {σ':St} {H':Hp} {v:V} {u:Value},Inv (cxOf CX P w K mg base N qual scope f cdv A outer s H E) [] σ' H' s'->RelV v u->Q v H'->CE outer P w H s Q u s' :=
  fun {σ' H' v u} J rv q=>⟨v,H',J.os,J.bare,J.base,J.hok,rv,q⟩
 cases fl with
 | ret u =>
  obtain ⟨v,σ',H',J,rv,q⟩:=hs
  exact fin J rv q
 | next =>
  obtain ⟨σ',H',J,q⟩:=hs
  exact fin (v:=V.non) (u:=Value.none) J rfl q
 | brk =>
  obtain ⟨_,_,_,q⟩:=hs
  exact False.elim q
 | cont =>
  obtain ⟨_,_,_,q⟩:=hs
  exact False.elim q
section
variable {X:Cx} {x:Str} {p pos:Pos} {e:Expr} {es:List Expr} {t:TA} {id T:String} {r:List V->Hp->VK->Prop}
noncomputable def tCB (r:List V->Hp->VK->Prop) (t:TA):TE:=fun σ H Q=>t σ H fun vs H1=>r vs H1 Q
theorem a_J (hc:c_z X (.builtin id) r) (hg:Gl X x) (hm:X.mg x=none) (hv:bootBuiltins x=some (.builtin id)) (ha:PA X (e :: es) t) (hn:x ≠ "__name__" := by decide) (hdb:(x == ("__debug__" : Str))=false:=by decide)
  (he:starEach (e :: es) X.env=(false,eval e X.env) :: starEach es X.env:=by rfl) (hpl:(backTo pos (starEach es X.env)).any (·.1)=false:=by rfl):PE X (.Call (.Name x p) (e :: es) [] pos) (tCB r t):=by
 intro pins s σ H Q I h
 refine wpAny_Call_Name_kw (d_H I hg hm hv ?_ hn hdb)
 exact PyProof.Rows.callWith_builtin1 (thn (ha pos pins s σ H _ I h) fun us s1 ⟨vs,H1,I1,r1,q1⟩=>hc pins s1 σ H1 vs us Q I1 r1 q1) he hpl
theorem c_l (hc:c_z X (.type T) r) (hg:Gl X x) (hm:X.mg x=none) (hv:bootBuiltins x=some (.type T)) (ha:PA X (e :: es) t) (hn:x ≠ "__name__" := by decide) (hdb:(x == ("__debug__" : Str))=false:=by decide)
  (he:starEach (e :: es) X.env=(false,eval e X.env) :: starEach es X.env:=by rfl) (hpl:(backTo pos (starEach es X.env)).any (·.1)=false:=by rfl):PE X (.Call (.Name x p) (e :: es) [] pos) (tCB r t):=by
 intro pins s σ H Q I h
 refine wpAny_Call_Name_kw (d_H I hg hm hv ?_ hn hdb)
 exact PyProof.Rows.callWith_type1 (thn (ha pos pins s σ H _ I h) fun us s1 ⟨vs,H1,I1,r1,q1⟩=>hc pins s1 σ H1 vs us Q I1 r1 q1) he hpl
end
end L2
namespace HT
open PySem PyProof.Rows
section
open PySem.SeqAt
open PySem.AutoSeq1 (wpAny_loadPart')
open PySem.MeetsSeq PySem.MeetsSeq2 PySem.MeetsSeq3
end
section
variable {prog:Program} {w:World} {A:Around} {E:Value->Shared->Prop} {s:Shared}
noncomputable def sIx (n d:Nat):Option Int->Nat
 | none=>d
 | some v=>if v < 0 then (v+(n:Int)).toNat else min v.toNat n
theorem sIx_none (n d:Nat):sIx n d none=d:=rfl
theorem sIx_nat (n d k:Nat):sIx n d (some (k:Int))=min k n:=by
 show (if (k:Int) < 0 then ((k:Int)+(n:Int)).toNat else min (k:Int).toNat n)=min k n
 rw [if_neg (by omega),Int.toNat_natCast]
theorem o_l (n d:Nat) (hd:d<=n) (o:Option Int):sIx n d o<=n:=by
 cases o with
 | none=>exact hd
 | some v =>
  show (if v < 0 then (v+(n:Int)).toNat else min v.toNat n)<=n
  by_cases hv:v < 0
  ·rw [if_pos hv]; omega
  ·rw [if_neg hv]; exact Nat.min_le_right _ _
theorem j_l (v:Int) (n d:Nat):(if v < 0 then max (v+(n:Int)) 0 else min v (n:Int))=((sIx n d (some v):Nat):Int):=by
 show (if v < 0 then max (v+(n:Int)) 0 else min v (n:Int))=(((if v < 0 then (v+(n:Int)).toNat else min v.toNat n):Nat):Int)
 by_cases hv:v < 0
 ·simp only [if_pos hv]; omega
 ·simp only [if_neg hv]; omega
theorem i_F (lo hi:Option Int) (n:Nat):Builtin.Slice.sliceAdjust lo hi 1 (n:Int)=(((sIx n 0 lo:Nat):Int),((sIx n n hi:Nat):Int)):=by
 have h1:¬ ((1:Int) < 0):=by omega
 unfold Builtin.Slice.sliceAdjust
 simp only [h1,if_false]
 refine Prod.ext ?_ ?_
 ·cases lo with
  | none=>rfl
  | some v=>exact j_l v n 0
 ·cases hi with
  | none=>rfl
  | some v=>exact j_l v n n
theorem i_G (i j:Nat):Builtin.Slice.slicePlaces (i:Int) (j:Int) 1=j - i:=by
 unfold Builtin.Slice.slicePlaces
 have h1:(1:Int) > 0:=by omega
 simp only [h1,if_true,Int.ediv_one]
 split <;> omega
theorem g_i {v:Value} {o:Option Int} {Q:Option Int->Shared->Prop} (p:IsPart v o) (h:Q o s):wpAny (model prog w) A (Builtin.Slice.slicePartIndex v) Q E s:=by
 cases p with
 | none=>exact slicePart_none h
 | int i t=>exact slicePart_int h
theorem f_m {sl:Addr} {vl vu:Value} {lo hi:Option Int} {n:Nat} {Q:Int × Int × Nat->Shared->Prop} (hs:s.heap.IsSliceOf sl vl vu .none) (pl:IsPart vl lo) (pu:IsPart vu hi)
  (h:Q (((sIx n 0 lo:Nat):Int),1,sIx n n hi - sIx n 0 lo) s):wpAny (model prog w) A (Builtin.Slice.sliceApplied (.ref sl) (pure (n:Int))) Q E s:=by
 obtain ⟨os,hos,hcs,hds⟩:=id hs
 unfold Builtin.Slice.sliceApplied Builtin.Slice.sliceFields
 refine wpAny_bind (wpAny_bind (wpAny_field hos hds (x:=vl) rfl (wpAny_bind (wpAny_field hos hds (x:=vu) rfl (wpAny_bind (wpAny_field hos hds (x:=.none) rfl (wpAny_pure ?_)))))))
 refine wpAny_bind (slicePart_none ?_)
 show wpAny _ _ (if ((1:Int) == 0)=true then _ else _) _ _ s
 rw [if_neg (by decide)]
 refine wpAny_bind (g_i pl (wpAny_bind (g_i pu (wpAny_bind (wpAny_pure ?_)))))
 show wpAny _ _ (match Builtin.Slice.sliceAdjust lo hi 1 (n:Int) with | (lo,hi)=>pure (lo,(1:Int),Builtin.Slice.slicePlaces lo hi 1)) _ _ s
 rw [i_F lo hi n]
 show wpAny _ _ (pure (((sIx n 0 lo:Nat):Int),(1:Int),Builtin.Slice.slicePlaces ((sIx n 0 lo:Nat):Int) ((sIx n n hi:Nat):Int) 1)) _ _ s
 rw [i_G]
 exact wpAny_pure h
theorem k_G (xs:Array Value) (i k:Nat):((List.range k).filterMap fun (m:Nat)=>xs[((i:Int)+(m:Int)*1).toNat]?).toArray=((xs.toList.drop i).take k).toArray:=by
 have e:(fun (m:Nat)=>xs[((i:Int)+(m:Int)*1).toNat]?)=fun m=>xs[i+m]?:=by
  funext m
  have:((i:Int)+(m:Int)*1).toNat=i+m:=by omega
  rw [this]
 rw [e]
 have:=pick_run xs i k
 rw [List.filterMap_map] at this
 have e2:((fun x=>xs[x]?) ∘ fun x=>i+x)=fun m=>xs[i+m]?:=rfl
 rw [e2] at this
 rw [this]
theorem getItem_tuple_cut {t sl:Addr} {items:Array Value} {vl vu:Value} {lo hi:Option Int} {Q:Value->Shared->Prop} (ht:IsTup s.heap t items) (hs:s.heap.IsSliceOf sl vl vu .none) (pl:IsPart vl lo) (pu:IsPart vu hi)
  (hw:¬ (sIx items.size 0 lo=0/\sIx items.size items.size hi=items.size))
  (h:Q (.ref s.heap.objs.size) { s with heap:=s.heap.push { cls:=.type "tuple",data:=.seq ((items.toList.drop (sIx items.size 0 lo)).take (sIx items.size items.size hi - sIx items.size 0 lo)).toArray } })
  (hsz:items.size<=sizeLine):wpAny (model prog w) A (getItem (.ref t) (.ref sl)) Q E s:=by
 have htake:sizeOk (.seq ((items.toList.drop (sIx items.size 0 lo)).take (sIx items.size items.size hi - sIx items.size 0 lo)).toArray):=by
  show ((items.toList.drop (sIx items.size 0 lo)).take (sIx items.size items.size hi - sIx items.size 0 lo)).toArray.size<=sizeLine
  rw [List.size_toArray,List.length_take,List.length_drop,Array.length_toList]
  omega
 have hj:sIx items.size items.size hi<=items.size:=o_l _ _ (Nat.le_refl _) hi
 obtain ⟨os,hos,hcs,hds⟩:=id hs
 have hTs:s.TypeIs (.ref sl) "slice" := ⟨os,hos,hcs⟩
 unfold getItem
 try with_reducible refine wpAny_holding ?_
 first | refine wpAny_bind (wpAny_pure ?_) | skip
 refine wpAny_bind (wpAny_sequenceKey ht.typeIs (by decide) ?_)
 refine wpAny_bind (wpAny_callSpecial?_slot (name:=Str.ofString "__getitem__") ht.typeIs PyProof.Rows.slot_tuple_getitem
  (wpAny_call_entry PyProof.Rows.slot_tuple_getitem ht.typeIs entry_tuple_getitem ?_ (args_tuple_getitem _ _)))
 show wpAny _ _ (Builtin.Tuple.tupleItemsOf (.ref t) >>= _) _ _ s
 refine wpAny_bind (tupleItemsOf_ ht ?_)
 refine wpAny_bind (wpAny_typeOf hTs ?_)
 rw [if_pos (by decide)]
 refine wpAny_bind (f_m hs pl pu ?_)
 have hno:¬ ((((sIx items.size 0 lo:Nat):Int) == 0 && (1:Int) == 1 && (sIx items.size items.size hi - sIx items.size 0 lo) == items.size)=true):=by
  intro q
  rw [Bool.and_eq_true,Bool.and_eq_true] at q
  have q1:((sIx items.size 0 lo:Nat):Int)=0:=eq_of_beq q.1.1
  have q2:sIx items.size items.size hi - sIx items.size 0 lo=items.size:=eq_of_beq q.2
  exact hw ⟨by omega,by omega⟩
 show wpAny _ _ (if (((sIx items.size 0 lo:Nat):Int) == 0 && (1:Int) == 1 && (sIx items.size items.size hi - sIx items.size 0 lo) == items.size)=true then _ else _) _ _ s
 rw [if_neg hno,k_G]
 first
  | exact wpAny_bind (m:=Builtin.Tuple.tupleExact _) (wpAny_newObj_type (wpAny_pure ⟨_,rfl,wpAny_pure h⟩) htake)
  | exact wpAny_bind (m:=Builtin.Tuple.tupleExact _) (wpAny_newObj_type (wpAny_bind (wpAny_pure (wpAny_pure ⟨_,rfl,wpAny_pure h⟩))) htake)
  | exact wpAny_bind (wpAny_bind (m:=Builtin.Tuple.tupleExact _) (wpAny_newObj_type (wpAny_pure (wpAny_pure ⟨_,rfl,wpAny_pure h⟩)) htake))
  | exact wpAny_bind (wpAny_bind (m:=Builtin.Tuple.tupleExact _) (wpAny_newObj_type (wpAny_pure ⟨_,rfl,wpAny_pure h⟩) htake))
end
end HT
namespace L2
open PySem PySem.Spec PyProof.Rows
open PySem.W (Frag)
noncomputable abbrev TO:=St->Hp->(Option Int->Hp->Prop)->Prop
noncomputable def PO (X:Cx) (e:Option Expr) (t:TO):Prop :=
 ∀ (pins:List (Addr × Obj)) (s:Shared) (σ:St) (H:Hp) (Q:Option Int->Hp->Prop),Inv X pins σ H s->t σ H Q ->
  wpAny (model X.prog X.w) X.A (evalPart e X.env) (fun u s'=>∃ o H',Inv X pins σ H' s'/\IsPart u o/\Q o H') X.xe s
noncomputable def f_X:TO:=fun _ H Q=>Q none H
noncomputable def j_m (t:TE):TO:=fun σ H Q=>t σ H fun x H1=>∃ i,x=.int i/\Q (some i) H1
theorem g_j {ns:List Int}:∀ {us:List Value},Vals (ns.map V.int) us->IntsAre us ns:=by
 induction ns with
 | nil=>intro us r; rw [List.map_nil] at r; cases r; exact .nil
 | cons n ns ih =>
  intro us r
  rw [List.map_cons] at r
  cases r with
  | cons r1 r2 =>
   obtain ⟨t,e⟩:=r1
   subst e
   exact .cons n t (ih r2)
section
variable {X:Cx} {e:Expr} {te:TE} {lo hi:Option Expr} {tl th:TO} {pos p2:Pos}
theorem j_n:PO X none f_X:=by
 intro pins s σ H Q I h
 rw [evalPart_none]
 exact wpAny_pure ⟨none,H,I,.none,h⟩
theorem f_Y (h:PE X e te):PO X (some e) (j_m te):=by
 intro pins s σ H Q I hw
 rw [evalPart_some]
 refine thn (h pins s σ H _ I hw) fun u s1 ⟨x,H1,I1,r1,q1⟩=>?_
 obtain ⟨i,rfl,q⟩:=q1
 obtain ⟨t,rfl⟩:=r1
 exact ⟨some i,H1,I1,.int i t,q⟩
noncomputable def SlR (X:Cx) (r:V->Option Int->Option Int->Hp->VK->Prop):Prop :=
 ∀ (pins:List (Addr × Obj)) (s:Shared) (σ:St) (H:Hp) (x:V) (v vl vu:Value) (lo hi:Option Int) (sl:Addr) (Q:VK),Inv X pins σ H s->RelV x v->s.heap.IsSliceOf sl vl vu .none->IsPart vl lo->IsPart vu hi->r x lo hi H Q ->
  ∃ T id,typeLookup (.type T) "__getitem__" = pure (some (.builtin id))/\s.TypeIs v T/\wpAny (model X.prog X.w) X.A (getItem v (.ref sl)) (EP X pins σ Q) X.xe s
theorem SlR.or {r r':V->Option Int->Option Int->Hp->VK->Prop} (h:SlR X r) (h':SlR X r'):SlR X (fun x lo hi H Q=>r x lo hi H Q\/r' x lo hi H Q):=by
 intro pins s σ H x v vl vu lo hi sl Q I rx hs pl pu q
 rcases q with q | q
 ·exact h pins s σ H x v vl vu lo hi sl Q I rx hs pl pu q
 ·exact h' pins s σ H x v vl vu lo hi sl Q I rx hs pl pu q
noncomputable def tSl (r:V->Option Int->Option Int->Hp->VK->Prop) (te:TE) (tl th:TO):TE:=fun σ H Q=>te σ H fun x H1=>tl σ H1 fun l H2=>th σ H2 fun u H3=>r x l u H3 Q
theorem g_k {r:V->Option Int->Option Int->Hp->VK->Prop} (hr:SlR X r) (he:PE X e te) (hl:PO X lo tl) (hu:PO X hi th):PE X (.Subscript e (.Slice lo hi none p2) pos) (tSl r te tl th):=by
 intro pins s σ H Q I h
 refine Subscript_ (thn (he pins s σ H _ I h) fun v s1 ⟨x,H1,I1,r1,q1⟩=>?_)
 refine wpAny_Slice (thn (hl pins s1 σ H1 _ I1 q1) fun vl s2 ⟨l,H2,I2,pl,q2⟩=>thn (hu pins s2 σ H2 _ I2 q2) fun vu s3 ⟨u,H3,I3,pu,q3⟩=>?_)
 rw [evalPart_none]
 refine wpAny_pure ?_
 have I4:Inv X pins σ H3 { s3 with heap:=s3.heap.push { cls:=.type "slice",data:=.fields #[vl,vu,.none] } }:=I3.kept (t':=s3.toks) fun b ob q=>Heap.get?_push_of_some _ q
 obtain ⟨T,id,hT,ht,hg⟩:=hr pins { s3 with heap:=s3.heap.push { cls:=.type "slice",data:=.fields #[vl,vu,.none] } } σ H3 x v vl vu l u s3.heap.objs.size Q I4 r1 (Heap.IsSliceOf.new ..) pl pu q3
 show wpAny (model X.prog X.w) X.A (subscriptTail e (.Slice lo hi none p2) v (.ref s3.heap.objs.size)) (EP X pins σ Q) X.xe { s3 with heap:=s3.heap.push { cls:=.type "slice",data:=.fields #[vl,vu,.none] } }
 exact tail_any (ops:=[.ref s3.heap.objs.size,v]) ht hT hg (by with_unfolding_all rfl)
noncomputable def cutV (xs:List V) (lo hi:Option Int):List V:=(xs.drop (HT.sIx xs.length 0 lo)).take (HT.sIx xs.length xs.length hi - HT.sIx xs.length 0 lo)
theorem f_P (xs:List V) (lo hi:Option Int):(cutV xs lo hi).length<=xs.length:=by
 unfold cutV
 rw [List.length_take,List.length_drop]
 omega
noncomputable def rSlT (K:Frag):V->Option Int->Option Int->Hp->VK->Prop:=fun x lo hi H Q=>∃ a xs,x=.ref a/\SqT K H a xs /\
 ¬ (HT.sIx xs.length 0 lo=0/\HT.sIx xs.length xs.length hi=xs.length)/\∀ p,H p=none->Q (.ref p) (upd H p (.tup (cutV xs lo hi)))
theorem o_m:SlR X (rSlT X.K):=by
 intro pins s σ H x v vl vu lo hi sl Q I rx hs pl pu h
 obtain ⟨a,xs,rfl,hx,hw,q⟩:=h
 cases rx
 obtain ⟨its,r,ht,hz⟩:=I.tuple hx
 have hlen:its.toArray.size=xs.length:=by rw [List.size_toArray]; exact r.length.symm
 refine ⟨"tuple",_,PyProof.Rows.slot_tuple_getitem.lookup,ht.typeIs,?_⟩
 refine HT.getItem_tuple_cut ht hs pl pu (by rw [hlen]; exact hw) ?_ (by rw [hlen]; exact hz)
 rw [hlen]
 refine ⟨.ref s.heap.objs.size,_,I.laid (t':=s.toks) (o:=.tup (cutV xs lo hi)) (fun b ob q=>Heap.get?_push_of_some _ q) (Nat.le_refl _) ?_,rfl,q _ (I.hok.fresh (Nat.le_refl _))⟩
 exact ⟨Nat.le_trans (f_P xs lo hi) hz,_,(r.drop (HT.sIx xs.length 0 lo)).take (HT.sIx xs.length xs.length hi - HT.sIx xs.length 0 lo),IsTup.new _ _⟩
end
noncomputable def ixN (n:Nat) (i:Int):Option Nat:=if 0<=i then (if i < n then some i.toNat else none) else if -(n:Int)<=i then some (i+n).toNat else none
noncomputable def atI {α:Type} (xs:List α) (i:Int):Option α:=(ixN xs.length i).bind fun j=>xs[j]?
theorem j_o {n:Nat} {i:Int} {j:Nat} (h:ixN n i=some j):seqIndex? i n=some j/\j < n/\-(n:Int)<=i/\i < n:=by
 unfold ixN at h
 by_cases h0:0<=i
 ·rw [if_pos h0] at h
  by_cases h1:i < n
  ·rw [if_pos h1] at h
   have e:i.toNat=j:=Option.some.inj h
   exact ⟨by rw [seqIndex_of h0 h1,e],by omega,by omega,h1⟩
  ·rw [if_neg h1] at h; cases h
 ·rw [if_neg h0] at h
  by_cases h1:-(n:Int)<=i
  ·rw [if_pos h1] at h
   have e:(i+n).toNat=j:=Option.some.inj h
   exact ⟨by rw [seqIndex_neg (by omega) h1,e],by omega,h1,by omega⟩
  ·rw [if_neg h1] at h; cases h
theorem j_p {α:Type} {xs:List α} {i:Int} {v:α} (h:atI xs i=some v):∃ j,seqIndex? i xs.length=some j/\xs[j]?=some v/\j < xs.length/\-(xs.length:Int)<=i/\i < xs.length:=by
 unfold atI at h
 cases e:ixN xs.length i with
 | none=>rw [e] at h; cases h
 | some j =>
  rw [e] at h
  obtain ⟨h1,h2,h3,h4⟩:=j_o e
  exact ⟨j,h1,h,h2,h3,h4⟩
theorem m_G {α:Type} {xs:List α} {j:Nat} {v:α} (h:xs[j]?=some v):atI xs (j:Int)=some v:=by
 have hj:j < xs.length:=(List.getElem?_eq_some_iff.mp h).1
 have e:ixN xs.length (j:Int)=some j:=by
  unfold ixN
  rw [if_pos (by omega),if_pos (by omega)]; simp
 unfold atI; rw [e]; exact h
noncomputable def j_q (b:Expr):Prop:=∀ o i,subscripted b false o i=operate [o,i] (getItem o i)
noncomputable def IxR (X:Cx) (r:R2):Prop :=
 ∀ (value slice:Expr) (pins:List (Addr × Obj)) (s:Shared) (σ:St) (H:Hp) (x y:V) (v u:Value) (Q:VK),Inv X pins σ H s->RelV x v->RelV y u->r x y H Q ->
  subscripted slice false v u=operate [v,u] (getItem v u)->wpAny (model X.prog X.w) X.A (subscriptTail value slice v u) (EP X pins σ Q) X.xe s
noncomputable def MtR (X:Cx) (id:String) (r:V->List V->Hp->VK->Prop):Prop :=
 ∀ (pins:List (Addr × Obj)) (s:Shared) (σ:St) (H:Hp) (x:V) (xs:List V) (v:Value) (us:List Value) (Q:VK),Inv X pins σ H s->RelV x v->Vals xs us->r x xs H Q ->
  wpAny (model X.prog X.w) X.A (call (.builtin id) (v :: us)) (EP X pins σ Q) X.xe s
section
variable {X:Cx} {a b:Expr} {ta tb:TE} {pos:Pos}
theorem IxR.or {r r':R2} (h:IxR X r) (h':IxR X r'):IxR X (fun x y H Q=>r x y H Q\/r' x y H Q):=by
 intro value slice pins s σ H x y v u Q I rx ry q hs
 rcases q with q | q
 ·exact h value slice pins s σ H x y v u Q I rx ry q hs
 ·exact h' value slice pins s σ H x y v u Q I rx ry q hs
theorem MtR.or {id:String} {r r':V->List V->Hp->VK->Prop} (h:MtR X id r) (h':MtR X id r'):MtR X id (fun x xs H Q=>r x xs H Q\/r' x xs H Q):=by
 intro pins s σ H x xs v us Q I rx rs q
 rcases q with q | q
 ·exact h pins s σ H x xs v us Q I rx rs q
 ·exact h' pins s σ H x xs v us Q I rx rs q
theorem o_N {r:R2} (hr:IxR X r) (ha:PE X a ta) (hb:PE X b tb) (hs:j_q b):PE X (.Subscript a b pos) (tOp r ta tb):=by
 intro pins s σ H Q I h
 exact Subscript_ (binT ha hb I h fun v u s2 x y H2 I2 rx ry q=>hr a b pins s2 σ H2 x y v u Q I2 rx ry q (hs _ _))
noncomputable def rIxL (K:Frag):R2:=fun x y H Q=>∃ p xs i v,x=.ref p/\y=.int i/\SqL K H p xs/\atI xs i=some v/\Q v H
noncomputable def rIxT (K:Frag):R2:=fun x y H Q=>∃ p xs i v,x=.ref p/\y=.int i/\SqT K H p xs/\atI xs i=some v/\Q v H
theorem m_H:IxR X (rIxL X.K):=by
 intro value slice pins s σ H x y v u Q I rx ry h hs
 obtain ⟨p,xs,i,z,rfl,rfl,hq,he,q⟩:=h
 cases rx
 obtain ⟨t,rfl⟩:=ry
 obtain ⟨its,r,pl,hz⟩:=I.list hq
 obtain ⟨j,h1,h2,h3,h4,h5⟩:=j_p he
 obtain ⟨w,ew,rw'⟩:=r.get h2
 have hl:=r.length
 have hn:=h_m
 have fin:EP X pins σ Q w s:=⟨z,H,I,rw',q⟩
 by_cases h0:0<=i
 ·have hj:i.toNat=j:=by
   rw [seqIndex_of h0 h5] at h1
   exact Option.some.inj h1
  exact item_listR pl.isList h0 (by omega) (by rw [hj]; simpa using ew) fin hs
 ·have hj:(i+(its.toArray.size:Int)).toNat=j:=by
   rw [seqIndex_neg (by omega) h4] at h1
   rw [List.size_toArray,← hl]
   exact Option.some.inj h1
  exact subscriptTail_builtinR (x:=w) pl.isList.typeIs slot_list_getitem.lookup
   (wpAny_getItem_list_neg (Q:=fun r s'=>r=w/\EP X pins σ Q r s') pl.isList (by omega) (by rw [List.size_toArray] <;> omega) (by omega) (by rw [hj]; simpa using ew) ⟨rfl,fin⟩) hs
theorem o_n:IxR X (rIxT X.K):=by
 intro value slice pins s σ H x y v u Q I rx ry h hs
 obtain ⟨p,xs,i,z,rfl,rfl,hq,he,q⟩:=h
 cases rx
 obtain ⟨t,rfl⟩:=ry
 obtain ⟨its,r,pl,hz⟩:=I.tuple hq
 obtain ⟨j,h1,h2,h3,h4,h5⟩:=j_p he
 obtain ⟨w,ew,rw'⟩:=r.get h2
 have hl:=r.length
 have hn:=h_m
 have fin:EP X pins σ Q w s:=⟨z,H,I,rw',q⟩
 exact subscriptTail_builtinR (x:=w) pl.typeIs slot_tuple_getitem.lookup
  (getItem_tuple (j:=j) (Q:=fun r s'=>r=w/\EP X pins σ Q r s') pl (by omega) (by omega) (by rw [List.size_toArray,← hl]; exact h1) (by simpa using ew) ⟨rfl,fin⟩) hs
theorem i_H (its:List Value) (n j:Nat) (u:Value):Obj.mapSeq (·.setIfInBounds j u) { cls:=.type "list",data:=.seq its.toArray n }={ cls:=.type "list",data:=.seq (its.set j u).toArray n }:=by
 simp [Obj.mapSeq]
theorem Inv.lst {pins:List (Addr × Obj)} {σ:St} {H:Hp} {s:Shared} {p:Addr} {xs:List V} (I:Inv X pins σ H s) (h:H p=some (.lst xs)) :
  ∃ (its:List Value) (n:Nat),Vals xs its/\s.heap.get? p=some { cls:=.type "list",data:=.seq its.toArray n }/\xs.length<=sizeLine:=by
 obtain ⟨z,its,n,r,e⟩:=I.hok p _ h
 exact ⟨its,n,r,e,z⟩
theorem Inv.lstUpd {pins:List (Addr × Obj)} {σ:St} {H:Hp} {s:Shared} {p:Addr} {xs ys:List V} {its its':List Value} {n n':Nat} {f:Obj->Obj} (I:Inv X pins σ H s) (h:H p=some (.lst xs))
  (ho:s.heap.get? p=some { cls:=.type "list",data:=.seq its.toArray n }) (hf:f { cls:=.type "list",data:=.seq its.toArray n }={ cls:=.type "list",data:=.seq its'.toArray n' }) (r:Vals ys its') (hz:ys.length<=sizeLine) (t:Nat) :
  Inv X pins σ (upd H p (.lst ys)) { s with heap:=s.heap.update p f,toks:=t }:=by
 have e:(s.heap.update p f).get? p=some { cls:=.type "list",data:=.seq its'.toArray n' }:=by
  rw [Heap.get?_update_self f ho (by rw [hf] <;> rfl),hf]
 refine I.write (x:=p) (e:=p) (by rw [h]; trivial) (.inl rfl) (fun b u hb q=>(Heap.get?_update_other _ _ (Ne.symm hb)).trans q) ⟨_,e⟩ ?_
 exact ⟨hz,its',n',r,e⟩
noncomputable def g_l:V->V->V->Hp->(Hp->Prop)->Prop:=fun o i v H Q=>∃ p xs k j,o=.ref p/\i=.int k/\H p=some (.lst xs)/\ixN xs.length k=some j/\Q (upd H p (.lst (xs.set j v)))
theorem c_A:PSet X g_l:=by
 intro pins s σ H o i v ov iv u Q I ro ri rv h
 obtain ⟨p,xs,k,j,rfl,rfl,hp,hj,q⟩:=h
 cases ro
 obtain ⟨t,rfl⟩:=ri
 obtain ⟨its,n,r,ho,hz⟩:=I.lst hp
 obtain ⟨h1,h2,h3,h4⟩:=j_o hj
 have hl:=r.length
 have hn:=h_m
 have I':Inv X pins σ (upd H p (.lst (xs.set j v))) { s with heap:=s.heap.update p (Obj.mapSeq (·.setIfInBounds j u)) } :=
  I.lstUpd hp ho (i_H its n j u) (r.set rv j) (by rw [List.length_set]; exact hz) s.toks
 by_cases h0:0<=k
 ·have hk:k.toNat=j:=by
   rw [seqIndex_of h0 h4] at h1
   exact Option.some.inj h1
  exact PySem.W.ki_setAt ho h0 (by omega) (by rw [List.size_toArray,← hl]; exact h4) (by rw [hk]; exact ⟨_,I',q⟩)
 ·have hk:(k+(its.toArray.size:Int)).toNat=j:=by
   rw [seqIndex_neg (by omega) h3] at h1
   rw [List.size_toArray,← hl]
   exact Option.some.inj h1
  exact PySem.W.ki_setBack ho (by omega) (by rw [List.size_toArray,← hl]; exact h3) (by omega) (by rw [hk]; exact ⟨_,I',q⟩)
theorem h_n (lo hi:Option Int) (n:Nat):(sliceBounds lo hi none n).1=((HT.sIx n 0 lo:Nat):Int)/\(sliceBounds lo hi none n).2.1=((HT.sIx n n hi:Nat):Int)/\(sliceBounds lo hi none n).2.2=1:=by
 refine ⟨?_,?_,rfl⟩
 ·cases lo with
  | none=>simp [sliceBounds,HT.sIx]
  | some i =>
   simp only [sliceBounds,HT.sIx,Option.getD_none,show (1:Int) > 0 by decide,if_true]
   by_cases h:i < 0
   ·simp only [h,if_true] <;> omega
   ·simp only [h,if_false] <;> omega
 ·cases hi with
  | none=>simp [sliceBounds,HT.sIx]
  | some i =>
   simp only [sliceBounds,HT.sIx,Option.getD_none,show (1:Int) > 0 by decide,if_true]
   by_cases h:i < 0
   ·simp only [h,if_true] <;> omega
   ·simp only [h,if_false] <;> omega
theorem g_H (its:List Value) (lo hi:Option Int):slicePick its.toArray lo hi none=((its.drop (HT.sIx its.length 0 lo)).take (HT.sIx its.length its.length hi - HT.sIx its.length 0 lo)).toArray:=by
 obtain ⟨h1,h2,h3⟩:=h_n lo hi its.toArray.size
 unfold slicePick
 rw [h1,h2,h3]
 simp only [sliceRange_one,pick_run,List.size_toArray] <;> rfl
noncomputable def rSlL (K:Frag):V->Option Int->Option Int->Hp->VK->Prop:=fun x lo hi H Q=>∃ a xs,x=.ref a/\SqL K H a xs/\∀ p,H p=none->Q (.ref p) (upd H p (.lst (cutV xs lo hi)))
theorem m_I:SlR X (rSlL X.K):=by
 intro pins s σ H x v vl vu lo hi sl Q I rx hs pl pu h
 obtain ⟨a,xs,rfl,hx,q⟩:=h
 cases rx
 obtain ⟨its,r,ht,hz⟩:=I.list hx
 have hlen:=r.length
 refine ⟨"list",_,slot_list_getitem.lookup,ht.isList.typeIs,?_⟩
 refine wpAny_getItem_list_slice ht.isList hs pl pu .none (by simp) ?_ (by rw [List.size_toArray] <;> omega)
 rw [g_H,← hlen]
 refine ⟨.ref s.heap.objs.size,_,I.laid (t':=s.toks) (o:=.lst (cutV xs lo hi)) (fun b ob q=>Heap.get?_push_of_some _ q) (Nat.le_refl _) ?_,rfl,q _ (I.hok.fresh (Nat.le_refl _))⟩
 exact ⟨Nat.le_trans (f_P xs lo hi) hz,_,0,(r.drop (HT.sIx xs.length 0 lo)).take (HT.sIx xs.length xs.length hi - HT.sIx xs.length 0 lo),Heap.get?_push_size _ rfl⟩
theorem h_o:c_z X (.builtin "len") (fun xs H Q=>∃ p ys,xs=[.ref p]/\(SqL X.K H p ys\/SqT X.K H p ys)/\Q (.int ys.length) H):=by
 intro pins s σ H xs us Q I r h
 obtain ⟨p,ys,rfl,hq,q⟩:=h
 obtain ⟨u,rfl,rx⟩:=e_y r
 cases rx
 have hn:=h_m
 rcases hq with hq | hq
 ·obtain ⟨its,r',pl,hz⟩:=I.list hq
  have hlen:=r'.length
  exact Calls.call_len_list pl.isList (by simp only [List.size_toArray] <;> omega) ⟨.int ys.length,H,I.tok _,⟨s.toks+1,by rw [List.size_toArray,hlen]⟩,q⟩
 ·obtain ⟨its,r',pl,hz⟩:=I.tuple hq
  have hlen:=r'.length
  exact len_tuple pl (by simp only [List.size_toArray] <;> omega) ⟨.int ys.length,H,I.tok _,⟨s.toks+1,by rw [List.size_toArray,hlen]⟩,q⟩
theorem c_z.or {f:Value} {r r':List V->Hp->VK->Prop} (h:c_z X f r) (h':c_z X f r'):c_z X f (fun xs H Q=>r xs H Q\/r' xs H Q):=by
 intro pins s σ H xs us Q I rs q
 rcases q with q | q
 ·exact h pins s σ H xs us Q I rs q
 ·exact h' pins s σ H xs us Q I rs q
theorem h_p:c_z X (.type "list") (fun xs H Q=>∃ p ys,xs=[.ref p]/\(SqL X.K H p ys\/SqT X.K H p ys)/\∀ l,H l=none->Q (.ref l) (upd H l (.lst ys))):=by
 intro pins s σ H xs us Q I r h
 obtain ⟨p,ys,rfl,hq,q⟩:=h
 obtain ⟨u,rfl,rx⟩:=e_y r
 cases rx
 have fin:∀ (its:List Value),Vals ys its->ys.length<=sizeLine->∀ (h':Heap) (c':Nat),(∀ b o',s.heap.get? b=some o'->h'.get? b=some o') ->
   h'.get? s.heap.objs.size=some { cls:=.type "list",dict:=none,data:=.seq its.toArray c',slots:=#[] }->EP X pins σ Q (.ref s.heap.objs.size) { s with heap:=h' }:=fun its r' hz h' c' kp e =>
  ⟨.ref s.heap.objs.size,_,I.laid (t':=s.toks) kp (Nat.le_refl _) (show b_B X.prog X.w _ h' _ (.lst ys) from ⟨hz,its,c',r',e⟩),rfl,q _ (I.hok.fresh (Nat.le_refl _))⟩
 rcases hq with hq | hq
 ·obtain ⟨its,r',pl,hz⟩:=I.list hq
  have hlen:=r'.length
  obtain ⟨o,ho,hc,n,hd⟩:=pl.isList
  exact call_list_seq p (.inl rfl) ho hc hd (fun h' c' kp e=>fin its r' hz h' c' kp e) (by simp only [List.size_toArray] <;> omega)
 ·obtain ⟨its,r',pl,hz⟩:=I.tuple hq
  have hlen:=r'.length
  obtain ⟨o,ho,hc,n,hd⟩:=pl
  exact call_list_seq p (.inr rfl) ho hc hd (fun h' c' kp e=>fin its r' hz h' c' kp e) (by simp only [List.size_toArray] <;> omega)
theorem g_I:c_z X (.type "tuple") (fun xs H Q=>∃ p ys,xs=[.ref p]/\((SqL X.K H p ys/\∀ l,H l=none->Q (.ref l) (upd H l (.tup ys)))\/(SqT X.K H p ys/\Q (.ref p) H))):=by
 intro pins s σ H xs us Q I r h
 obtain ⟨p,ys,rfl,h⟩:=h
 obtain ⟨u,rfl,rx⟩:=e_y r
 cases rx
 rcases h with ⟨hq,q⟩ | ⟨hq,q⟩
 ·obtain ⟨its,r',pl,hz⟩:=I.list hq
  have hlen:=r'.length
  refine call_tuple_list pl.isList (fun h' kp=>?_) (by simp only [List.size_toArray] <;> omega)
  have I1:Inv X pins σ H { s with heap:=h' }:=I.kept (t':=s.toks) kp
  have I2:Inv X pins σ (upd H h'.objs.size (.tup ys)) { s with heap:=h'.push { cls:=.type "tuple",data:=.seq its.toArray } } :=
   I1.laid (t':=s.toks) (fun b o e=>Heap.get?_push_of_some _ e) (Nat.le_refl _) (show b_B X.prog X.w _ _ _ (.tup ys) from ⟨hz,its,r',IsTup.new _ _⟩)
  exact ⟨.ref h'.objs.size,_,I2,rfl,q _ (I1.hok.fresh (Nat.le_refl _))⟩
 ·obtain ⟨its,r',pl,hz⟩:=I.tuple hq
  exact call_tuple_same pl ⟨.ref p,H,I,rfl,q⟩
noncomputable def tyV (K:Frag) (T:String) (x:V) (H:Hp):Prop:=match x with
 | .str _=>T = "str"
 | .int _=>T = "int"
 | .ref p=>(T = "list" /\ ∃ xs,SqL K H p xs)\/(T = "tuple" /\ ∃ o,K.lookup p=some o/\o.cls=.type "tuple" /\ o.dict=none) \/
   (T = "dict" /\ ((∃ kvs,H p=some (.dK kvs))\/∃ kvs,H p=some (.dT kvs)))\/(T = "set" /\ ∃ S n,H p=some (.set S n))
 | _=>False
theorem k_H {pins:List (Addr × Obj)} {σ:St} {H:Hp} {s:Shared} {T:String} {x:V} {v:Value} (I:Inv X pins σ H s) (r:RelV x v) (ty:tyV X.K T x H) :
  s.TypeIs v T/\∀ a,v=.ref a->∃ ob,s.heap.get? a=some ob/\ob.dict=none:=by
 cases x with
 | str z =>
  obtain ⟨t,rfl⟩:=r
  cases (show T = "str" from ty)
  exact ⟨typeIs_str s z t,fun _ e=>nomatch e⟩
 | int i =>
  obtain ⟨t,rfl⟩:=r
  cases (show T = "int" from ty)
  exact ⟨typeIs_int s i t,fun _ e=>nomatch e⟩
 | ref p =>
  cases r
  rcases ty with ⟨rfl,xs,hq⟩ | ⟨rfl,o,hk,hc,hd⟩ | ⟨rfl,hk⟩ | ⟨rfl,S,n,hk⟩
  ·obtain ⟨its,_,pl,_⟩:=I.list hq
   refine ⟨pl.isList.typeIs,fun a e=>?_⟩
   cases e
   obtain ⟨o,n,e,c,hd,_⟩:=pl
   exact ⟨o,e,hd⟩
  ·refine ⟨⟨o,I.kIn p o hk,hc⟩,fun a e=>?_⟩
   cases e
   exact ⟨o,I.kIn _ o hk,hd⟩
  ·have z:∃ o,s.heap.get? p=some o/\o.ExactDict:=by
    rcases hk with ⟨kvs,hk⟩ | ⟨kvs,hk⟩
    ·obtain ⟨_,_,_,_,o,_,_,e,ex,_⟩:=I.hok p _ hk
     exact ⟨o,e,ex⟩
    ·obtain ⟨_,_,_,_,o,_,_,e,ex,_⟩:=I.hok p _ hk
     exact ⟨o,e,ex⟩
   obtain ⟨o,e,ex⟩:=z
   refine ⟨⟨o,e,ex.1⟩,fun a e2=>?_⟩
   cases e2
   exact ⟨o,e,ex.2.1⟩
  ·obtain ⟨o,_,_,_,e,ex,_⟩:=I.hok p _ hk
   refine ⟨⟨o,e,ex.1⟩,fun a e2=>?_⟩
   cases e2
   exact ⟨o,e,ex.2.1⟩
 | _=>exact False.elim ty
noncomputable def tBM0 (K:Frag) (T:String) (r:V->List V->Hp->VK->Prop) (to:TE):TE:=fun σ H Q=>to σ H fun x H1=>tyV K T x H1/\r x [] H1 Q
noncomputable def tBM (K:Frag) (T:String) (r:V->List V->Hp->VK->Prop) (to:TE) (t:TA):TE:=fun σ H Q=>to σ H fun x H1=>tyV K T x H1/\t σ H1 fun xs H2=>r x xs H2 Q
variable {o e:Expr} {es:List Expr} {to:TE} {t:TA} {name:Str} {apos cpos:Pos} {T id:String} {r:V->List V->Hp->VK->Prop}
theorem h_q (pa:PlainAttrs T) (slot:Slot T name id) (hty:typeOf (.builtin id)=pure (.type "method_descriptor")) (hm:MtR X id r) (ho:PE X o to)
  (hbase:attributeBase o name X.env (eval o X.env)=eval o X.env:=by rfl) (hline:(apos.endLine == cpos.line)=true:=by rfl):PE X (.Call (.Attribute o name apos) [] [] cpos) (tBM0 X.K T r to):=by
 intro pins s σ H Q I h
 refine wpAny_Call_method0_late hbase hline (thn (ho pins s σ H _ I h) fun v s1 ⟨x,H1,I1,r1,ty,q1⟩=>?_)
 obtain ⟨h1,h2⟩:=k_H I1 r1 ty
 exact ⟨T,id,pa,slot,hty,h1,h2,Calls.callWith_builtin rfl (PySem.evalArgs_none (hm pins s1 σ H1 x [] v [] Q I1 r1 .nil q1))⟩
theorem n_R (pa:PlainAttrs T) (slot:Slot T name id) (hty:typeOf (.builtin id)=pure (.type "method_descriptor")) (hm:MtR X id r) (ho:PE X o to) (ha:PA X (e :: es) t)
  (hbase:attributeBase o name X.env (eval o X.env)=eval o X.env:=by rfl)
  (hfew:((backTo cpos (starEach (e :: es) X.env)).all (fun x=>!x.1) && (backToKw cpos (keywordEach [] X.env)).all (fun x=>x.1.isSome)
   && decide ((e :: es).length+([]:List Keyword).length+(if ([]:List Keyword).isEmpty then 0 else 1) < 30))=true:=by rfl)
  (hline:(apos.endLine == cpos.line)=true:=by rfl) (hs:starEach (e :: es) X.env=(false,eval e X.env) :: starEach es X.env:=by rfl) (hplain:(backTo cpos (starEach es X.env)).any (·.1)=false:=by rfl) :
  PE X (.Call (.Attribute o name apos) (e :: es) [] cpos) (tBM X.K T r to t):=by
 intro pins s σ H Q I h
 refine wpAny_Call_method_late hbase hfew hline rfl (thn (ho pins s σ H _ I h) fun v s1 ⟨x,H1,I1,r1,ty,q1⟩=>?_)
 obtain ⟨h1,h2⟩:=k_H I1 r1 ty
 refine ⟨T,id,pa,slot,hty,h1,h2,?_⟩
 have hA:=ha cpos pins s1 σ H1 _ I1 q1
 rw [hs] at hA ⊢
 refine Calls.callWith_builtin (by show (false || (backTo cpos (starEach es X.env)).any (·.1))=false; rw [hplain] <;> rfl) (Calls.evalArgs_plain ?_)
 exact thn hA fun us s2 ⟨vs,H2,I2,r2,q2⟩=>hm pins s2 σ H2 x vs v us Q I2 r1 r2 q2
end
noncomputable def MtM (X:Cx) (id:String) (r:V->List V->Hp->VK->Prop):Prop :=
 ∀ (pins:List (Addr × Obj)) (s:Shared) (σ:St) (H:Hp) (x:V) (xs:List V) (v:Value) (us:List Value) (Q:VK),Inv X pins σ H s->RelV x v->Vals xs us->r x xs H Q ->
  wpAny (model X.prog X.w) X.A (call (.builtin id) (v :: us)) (EP X pins σ Q) X.xe s
theorem Vals.one:∀ {x:V} {us:List Value},Vals [x] us->∃ u,us=[u]/\RelV x u
 | _,_,.cons r .nil=>⟨_,rfl,r⟩
theorem Vals.two:∀ {x y:V} {us:List Value},Vals [x,y] us->∃ u v,us=[u,v]/\RelV x u/\RelV y v
 | _,_,_,.cons r (.cons q .nil)=>⟨_,_,rfl,r,q⟩
theorem Vals.zero:∀ {us:List Value},Vals [] us->us=[]
 | _,.nil=>rfl
theorem Vals.dropLast {xs:List V} {us:List Value} (h:Vals xs us):Vals xs.dropLast us.dropLast:=by
 induction h with
 | nil=>exact .nil
 | cons r t ih =>
  cases t with
  | nil=>exact .nil
  | cons q t'=>exact .cons r ih
theorem Vals.reverse {xs:List V} {us:List Value} (h:Vals xs us):Vals xs.reverse us.reverse:=by
 induction h with
 | nil=>exact .nil
 | cons r t ih=>rw [List.reverse_cons,List.reverse_cons]; exact Vals.append ih (.cons r .nil)
theorem Vals.rep {xs:List V} {us:List Value} (h:Vals xs us):∀ k:Nat,Vals (List.replicate k xs).flatten (List.replicate k us).flatten
 | 0=>.nil
 | k+1=>by
  rw [List.replicate_succ,List.replicate_succ,List.flatten_cons,List.flatten_cons]
  exact Vals.append h (Vals.rep h k)
theorem g_U (its:List Value):∀ (k:Nat) (acc:List Value),
  List.foldl (fun x1 x2=>x1++x2) acc.toArray (List.replicate k its.toArray)=(acc++(List.replicate k its).flatten).toArray
 | 0,acc=>by simp
 | k+1,acc=>by
  have e:acc.toArray++its.toArray=(acc++its).toArray:=by simp
  have e2:(acc++its)++(List.replicate k its).flatten=acc++(List.replicate (k+1) its).flatten:=by
   rw [List.replicate_succ,List.flatten_cons,List.append_assoc]
  rw [← e2,← g_U its k (acc++its),← e,List.replicate_succ,List.foldl_cons]
section
variable {X:Cx} {pins:List (Addr × Obj)} {σ:St} {H:Hp} {s:Shared} {l b:Addr} {xs ys zs:List V}
theorem Inv.lset {its its':List Value} {n:Nat} {f:Array Value->Array Value} {t':Nat} (I:Inv X pins σ H s) (hH:H l=some (.lst xs))
  (e:s.heap.get? l=some { cls:=.type "list",data:=.seq its.toArray n }) (hf:f its.toArray=its'.toArray) (hv:Vals ys its') (hz:ys.length<=sizeLine) :
  Inv X pins σ (upd H l (.lst ys)) { s with heap:=s.heap.update l (Obj.mapSeq f),toks:=t' }:=by
 have q:=PySem.IsL.update e f
 rw [hf] at q
 refine I.write (x:=l) (e:=l) (by rw [hH]; exact trivial) (.inl rfl) (fun b' u hb hu=>(Heap.get?_update_other s.heap (Obj.mapSeq f) (Ne.symm hb)).trans hu) ⟨_,q⟩ ?_
 exact ⟨hz,its',_,hv,q⟩
theorem Inv.lnew {its:List Value} {t':Nat} (I:Inv X pins σ H s) (hv:Vals ys its) (hz:ys.length<=sizeLine) :
  Inv X pins σ (upd H s.heap.objs.size (.lst ys)) { s with heap:=s.heap.push { cls:=.type "list",data:=.seq its.toArray },toks:=t' } :=
 I.laid (fun _ _ q=>Heap.get?_push_of_some _ q) (Nat.le_refl _) ⟨hz,its,0,hv,Heap.get?_push_size _ rfl⟩
theorem Inv.fresh (I:Inv X pins σ H s):H s.heap.objs.size=none:=I.hok.fresh (Nat.le_refl _)
theorem Inv.lstM (I:Inv X pins σ H s) (hH:H l=some (.lst xs)):xs.length<=sizeLine/\∃ (its:List Value) (n:Nat),Vals xs its/\xs.length=its.length/\s.heap.get? l=some { cls:=.type "list",data:=.seq its.toArray n }:=by
 obtain ⟨z,its,n,r,e⟩:=I.hok l _ hH
 exact ⟨z,its,n,r,r.length,e⟩
theorem k_I {n:Nat} (h:n<=sizeLine):Builtin.List.listTooLong n=false:=by
 unfold Builtin.List.listTooLong
 exact decide_eq_false (by omega)
end
section
variable {X:Cx}
noncomputable def m_J:V->List V->Hp->VK->Prop:=fun x vs H Q=>∃ l xs y,x=.ref l/\vs=[y]/\H l=some (.lst xs)/\xs.length < sizeLine/\Q .non (upd H l (.lst (xs++[y])))
theorem f_y:MtM X "list.append" m_J:=by
 intro pins s σ H x vs v us Q I rx rv h
 obtain ⟨l,xs,y,rfl,rfl,hH,hz,q⟩:=h
 cases rx
 obtain ⟨u,rfl,ru⟩:=rv.one
 obtain ⟨z,its,n,r,hl,e⟩:=I.lstM hH
 refine call_meets F.slot_list_append ⟨_,e,rfl⟩ F.entry_list_append (F.args_list_append_2 _ _) (PySem.list_append l its.toArray n u (by rw [List.size_toArray]; omega)) ⟨e,?_⟩
 refine ⟨.non,_,I.lset (its':=its++[u]) hH e (by simp) (r.append (.cons ru .nil)) ?_,rfl,q⟩
 rw [List.length_append,List.length_singleton]
 omega
noncomputable def k_J:V->List V->Hp->VK->Prop:=fun x vs H Q=>∃ l xs,x=.ref l/\vs=[]/\H l=some (.lst xs)/\Q .non (upd H l (.lst xs.reverse))
theorem i_I:MtM X "list.reverse" k_J:=by
 intro pins s σ H x vs v us Q I rx rv h
 obtain ⟨l,xs,rfl,rfl,hH,q⟩:=h
 cases rx
 have hus:=rv.zero
 subst hus
 obtain ⟨z,its,n,r,hl,e⟩:=I.lstM hH
 refine call_meets F.slot_list_reverse ⟨_,e,rfl⟩ F.entry_list_reverse (F.args_list_reverse_1 _) (AutoSeq1.list_reverse_list_0 l its.toArray n (by rw [List.size_toArray]; omega)) ⟨e,?_⟩
 refine ⟨.non,_,I.lset (its':=its.reverse) hH e (by simp) r.reverse ?_,rfl,q⟩
 rw [List.length_reverse]
 omega
noncomputable def o_o:V->List V->Hp->VK->Prop:=fun x vs H Q=>∃ l xs,x=.ref l/\vs=[]/\H l=some (.lst xs)/\Q .non (upd H l (.lst []))
theorem g_m:MtM X "list.clear" o_o:=by
 intro pins s σ H x vs v us Q I rx rv h
 obtain ⟨l,xs,rfl,rfl,hH,q⟩:=h
 cases rx
 have hus:=rv.zero
 subst hus
 obtain ⟨z,its,n,r,hl,e⟩:=I.lstM hH
 refine call_meets F.slot_list_clear ⟨_,e,rfl⟩ F.entry_list_clear (F.args_list_clear_1 _) (AutoSeq1.list_clear_list_0 l its.toArray n (by rw [List.size_toArray]; omega)) ⟨e,?_⟩
 exact ⟨.non,_,I.lset (its':=[]) (ys:=[]) hH e rfl .nil (Nat.zero_le _),rfl,q⟩
noncomputable def rCat:R2:=fun x y H Q=>∃ l b xs zs,x=.ref l/\y=.ref b/\H l=some (.lst xs)/\H b=some (.lst zs)/\xs.length+zs.length<=sizeLine/\∀ p,H p=none->Q (.ref p) (upd H p (.lst (xs++zs)))
theorem o_p:OpR X (binaryOp .Add) rCat:=by
 intro pins s σ H x y v u Q I rx ry h
 obtain ⟨l,b,xs,zs,rfl,rfl,hH,hB,hz,q⟩:=h
 cases rx
 cases ry
 obtain ⟨z,its,n,r,hl,e⟩:=I.lstM hH
 obtain ⟨z2,its2,n2,r2,hl2,e2⟩:=I.lstM hB
 refine PySem.P.add_list e e2 ?_ (by rw [List.size_toArray,List.size_toArray]; omega)
 have ea:its.toArray++its2.toArray=(its++its2).toArray:=by simp
 rw [ea]
 exact ⟨.ref _,_,I.lnew (t':=s.toks) (r.append r2) (by rw [List.length_append]; omega),rfl,q _ I.fresh⟩
noncomputable def rRep:R2:=fun x y H Q=>∃ l k xs,x=.ref l/\y=.int k/\H l=some (.lst xs)/\-(2 ^ 63)<=k/\k < 2 ^ 63/\xs.length*k.toNat<=sizeLine /\
 ∀ p,H p=none->Q (.ref p) (upd H p (.lst (List.replicate k.toNat xs).flatten))
theorem m_K {α:Type} (xs:List α) (k:Nat):(List.replicate k xs).flatten.length=k*xs.length:=by
 induction k with
 | zero=>simp
 | succ k ih=>rw [List.replicate_succ,List.flatten_cons,List.length_append,ih,Nat.succ_mul,Nat.add_comm]
theorem o_q:OpR X (binaryOp .Mult) rRep:=by
 intro pins s σ H x y v u Q I rx ry h
 obtain ⟨l,k,xs,rfl,rfl,hH,h1,h2,hz,q⟩:=h
 cases rx
 obtain ⟨t,rfl⟩:=ry
 obtain ⟨z,its,n,r,hl,e⟩:=I.lstM hH
 have hlen:its.toArray.size*k.toNat<=sizeLine:=by rw [List.size_toArray,← hl]; exact hz
 have hcap:¬ its.toArray.size*k.toNat > (2 ^ 63 - 1) / 8:=by
  have:(sizeLine:Nat)<=(2 ^ 63 - 1) / 8:=by decide
  omega
 have hfit:¬ (!Builtin.List.listFitsIndex k)=true:=by
  rw [fitsIndex_both h1 h2]
  exact Bool.false_ne_true
 have hlong:¬ Builtin.List.listTooLong (its.toArray.size*k.toNat)=true:=by
  rw [k_I hlen]
  exact Bool.false_ne_true
 have hnew:List.foldl (fun x1 x2=>x1++x2) #[] (List.replicate (if its.toArray.isEmpty=true then 0 else k.toNat) its.toArray)=(List.replicate k.toNat its).flatten.toArray:=by
  have f0:∀ m:Nat,List.foldl (fun x1 x2=>x1++x2) #[] (List.replicate m its.toArray)=(List.replicate m its).flatten.toArray:=fun m=>by
   have:=g_U its m []
   rw [List.nil_append] at this
   exact this
  rw [f0]
  cases its with
  | nil=>simp
  | cons a r'=>rw [if_neg (by simp)]
 refine wpAny_binaryOp_repeat_ref (T := "list") (U := "int") (by decide) ⟨_,e,rfl⟩ (fun s'=>typeIs_int s' k t) noFill_list_mul F.fills_int_mul F.slot_int_rmul repeat_list F.slot_int_index.lookup
  (call_meets F.slot_int_rmul (typeIs_int s k t) F.entry_int_rmul (F.args_int_rmul_2 _ _) (int___rmul___int_list k t l its.toArray n)
   ⟨e,rfl,⟨_,e,rfl⟩,call_meets F.slot_list_mul ⟨_,e,rfl⟩ F.entry_list_mul (F.args_list_mul_2 _ _) (AutoListH.list___mul___list_int_3 l its.toArray n k t hfit hcap hlong) ⟨e,?_⟩⟩)
 rw [hnew]
 exact ⟨.ref _,_,I.lnew (t':=s.toks) (r.rep k.toNat) (by rw [m_K,Nat.mul_comm]; exact hz),rfl,q _ I.fresh⟩
end
section
variable {prog:Program} {w:World} {A:Around} {E:Value->Shared->Prop} {s:Shared}
set_option maxRecDepth 100000 in
end
end L2
namespace Att
open PySem PySem.W PySem.Calls PyProof.Rows
theorem f_U {P:Params} {h:Heap}:∀ (ns:List Int) (vs:List Value),WellAll P h vs (ns.map WData.int)->IntsAre vs ns:=by
 intro ns
 induction ns with
 | nil =>
  intro vs w
  rw [List.map_nil] at w
  cases w
  exact .nil
 | cons n ns ih =>
  intro vs w
  rw [List.map_cons] at w
  cases w with
  | cons a b =>
   cases a
   exact .cons _ _ (ih _ b)
theorem g_V {l:OpenLaw} {n:Nat} (hn:l.most=some n) {P:Params} {h:Heap} {args:List WData} {vals:List Value}
  (hpre:l.row.toRowW.claim.pre args=true) (hwl:WellAll P h vals args) :
  ∃ a vs ns,vals=[Value.ref a]/\args=[WData.list (ns.map WData.int)]/\h.get? a=some { cls:=.type "list",data:=.seq vs.toArray }/\IntsAre vs ns/\ns.length<=n:=by
 have hsh:WShape.hasAll [] args [.list .int]=true:=(pre_splitW hpre).1
 have hc:l.pre.holds [] { args:=args }=true:=(pre_splitW hpre).2
 obtain ⟨d,r,rfl,h1,h2⟩:=hasAllW_cons hsh
 obtain rfl:=hasAllW_nil h2
 obtain ⟨xs,rfl,h3⟩:=hasW_list h1
 obtain ⟨ns,rfl⟩:=items_int h3
 have hlen:ns.length<=n:=by
  unfold OpenLaw.pre at hc
  have h4:(WTm.not (.lt (.lit (.int (n:Int))) (.len (.arg 0)))).holds [] { args:=[.list (ns.map .int)] }=true:=by
   have h4:=(holds_andW hc).1
   rw [hn] at h4
   exact h4
  have h5:=condW_of h4 (w_not (w_lt w_lit (w_len_list (w_arg rfl))))
  rw [List.length_map] at h5
  refine Nat.le_of_not_lt fun q=>?_
  have q':(n:Int) < ((ns.length:Nat):Int):=by omega
  first
   | (rw [decide_eq_true q'] at h5; exact absurd h5 (by decide))
   | (simp at h5; omega)
 cases hwl with
 | cons w1 w2 =>
  cases w2
  cases w1 with
  | list ho hall=>exact ⟨_,_,ns,rfl,rfl,ho,f_U ns _ hall,hlen⟩
theorem g_W (l:OpenLaw) (args:List WData):l.row.toRowW.claim.post args (.bool true) args=true :=
 postW_of (r:=l.row.toRowW) (X:=(true == true))
  (show WShape.has [] (.bool true) .bool=true by first | rfl | decide | simp [WShape.has,WShape.arms,WShape.armsAll])
  (show (WTm.eq .res (.lit (.bool true))).value [] { args:=args,res:=some (.bool true),after:=args }=some (.bool (true == true)) from w_eq_bool (w_res rfl) w_lit) rfl
theorem attach_call {l:OpenLaw} {n:Nat} {q:Program} {loose:List Str} {XP:(Str->Option Value)->Heap->Prop} {YP:World->Heap->Prop} {d:DefRec}
  (hn:l.most=some n) (hdf:d.params.defaults=[])
  (call:∀ (w:World) (s₀ s₁:Shared) (mg mb:Str->Option Value) (fa:Addr) (o:Obj) (pm cd doc:Value) (a:Addr) (vs:List Value) (ns:List Int),
   Ground q loose [] XP w s₀ mg mb s₁.heap->YP w s₁.heap ->
   s₁.heap.get? fa=some o->o.data=.func (docDef d.name d.params d.body d.scope pm cd doc)->s₁.heap.CodeRec cd d.name->mg d.name=some (.ref fa) ->
   s₁.heap.get? a=some { cls:=.type "list",data:=.seq vs.toArray }->IntsAre vs ns->ns.length<=n->s₁.gens=#[] ->
   codeAny (model l.prog w) callerA (.call (.ref fa) ⟨[.ref a],[]⟩) (fun r s'=>r=.ok (.ret (.bool true))/\OldK s₁.heap s'.heap/\s'.os=s₁.os/\AllBare s'.gens) s₁) :
  WalkO q loose XP YP l.row.toRowW d [] (fun f vs=>PySem.call f vs):=by
 intro w s₀ s₁ mg mb G Y fa o pm cd doc dV kV ho hd hcd hD hmg hg args vals as hpre hlay hrd hwl hlo
 obtain rfl:dV=.none:=Dflts.none hD hdf
 obtain rfl:kV=.none:=Dflts.noKw hD
 obtain ⟨a,vs,ns,rfl,rfl,hobj,hints,hlen⟩:=g_V hn hpre hwl
 refine enter_call (codeAny_mono (call w s₀ s₁ mg mb fa o pm cd doc a vs ns G Y ho (fd_plain hd) hcd hmg hobj hints hlen hg) fun r s' hq=>?_)
 obtain ⟨rfl,h2,h3,h4⟩:=hq
 exact ⟨.inl ⟨.bool true,.bool true,[],rfl,fun _=>rfl,.bool true,g_W l _,fun _=>⟨List.Pairwise.nil,fun _ hm=>(nomatch hm)⟩⟩,h2,h3,h4⟩
section
variable {prog:Program} {w:World} {A:Around} {E:Value->Shared->Prop} {s:Shared} {K:Frag}
noncomputable def o_Y (h:Heap) (L d:Addr):List (Addr × Obj):=(List.range h.objs.size).filterMap fun a=>if a=L\/a=d then none else (h.get? a).map fun o=>(a,o)
end
end Att
namespace L2
open PySem PySem.Spec PyProof.Rows
open PySem.W (Frag)
theorem e_q:∀ {vs:List Value} {ns:List Int},IntsAre vs ns->Vals (ns.map V.int) vs
 | _,_,.nil=>.nil
 | _,_,.cons n t h=>.cons ⟨t,rfl⟩ (e_q h)
noncomputable def Only (H:Hp):Prop:=∀ b,H b=none\/∃ o xs,H b=some (.frz o (.lst xs))
theorem k_K {P:Program} {w:World} {K:Frag} {mg mb:Str->Option Value} {CX:CXT} {k:Nat} {fa a:Addr} {fd:FuncData} {x:Str} {sp:Sp} {s₁:Shared} {vs:List Value} {ns:List Int}
  (KX:K.In s₁.heap) (hns:s₁.heap.Ns mainGlobals mg) (hb:s₁.heap.Ns builtinsNs mb) (hbb:∀ x:Str,x ≠ "__name__" -> mb x=bootBuiltins x) (hlim:s₁.heap.NoLimit) (hg:s₁.gens=#[])
  (ha:s₁.heap.get? a=some { cls:=.type "list",data:=.seq vs.toArray }) (hi:IntsAre vs ns) (hl:ns.length<=sizeLine) (hr:Room k callerA)
  (F:∀ base:Heap,K.In base->base.Ns mainGlobals mg->FnOk P w K mg base CX k fa fd [x] sp) (hbind:∀ (s:Shared) (u:Value),BindsTo s fd ⟨[u],[]⟩ [(x,u)])
  (hsp:∀ H:Hp,Only H->SqL K H a (ns.map V.int)->sp [.ref a] H (fun v _=>v=.bl true) fun _ _ _=>False)
  (hCX:∀ H e s',CX [] H s₁ (fun _ _ _=>False) e s'->False) :
  codeAny (model P w) callerA (.call (.ref fa) ⟨[.ref a],[]⟩) (fun r s'=>r=.ok (.ret (.bool true))/\OldK s₁.heap s'.heap/\s'.os=s₁.os/\AllBare s'.gens) s₁:=by
 have rv:=e_q hi
 have lenV:=hi.length
 -- from an abstract heap in which nothing but the script may be tracked
 have core:∀ H:Hp,Only H->SqL K H a (ns.map V.int)->HOk P w H s₁.heap->(∀ b,H b≠none->b=a)->(H a≠none->K.lookup a=none) ->
   codeAny (model P w) callerA (.call (.ref fa) ⟨[.ref a],[]⟩) (fun r s'=>r=.ok (.ret (.bool true))/\OldK s₁.heap s'.heap/\s'.os=s₁.os/\AllBare s'.gens) s₁:=by
  intro H hO hS hok hA hK
  have base_of:∀ {b:Addr} {o:Obj},s₁.heap.get? b=some o->H b=none->(hidT s₁.heap H).get? b=some o:=fun e n=>h_P e n
  have noA:∀ {b:Addr} {o:Obj} {es:Array DictEntry} {ep:Nat},s₁.heap.get? b=some o->o.data=.dict es ep->H b=none:=fun {b o es ep} e d=>by
   cases q:H b with
   | none=>rfl
   | some u =>
    have e':b=a:=hA b (by rw [q]; simp)
    subst e'
    rw [ha] at e; cases e
    have d':Data.seq vs.toArray _=Data.dict es ep:=d
    cases d'
  have nsK:∀ {b:Addr} {m:Str->Option Value},s₁.heap.Ns b m->(hidT s₁.heap H).Ns b m:=fun {b m} ⟨o,es,ep,e,d,r⟩=>⟨o,es,ep,base_of e (noA e d),d,r⟩
  have hKb:K.In (hidT s₁.heap H):=fun b o e=>base_of (KX b o e) (by
   cases q:H b with
   | none=>rfl
   | some u =>
    have e':b=a:=hA b (by rw [q]; simp)
    subst e'
    rw [hK (by rw [q]; simp)] at e; cases e)
  have hM:Mod K mg (hidT s₁.heap H):=⟨hKb,nsK hns,⟨mb,nsK hb,hbb⟩,let ⟨mc,h1,h2⟩:=hlim; ⟨mc,nsK h1,h2⟩⟩
  have e0:Env0 P w K mg (hidT s₁.heap H) callerA [] s₁ H:=⟨rfl,hM,fun b o e=>j_h e,Nat.le_of_eq (g_M _ _),trivial,fun b hb=>absurd (show b∈([]:List Addr) from hb) (by simp),hok,.of_eq hg⟩
  refine codeAny_mono ((F _ hKb (nsK hns)).run callerA [] s₁ H ⟨[.ref a],[]⟩ [.ref a] [.ref a] _ _ hr e0 (hbind s₁ (.ref a)) (.cons rfl .nil) (hsp H hO hS)) fun r s' h=>?_
  cases r with
  | error e=>exact (hCX H e s' h).elim
  | ok fl =>
   cases fl with
   | next=>exact False.elim h
   | brk=>exact False.elim h
   | cont=>exact False.elim h
   | ret u =>
    obtain ⟨v,H',os,bare,un,hok',r',q⟩:=h
    have q':v=.bl true:=q
    subst q'
    obtain rfl:u=Value.bool true:=r'
    refine ⟨rfl,OldK.of_keep fun b o e=>?_,os,bare⟩
    cases q:H b with
    | none=>exact un.keep b o e q (by intro z; exact absurd (show b∈([]:List Addr) from z) (by simp)) (by simp)
    | some u =>
     rcases hO b with z | ⟨ob,xs,z⟩
     ·rw [q] at z; cases z
     ·have z2:=un.frzs b ob _ z
      obtain ⟨e1,_⟩:=hok b _ z
      obtain ⟨e2,_⟩:=hok' b _ z2
      rw [e] at e1; cases e1
      exact e2
 cases hk:K.lookup a with
 | some o =>
  -- the script is one of the module's own objects
  have e:=KX a o hk
  rw [ha] at e
  cases e
  refine core (fun _=>none) (fun _=>.inl rfl) (.inr ⟨_,vs.toArray,_,hk,rfl,rfl,rfl,by rw [List.size_toArray,lenV]; exact hl,by simpa using rv⟩) (fun b u z=>by have z':(none:Option HO)=some u:=z; cases z') (fun b z=>absurd rfl z) fun z=>absurd rfl z
 | none =>
  refine core (fun b=>if b=a then some (.frz { cls:=.type "list",data:=.seq vs.toArray } (.lst (ns.map V.int))) else none) (fun b=>?_) (.inl (.inr ⟨{ cls:=.type "list",data:=.seq vs.toArray },if_pos rfl⟩)) (fun b u z=>?_) (fun b z=>?_) fun _=>hk
  ·by_cases hb:b=a
   ·exact .inr ⟨_,_,if_pos hb⟩
   ·exact .inl (if_neg hb)
  ·by_cases hb:b=a
   ·have z':=(if_pos hb).symm.trans z
    cases z'
    subst hb
    exact ⟨ha,by rw [List.length_map]; exact hl,vs,_,rv,ha⟩
   ·have z':=(if_neg hb).symm.trans z
    cases z'
  ·by_cases hb:b=a
   ·exact hb
   ·exact absurd (if_neg hb) z
noncomputable abbrev KOf {K:Frag} {h:Heap} (_:K.In h):Frag:=K
theorem o_X {l:PySem.W.OpenLaw} {n k:Nat} {q:Program} {loose:List Str} {XP:(Str->Option Value)->Heap->Prop} {YP:World->Heap->Prop} {d:DefRec} {K:Params->Frag} {CX:World->CXT} {sp:World->Sp} {x:Str}
  (hn:l.most=some n) (hn2:n<=sizeLine) (hdf:d.params.defaults=[]) (hr:Room k callerA)
  (hY:∀ (w:World) (h:Heap),YP w h->(K w.params).In h)
  (F:∀ (w:World) (mg:Str->Option Value) (fa:Addr) (h:Heap),(K w.params).In h->h.Ns mainGlobals mg->mg d.name=some (.ref fa) ->
   ∃ fd:FuncData,(∀ (s:Shared) (u:Value),BindsTo s fd ⟨[u],[]⟩ [(x,u)]) /\
    ∀ base:Heap,(K w.params).In base->base.Ns mainGlobals mg->FnOk l.prog w (K w.params) mg base (CX w) k fa fd [x] (sp w))
  (hsp:∀ (w:World) (H:Hp) (a:Addr) (ns:List Int),ns.length<=n->Only H->SqL (K w.params) H a (ns.map V.int)->sp w [.ref a] H (fun v _=>v=.bl true) fun _ _ _=>False)
  (hCX:∀ (w:World) (H:Hp) (s:Shared) (e:Value) (s':Shared),CX w [] H s (fun _ _ _=>False) e s'->False) :
  PySem.W.WalkO q loose XP YP l.row.toRowW d [] (fun f vs=>PySem.call f vs):=by
 refine Att.attach_call hn hdf fun w s₀ s₁ mg mb fa o pm cd doc a vs ns G Y ho hd hcd hmg hobj hints hlen hg=>?_
 have KX:=hY w _ Y
 obtain ⟨fd,hb,hF⟩:=F w mg fa _ KX G.T.g hmg
 exact k_K KX G.T.g G.T.b G.T.builtins G.T.nolimit hg hobj hints (Nat.le_trans hlen hn2) hr hF hb (fun H hO hS=>hsp w H a ns hlen hO hS) fun H e s'=>hCX w H s₁ e s'
noncomputable def e_E (s:Stmt) (j:Nat):Stmt:=match s with
 | .ClassDef _ _ _ body _ _ _ _ _ _ _=>body.getD j (.Pass ⟨0,0,0,0⟩)
 | _=>.Pass ⟨0,0,0,0⟩
noncomputable def f_Z (s:Stmt):Arguments:=match s with
 | .FunctionDef _ a _ _ _ _ _ _ _ _=>a
 | _=>{ posonlyargs:=[],args:=[],vararg:=none,kwonlyargs:=[],kw_defaults:=[],kwarg:=none,defaults:=[] }
noncomputable def c_j (s:Stmt):List Stmt:=match s with
 | .FunctionDef _ _ b _ _ _ _ _ _ _=>b
 | _=>[]
noncomputable def a_G (s:Stmt):Scope:=match s with
 | .FunctionDef _ _ _ _ _ _ sc _ _ _=>sc
 | _=>{ kind:=.function,names:=[],isGenerator:=false,isCoroutine:=false }
noncomputable abbrev CX0:CXT:=fun _ _ _ _ _ _=>False
noncomputable abbrev E0:XK:=fun _ _ _=>False
theorem a_W {X:Cx}:e_A CX0 X E0:=fun _ _ _ _ _ _ _ h=>h.elim
structure Fun (K:Frag) (x qual:Str) (st:Stmt) (f:Addr) (fd:FuncData):Prop where
 ex:∃ (oc:Value) (od:Option Addr) (kV doc pm:Value) (an:Option Addr) (cdv ct:Value) (osl:Array (Option Value)),
  fd=PySem.W.fnOf x qual (f_Z st) (c_j st) (a_G st) .none kV doc pm an cdv ct/\K.lookup f=some ⟨oc,od,.func fd,osl⟩/\PySem.W.codeIn K cdv qual=true
 kp:PySem.W.keepIn K (.ref f)=true
section
variable {P:Program} {w:World} {K:Frag} {mg:Str->Option Value} {base:Heap}
theorem Fun.ok {x qual:Str} {st:Stmt} {f:Addr} {fd:FuncData} {N ps:List Str} {k:Nat} {sp:Sp} (F:Fun K x qual st f fd) (S:a_Q N ps (a_G st)) (len:∀ vs H Q E,sp vs H Q E->vs.length=ps.length)
  (hbody:∀ (cdv:Value) (A:Around) (outer:List Env) (s:Shared) (H:Hp) (vs:List V) (Q:VK) (E:XK),Room k (A.deeper (envOfC qual (a_G st) s.heap.objs.size f cdv))->sp vs H Q E ->
   ∃ t,PSs (cxOf CX0 P w K mg base N qual (a_G st) f cdv A outer s H E).nox (c_j st) t/\t { nx:=fun _ H'=>Q .non H',rt:=Q } (start N vs) H):FnOk P w K mg base CX0 (k+1) f fd ps sp:=by
 obtain ⟨oc,od,kV,doc,pm,an,cdv,ct,osl,rfl,lk,hcd⟩:=F.ex
 refine j_k lk hcd S len fun A outer s H vs Q E hr hsp=>?_
 obtain ⟨t,h,q⟩:=hbody cdv A outer s H vs Q E hr hsp
 exact ⟨t,h.nox,q⟩
theorem Fun.binds {x qual:Str} {st:Stmt} {f:Addr} {fd:FuncData} {ps:List Str} (F:Fun K x qual st f fd)
  (h:∀ (kV doc pm:Value) (an:Option Addr) (cdv ct:Value) (us:List Value),us.length=ps.length->bindArgs (PySem.W.fnOf x qual (f_Z st) (c_j st) (a_G st) .none kV doc pm an cdv ct) ⟨us,[]⟩=pure (ps.zip us)):a_Z K fd ps []:=by
 obtain ⟨oc,od,kV,doc,pm,an,cdv,ct,osl,rfl,lk,hcd⟩:=F.ex
 exact .all (h kV doc pm an cdv ct)
theorem fun_mk {x qual:Str} {st:Stmt} {f:Addr} {oc:Value} {od an:Option Addr} {osl:Array (Option Value)} {kV doc pm cdv ct:Value} (l:K.lookup f=some ⟨oc,od,.func (PySem.W.fnOf x qual (f_Z st) (c_j st) (a_G st) .none kV doc pm an cdv ct),osl⟩)
  (c:PySem.W.codeIn K cdv qual=true) (k:PySem.W.keepIn K (.ref f)=true):Fun K x qual st f (PySem.W.fnOf x qual (f_Z st) (c_j st) (a_G st) .none kV doc pm an cdv ct):=⟨⟨oc,od,kV,doc,pm,an,cdv,ct,osl,rfl,l,c⟩,k⟩
end
theorem c_m {n:Nat} (h:n<=1000):n < sizeLine:=Nat.lt_of_le_of_lt h (by decide)
section
variable {X:Cx}
theorem pv (i:Nat) {x:Str} {pos:Pos} (hN:X.N[i]?=some x:=by rfl) (hv:Vis X.env.scope x:=by first | exact Or.inl rfl | exact Or.inr (Or.inl rfl) | exact Or.inr (Or.inr rfl)) (hd:(x == ("__debug__" : Str))=false:=by decide)
  (hcd:(x == ("__classdict__" : Str))=false:=by decide):PE X (.Name x pos) (tVar i):=i_v hN hv hd hcd
end
theorem iteF {A B:Prop} (h:B):if false=true then A else B:=by
 rw [if_neg Bool.false_ne_true]
 exact h
theorem iteT {A B:Prop} (h:A):if true=true then A else B:=by
 rw [if_pos rfl]
 exact h
theorem ite2 {c A B:Prop} [Decidable c] (h1:c->A) (h2:¬ c->B):if c then A else B:=by
 by_cases h:c
 ·rw [if_pos h]
  exact h1 h
 ·rw [if_neg h]
  exact h2 h
noncomputable def Same (H H':Hp):Prop:=∀ b o,H b=some o->H' b=some o
theorem Same.refl (H:Hp):Same H H:=fun _ _ h=>h
theorem Same.trans {H H1 H2:Hp} (a:Same H H1) (b:Same H1 H2):Same H H2:=fun c o h=>b c o (a c o h)
theorem Same.free {H H':Hp} (e:Same H H') {l:Addr} (h:H' l=Option.none):H l=Option.none:=by
 cases q:H l with
 | none=>rfl
 | some o =>
  rw [e l o q] at h
  cases h
theorem Same.seq {K:Frag} {H H':Hp} {a:Addr} {xs:List V} (e:Same H H') (h:SqL K H a xs):SqL K H' a xs:=by
 rcases h with (h | ⟨o,h⟩) | h
 ·exact .inl (.inl (e _ _ h))
 ·exact .inl (.inr ⟨o,e _ _ h⟩)
 ·exact .inr h
end L2
set_option maxHeartbeats 4000000
namespace L2
open PySem PySem.Spec PyProof.Rows
open PySem.W (Frag)
noncomputable def clOf (env:Env):List (Str × NameKind)->List (Str × Addr)->List (Str × Addr)
 | [],cs=>cs
 | (n,k) :: r,cs=>clOf env r (if k == .free then (n,(env.cells.lookup n).getD 0) :: cs else cs)
theorem d_X {env:Env} {n:Str} {c:Addr}:∀ {l:List (Str × NameKind)} {cs:List (Str × Addr)},(∀ y∈l,y.2=.free->∃ c,env.cells.lookup y.1=some c) ->
  (clOf env l cs).lookup n=some c->cs.lookup n=some c\/env.cells.lookup n=some c
 | [],_,_,h=>.inl h
 | (m,k) :: r,cs,hl,h=>by
  have hr:∀ y∈r,y.2=.free->∃ c,env.cells.lookup y.1=some c:=fun y hy=>hl y (List.mem_cons_of_mem _ hy)
  rcases d_X hr h with q | q
  ·by_cases hk:(k == NameKind.free)=true
   ·rw [if_pos hk] at q
    obtain ⟨c',e⟩:=hl (m,k) List.mem_cons_self (by simpa using hk)
    rw [List.lookup_cons] at q
    cases hm:n == m with
    | true =>
     rw [hm] at q
     have q':(env.cells.lookup m).getD 0=c:=Option.some.inj q
     have em:n=m:=by simpa using hm
     rw [e] at q'
     have q2:c'=c:=q'
     rw [em,e,q2]
     exact .inr rfl
    | false =>
     rw [hm] at q
     exact .inl q
   ·rw [if_neg hk] at q
    exact .inl q
  ·exact .inr q
theorem d_Y {env:Env} {n:Str}:∀ {l:List (Str × NameKind)} {cs:List (Str × Addr)},((n,NameKind.free)∈l\/∃ c,cs.lookup n=some c)->∃ c,(clOf env l cs).lookup n=some c
 | [],_,h=>by
  rcases h with h | h
  ·simp at h
  ·exact h
 | (m,k) :: r,cs,h=>by
  refine d_Y (l:=r) ?_
  by_cases hn:(n,NameKind.free)∈r
  ·exact .inl hn
  ·refine .inr ?_
   rcases h with h | ⟨c,h⟩
   ·rcases List.mem_cons.mp h with e | e
    ·cases e
     rw [if_pos (by decide)]
     exact ⟨(env.cells.lookup n).getD 0,by rw [List.lookup_cons]; simp⟩
    ·exact absurd e hn
   ·by_cases hk:(k == NameKind.free)=true
    ·rw [if_pos hk,List.lookup_cons]
     cases hm:n == m with
     | true=>exact ⟨_,rfl⟩
     | false=>exact ⟨c,h⟩
    ·rw [if_neg hk]
     exact ⟨c,h⟩
theorem e_B {scope:Scope} {env:Env} (h:∀ y∈scope.names,y.2=.free->∃ c,env.cells.lookup y.1=some c):closureFor scope env=pure (clOf env scope.names []):=by
 have go:∀ (l:List (Str × NameKind)) (cs:List (Str × Addr)),(∀ y∈l,y.2=.free->∃ c,env.cells.lookup y.1=some c) ->
   (forIn l cs (fun (x:Str × NameKind) (r:List (Str × Addr))=>if x.2 == NameKind.free then (do let a ← cellOf env x.1; pure (ForInStep.yield ((x.1,a) :: r))) else (pure (ForInStep.yield r):Sem _)):Sem _)=pure (clOf env l cs):=by
  intro l
  induction l with
  | nil=>intro cs _; rfl
  | cons y r ih =>
   intro cs hl
   obtain ⟨n,k⟩:=y
   have hr:∀ y∈r,y.2=.free->∃ c,env.cells.lookup y.1=some c:=fun y hy=>hl y (List.mem_cons_of_mem _ hy)
   rw [List.forIn_cons]
   by_cases hk:(k == NameKind.free)=true
   ·obtain ⟨c,e⟩:=hl (n,k) List.mem_cons_self (by simpa using hk)
    have e1:cellOf env n=pure c:=by unfold cellOf; rw [show env.cells.lookup n=some c from e]
    dsimp only
    rw [if_pos hk,e1]
    simp only [pure_bind]
    rw [ih _ hr]
    show _=pure (clOf env r _)
    rw [if_pos hk,show env.cells.lookup n=some c from e]
    all_goals rfl
   ·dsimp only
    rw [if_neg hk]
    simp only [pure_bind]
    rw [ih _ hr]
    show _=pure (clOf env r _)
    rw [if_neg hk]
 have e:closureFor scope env=(forIn scope.names ([]:List (Str × Addr)) (fun (x:Str × NameKind) (r:List (Str × Addr))=>if x.2 == NameKind.free then (do let a ← cellOf env x.1; pure (ForInStep.yield ((x.1,a) :: r))) else (pure (ForInStep.yield r):Sem _)):Sem _):=by
  unfold closureFor
  first
   | rfl
   | (simp only [bind_pure]; rfl)
   | (simp; done)
 rw [e]
 exact go _ _ h
theorem e_F {env:Env}:∀ {names:List (Str × NameKind)} {x:Str},names.lookup x=some .free ->
  (names.map fun (n,k)=>if (k == NameKind.free && env.scope.kind == .function && env.kindOf n == some .cell) then (n,NameKind.cell) else (n,k)).lookup x=some .cell \/
  (names.map fun (n,k)=>if (k == NameKind.free && env.scope.kind == .function && env.kindOf n == some .cell) then (n,NameKind.cell) else (n,k)).lookup x=some .free
 | [],_,h=>by simp at h
 | (n,k) :: r,x,h=>by
  have ih:=@e_F env r x
  cases hx:x == n with
  | true =>
   simp only [List.lookup_cons,hx] at h
   cases h
   by_cases hc:(NameKind.free == NameKind.free && env.scope.kind == .function && env.kindOf n == some .cell)=true
   ·refine .inl ?_
    rw [List.map_cons]
    dsimp only
    rw [if_pos hc,List.lookup_cons,hx]
   ·refine .inr ?_
    rw [List.map_cons]
    dsimp only
    rw [if_neg hc,List.lookup_cons,hx]
  | false =>
   simp only [List.lookup_cons,hx] at h
   rw [List.map_cons]
   dsimp only
   by_cases hc:(k == NameKind.free && env.scope.kind == .function && env.kindOf n == some .cell)=true
   ·rw [if_pos hc,List.lookup_cons,hx]; exact ih h
   ·rw [if_neg hc,List.lookup_cons,hx]; exact ih h
structure d_y (X:Cx) (scope:Scope) (x:Str) (fr:List (Str × Nat)):Prop where
 kind:scope.kind=.function
 cell:∀ y∈scope.names,y.2≠.cell
 free:∀ y∈scope.names,y.2=.free->X.env.kindOf y.1=some .cell\/X.env.kindOf y.1=some .free
 loc:∀ y∈scope.names,y.2=.local->scope.names.lookup y.1=some .local
 name:scope.names.lookup x=some .local
 nd:(x :: fr.map (·.1)).Nodup
 fr:∀ p∈fr,X.N[p.2]?=some p.1/\scope.names.lookup p.1=some .free
noncomputable def b_X (fr:List (Str × Nat)) (σ:St):St:=fr.map fun p=>σ.getD p.2 none
section
variable {X:Cx} {scope:Scope} {x:Str} {fr:List (Str × Nat)}
theorem d_y.cells {pins:List (Addr × Obj)} {σ:St} {H:Hp} {s:Shared} (c:d_y X scope x fr) (I:Inv X pins σ H s):∀ y∈scope.names,y.2=.free->∃ c,X.env.cells.lookup y.1=some c :=
 fun y hy hf=>I.ok.has y.1 (c.free y hy hf)
theorem d_y.was {pins:List (Addr × Obj)} {σ:St} {H:Hp} {s:Shared} (c:d_y X scope x fr) (I:Inv X pins σ H s) {y:Str} {b:Addr} (h:(clOf X.env scope.names []).lookup y=some b):X.env.cells.lookup y=some b:=by
 rcases d_X (c.cells I) h with q | q
 ·simp at q
 ·exact q
noncomputable def c_F (i:Nat) (te:TE):TS:=fun D σ H=>te σ H fun v H1=>D.nx (σ.set i (some v)) H1
end
theorem g_J:entryFor table "proto.unchain" = some Builtin.«proto.unchain»:=entryFor_of_fast (by kernel_rfl)
section
variable {prog:Program} {w:World} {A:Around} {E:Value->Shared->Prop} {s:Shared}
theorem i_J {α:Type} {a e:Addr} {oe oa:Obj} {vs va:Array Value} {Q:α->Shared->Prop} (hh:A.handled=some (.ref e)) (hne:e≠a) (he:s.heap.get? e=some oe) (hd:oe.data=.fields vs) (h2:vs[2]?=some .none)
  (ha:s.heap.get? a=some oa) (hda:oa.data=.fields va) (hz:2 < va.size) (h:E (.ref a) { s with heap:=s.heap.update a (Obj.mapFields (·.setIfInBounds 2 (.ref e))) }) :
  wpAny (model prog w) A (raiseNew (.ref a):Sem α) Q E s:=by
 unfold raiseNew
 refine wpAny_bind (wpAny_handled ?_)
 rw [hh]
 dsimp only
 have n1:((Value.ref e != Value.ref a)=true):=by simp [hne]
 rw [if_pos n1]
 refine wpAny_bind (wpAny_holding (wpAny_runValue (codeAny_builtin g_J ?_)))
 unfold Builtin.«proto.unchain»
 dsimp only
 refine wpAny_bind (wpAny_field he hd h2 ?_)
 rw [if_pos (by rfl)]
 refine wpAny_bind (wpAny_pure (wpAny_pure ?_))
 unfold updateField
 refine wpAny_bind (wpAny_bind (wpAny_load ha ?_))
 rw [hda]
 dsimp only
 rw [if_pos hz]
 exact wpAny_update ha (wpAny_throw h)
theorem g_K {it l e:Addr} {i:Nat} {items:Array Value} {oe:Obj} {vs:Array Value} {Q:Option Value->Shared->Prop} (hh:A.handled=some (.ref e)) (he:s.heap.get? e=some oe) (hd':oe.data=.fields vs) (h2:vs[2]?=some .none) (hne:e≠it)
  (hit:s.heap.IsListIter it l i) (hl:s.heap.IsList l items) (hx:items[i]?=none) (hQ:∀ h',Heap.ExtBut it s.heap h'->Q none { s with heap:=h' }):wpAny (model prog w) A (pyNext (.ref it)) Q E s:=by
 have ⟨o,ho,hc,hd⟩:=hit; have ⟨ol,hol,_,nl,hdl⟩:=hl
 unfold pyNext; refine wpAny_bind (wpAny_attempt (wpAny_callSpecial?_slot (name:=Str.ofString "__next__") hit.typeIs slot_listiter_next (wpAny_call_entry slot_listiter_next hit.typeIs entry_listiter_next ?_ (args_listiter_next _))))
 show wpAny _ _ (field (.ref it) 0 >>= _) _ _ s; refine wpAny_bind (wpAny_field ho hd (x:=.ref l) rfl ?_)
 show wpAny _ _ (if (Value.ref l == Value.none)=true then _ else _) _ _ s; rw [if_neg (show ¬ ((Value.ref l == Value.none)=true) from Bool.false_ne_true)]
 show wpAny _ _ (field (.ref it) 1 >>= _) _ _ s; refine wpAny_bind (wpAny_field ho hd (x:=.int i 0) rfl ?_)
 show wpAny _ _ (seqItems? (.ref l) >>= _) _ _ s; refine wpAny_bind (wpAny_seqItems hol hdl ?_); simp only [Int.toNat_natCast,hx]
 refine wpAny_bind (wpAny_rule (wpAny_bind (wpAny_setField ho hd (by simp) ?_))); show wpAny _ _ (newExc (.type "StopIteration") [] >>= _) _ _ _
 refine wpAny_bind ?_; simp only [newExc,newTuple]; refine wpAny_bind (wpAny_newObj_type ?_ (by size_fits))
 refine wpAny_bind (m:=firstArgMember _ _) (wpAny_of_eq (a:=Value.none) (by first | rfl | (simp only [firstArgMember]; rfl)) ?_); refine wpAny_newObj_type ?_ (by size_fits)
 have he1:(s.heap.update it (Obj.mapFields (·.setIfInBounds 0 Value.none))).get? e=some oe:=(Heap.get?_update_other _ _ (Ne.symm hne)).trans he
 refine i_J hh ?_ (Heap.get?_push_of_some _ (Heap.get?_push_of_some _ he1)) hd' h2 (Heap.get?_push_size _ rfl) rfl (by simp; omega) ?_
 ·exact Nat.ne_of_lt (Heap.lt_size (Heap.get?_push_of_some _ he1))
 ·refine wpAny_bind (wpAny_isInstance (T := "StopIteration") (b:=true) ⟨_,Heap.get?_update_self _ (Heap.get?_push_size _ rfl) rfl,rfl⟩ isSubtype_stop ?_)
  refine wpAny_pure (hQ _ fun b o hb hbo=>?_)
  have k1:=Heap.get?_push_of_some { cls:=.type "tuple",data:=.seq #[] 0 } ((Heap.get?_update_other s.heap (Obj.mapFields (·.setIfInBounds 0 Value.none)) (Ne.symm hb)).trans hbo)
  refine (Heap.get?_update_other _ _ ?_).trans ?_
  ·exact Nat.ne_of_gt (Heap.lt_size k1)
  ·exact Heap.get?_push_of_some _ k1
end
noncomputable def Ctx0 (h:Heap) (e:Addr):Prop:=∃ oe vs,h.get? e=some oe/\oe.data=.fields vs/\vs[2]?=some .none
section
variable {M:Model} {A:Around} {E:Value->Shared->Prop} {s:Shared}
theorem k_L {base:Heap} {env:Env} {outer:List Env} {L e:Addr} {oe:Obj} {vs:Array Value} {head a0:Value} {hadNext:Bool} {Q:Unit->Shared->Prop} (hfr:A.frames=some (env :: outer)) (hl:s.heap.FunFrames base (env :: outer)) (hf:env.frame=some L)
  (he:s.heap.get? e=some oe) (hkb:base.StaysIn s.heap) (hen:base.get? e=none) (hd:oe.data=.fields vs) (hsz:1 < vs.size) (h0:vs[0]?=some a0) (h2:vs[2]?=some .none)
  (h:∀ h',Heap.NotedW base (env :: outer) e oe.cls a0 (rawInt L) s.heap h'->Ctx0 h' e->Q () { s with heap:=h' }) :
  wpAny M A (do let a ← frameOf env; let pl ← entryPlaceOf L hadNext; let b ← EntryCells.newEntry head a .none (rawInt L) .none pl; setField (.ref e) 1 b) Q E s:=by
 have notF:e ∉ (env :: outer).filterMap (·.frame):=by
  intro hm; have ⟨_,o,ho,nf⟩:=hl.mem hm
  rw [he] at ho; cases ho; exact nf vs hd
 refine wpAny_bind (wpAny_frameOf_fun hfr hl hf fun h₁ hs₁=>wpAny_bind (wpAny_entryPlaceOf fun pl hpl=>?_))
 unfold EntryCells.newEntry newFields
 refine wpAny_bind (wpAny_newObj_type ?_ (hpl.sizeOk5 _ _ _ _ _))
 have g1:h₁.get? e=some oe:=(hs₁.2.1 e notF).trans he
 have b1:base.StaysIn h₁:=fun b o q=>(hs₁.2.1 b (by intro hm; rw [(hl.mem hm).1] at q; cases q)).trans (hkb b o q)
 generalize hT:({ cls:=.type "traceback",dict:=none,data:=.fields ([head,.ref L,.none,rawInt L,.none]++(if pl.isEmpty then List.replicate 6 Value.none else pl)).toArray }:Obj)=oT
 have g2:=Heap.get?_push_of_some (h:=h₁) oT g1
 refine wpAny_setField g2 hd hsz ?_
 have ne:h₁.objs.size≠e:=Nat.ne_of_gt (Heap.lt_size g1)
 have d3:=Obj.data_mapFields hd (·.setIfInBounds 1 (Value.ref h₁.objs.size))
 have g3:=Heap.get?_update_self (Obj.mapFields (·.setIfInBounds 1 (Value.ref h₁.objs.size))) g2 (Obj.isFreed_of_fields d3)
 have T3:((h₁.push oT).update e (Obj.mapFields (·.setIfInBounds 1 (Value.ref h₁.objs.size)))).get? h₁.objs.size=some oT:=(Heap.get?_update_other _ _ (Ne.symm ne)).trans (Heap.get?_push_size h₁ (by subst hT; rfl))
 have kp:∀ b o,b≠e->h₁.get? b=some o->((h₁.push oT).update e (Obj.mapFields (·.setIfInBounds 1 (Value.ref h₁.objs.size)))).get? b=some o:=fun b o q hb=>(Heap.get?_update_other _ _ (Ne.symm q)).trans (Heap.get?_push_of_some _ hb)
 have nr:∀ b o,s.heap.get? b=some o->(∀ vs,o.data≠.fields vs)->b≠e:=fun b o hb nf q=>by
  rw [q,he] at hb; cases hb; exact nf vs hd
 refine h _ ⟨fun b o q=>kp b o (by intro z; rw [z,hen] at q; cases q) (b1 b o q),hl.of_keeps fun b o hb nf=>?_,?_,fun b o hb nf=>?_⟩ ⟨_,_,g3,d3,by rw [Array.getElem?_setIfInBounds_ne (by decide)]; exact h2⟩
 ·obtain ⟨sl,q⟩:=hs₁.2.2 b o hb
  exact ⟨_,kp b _ (nr b o hb nf) q,rfl⟩
 ·subst hT
  exact ⟨_,_,h₁.objs.size,_,_,g3,⟨Obj.cls_mapFields _ _,by rw [Array.getElem?_setIfInBounds_ne (by decide)]; exact h0⟩,d3,by simp [hsz],b1.fresh,ne,T3,rfl,by first | (simp; done) | (rcases hpl with rfl | ⟨_,_,_,_,_,_,_,rfl⟩ <;> simp)⟩
 ·obtain ⟨sl,q⟩:=hs₁.2.2 b o hb
  exact ⟨sl,kp b _ (nr b o hb nf) q⟩
theorem j_r {base:Heap} {l:List Env} {e:Addr} {cls a0 fl:Value} {Q:Unit->Shared->Prop} (hkb:base.StaysIn s.heap) (hl:s.heap.FunFrames base l) (ht:s.heap.TracedAtW base e cls a0 fl) (hc:Ctx0 s.heap e)
  (h:∀ h',base.StaysIn h'->h'.FunFrames base l->h'.TracedW base e cls a0->Ctx0 h' e->s.heap.UpToSlots h'->Q () { s with heap:=h' }):wpAny M A (setFlight (.ref e) none) Q E s:=by
 obtain ⟨oe,vs,T,oT,ts,he,hcls,hd,h1,nT,Te,gT,dT,h3⟩:=ht
 obtain ⟨oe',vs',he',hd',h2⟩:=hc
 rw [he] at he'; cases he'; rw [hd] at hd'; cases hd'
 have z3:3 < ts.size:=(Array.getElem?_eq_some_iff.mp h3).1
 have ot:∀ b,b≠T->(s.heap.update T (Obj.mapFields (·.setIfInBounds 3 ((none:Option Addr).elim Value.none fun f=>rawInt f)))).get? b=s.heap.get? b:=fun b q=>Heap.get?_update_other _ _ (Ne.symm q)
 have nr:∀ b o,s.heap.get? b=some o->(∀ vs,o.data≠.fields vs)->b≠T:=fun b o hb nf q=>by
  rw [q,gT] at hb; cases hb; exact nf ts dT
 unfold setFlight
 refine wpAny_bind (wpAny_field he hd h1 ?_)
 rw [if_pos (show (Value.ref T != Value.none)=true by simp)]
 refine wpAny_setField gT dT z3 (h _ (fun b o q=>(ot b (by intro z; rw [z,nT] at q; cases q)).trans (hkb b o q)) (hl.of_keeps fun b o hb nf=>⟨o,(ot b (nr b o hb nf)).trans hb,rfl⟩) ?_ ⟨oe,vs,(ot e (Ne.symm Te)).trans he,hd,h2⟩ fun b o hb nf=>⟨o.slots,(ot b (nr b o hb nf)).trans hb⟩)
 exact ⟨oe,vs,T,_,_,(ot e (Ne.symm Te)).trans he,hcls,hd,h1,nT,Te,Heap.get?_update_self _ gT (Obj.isFreed_of_fields (Obj.data_mapFields dT _)),Obj.data_mapFields dT _,by simp [z3]⟩
theorem n_S {base:Heap} {env:Env} {outer:List Env} {L e:Addr} {cls a0:Value} {Q:Unit->Shared->Prop} (hfr:A.frames=some (env :: outer)) (hf:env.frame=some L) (hfl:Heap.FlyingW base (env :: outer) e cls a0 s.heap) (hc:Ctx0 s.heap e)
  (hQ:∀ h',Heap.HeldW base (env :: outer) e cls a0 L h'->Ctx0 h' e->s.heap.UpToSlots h'->Q () { s with heap:=h' }):wpAny M A (noteFrame (.ref e) env) Q E s:=by
 obtain ⟨f1,f2,f3,oe,vs,T,oT,ts,he,⟨hcls,h0⟩,hd,h1,nT,Te,gT,dT,h3⟩:=hfl
 obtain ⟨oe',vs',he',hd',h2⟩:=hc
 rw [he] at he'; cases he'; rw [hd] at hd'; cases hd'
 subst hcls
 unfold noteFrame
 simp only [hf]
 refine wpAny_bind (wpAny_field he hd h1 ?_)
 rw [if_pos (show (Value.ref T != Value.none)=true by simp)]
 refine wpAny_bind (wpAny_field gT dT h3 ?_)
 rw [if_neg (show ¬ ((Value.none == rawInt L)=true) by simp [rawInt])]
 refine wpAny_bind (wpAny_setField gT dT (Array.getElem?_eq_some_iff.mp h3).1 ?_)
 have ot:∀ b,b≠T->(s.heap.update T (Obj.mapFields (·.setIfInBounds 3 Value.none))).get? b=s.heap.get? b:=fun b q=>Heap.get?_update_other _ _ (Ne.symm q)
 have nr:∀ b o,s.heap.get? b=some o->(∀ vs,o.data≠.fields vs)->b≠T:=fun b o hb nf q=>by
  rw [q,gT] at hb; cases hb; exact nf ts dT
 refine k_L hfr (f3.of_keeps fun b o hb nf=>⟨o,(ot b (nr b o hb nf)).trans hb,rfl⟩) hf ((ot e (Ne.symm Te)).trans he) (fun b o q=>(ot b (by intro z; rw [z,nT] at q; cases q)).trans (f1 b o q)) f2 hd (Array.getElem?_eq_some_iff.mp h1).1 h0 h2 fun h' ⟨x1,x2,x3,x4⟩ c=>?_
 exact hQ h' ⟨x1,f2,x2,x3⟩ c fun b o hb nf=>x4 b o ((ot b (nr b o hb nf)).trans hb) nf
theorem i_K {base:Heap} {l:List Env} {e L:Addr} {cls a0:Value} {Q:Unit->Shared->Prop} (hh:Heap.HeldW base l e cls a0 L s.heap) (hc:Ctx0 s.heap e)
  (hQ:∀ h',Heap.FlyingW base l e cls a0 h'->Ctx0 h' e->s.heap.UpToSlots h'->Q () { s with heap:=h' }):wpAny M A (setFlight (.ref e) none) Q E s :=
 let ⟨f1,f2,f3,f4⟩:=hh; j_r f1 f3 f4 hc fun h' k1 k2 k3 c k4=>hQ h' ⟨k1,f2,k2,k3⟩ c k4
theorem m_L {base:Heap} {l:List Env} {e:Addr} {cls a0:Value} {Q:Unit->Shared->Prop} (hh:Heap.FlyingW base l e cls a0 s.heap) (hc:Ctx0 s.heap e)
  (hQ:∀ h',Heap.FlyingW base l e cls a0 h'->Ctx0 h' e->s.heap.UpToSlots h'->Q () { s with heap:=h' }):wpAny M A (setFlight (.ref e) none) Q E s :=
 let ⟨f1,f2,f3,f4⟩:=hh; j_r f1 f3 f4.at hc fun h' k1 k2 k3 c k4=>hQ h' ⟨k1,f2,k2,k3⟩ c k4
theorem m_M {base:Heap} {env:Env} {outer:List Env} {L e:Addr} {cls a0:Value} {Q:Unit->Shared->Prop} (hfr:A.frames=some (env :: outer)) (hf:env.frame=some L) (hfl:Heap.FlyingW base (env :: outer) e cls a0 s.heap) (hc:Ctx0 s.heap e)
  (hQ:∀ h',Heap.FlyingW base outer e cls a0 h'->Ctx0 h' e->s.heap.UpToSlots h'->Q () { s with heap:=h' }):wpAny M A (leaving env (.ref e)) Q E s:=by
 unfold leaving
 refine wpAny_bind (n_S hfr hf hfl hc fun h1 hh c1 u1=>?_)
 refine i_K (s:={ s with heap:=h1 }) hh c1 fun h2 ⟨k1,k2,⟨_,_,k3⟩,k4⟩ c2 u2=>hQ h2 ⟨k1,k2,k3,k4⟩ c2 (u1.trans u2)
theorem k_M {base h:Heap} {env:Env} {outer:List Env} {L e:Addr} {cls:Value} {args:List Value} {Q:Unit->Shared->Prop} (hfr:A.frames=some (env :: outer)) (hf:env.frame=some L) (hkb:base.StaysIn h) (hl:h.FunFrames base (env :: outer)) (hx:Heap.MadeExcOf h s.heap e cls args)
  (hQ:∀ h' t,Heap.FlyingW base outer e cls (.ref t) h'->Ctx0 h' e->s.heap.UpToSlots h'->Q () { s with heap:=h' }):wpAny M A (leaving env (.ref e)) Q E s:=by
 obtain ⟨t,he,htn,ht⟩:=hx.there
 have fr:∀ b,h.get? b=none->base.get? b=none:=fun b hb=>by
  cases hq:base.get? b with
  | none=>rfl
  | some o'=>rw [hkb b o' hq] at hb; cases hb
 unfold leaving noteFrame
 simp only [hf]
 refine wpAny_bind (wpAny_bind (wpAny_field he rfl (x:=.none) rfl ?_))
 rw [if_neg (by decide)]
 refine k_L hfr (hl.of_keeps fun b o hb _=>⟨o,hx.keeps b o hb,rfl⟩) hf he (fun b o hb=>hx.keeps b o (hkb b o hb)) (fr e hx.new) rfl (by simp) (a0:=.ref t) rfl rfl fun h1 ⟨x1,x2,x3,x4⟩ c1=>?_
 refine i_K (s:={ s with heap:=h1 }) ⟨x1,fr e hx.new,x2,x3⟩ c1 fun h2 ⟨k1,k2,⟨_,_,k3⟩,k4⟩ c2 u2=>hQ h2 t ⟨k1,k2,k3,k4⟩ c2 (Heap.UpToSlots.trans x4 u2)
end
theorem b_B.there {P:Program} {w:World} {H:Hp} {h:Heap} {a:Addr} {o:HO} (x:b_B P w H h a o):∃ ob,h.get? a=some ob:=by
 cases o with
 | lst xs=>obtain ⟨_,_,_,_,e⟩:=x; exact ⟨_,e⟩
 | tup xs=>obtain ⟨_,_,_,ob,e,_⟩:=x; exact ⟨ob,e⟩
 | dK kvs=>obtain ⟨_,_,_,_,o,_,_,e,_⟩:=x; exact ⟨_,e⟩
 | dT kvs=>obtain ⟨_,_,_,_,o,_,_,e,_⟩:=x; exact ⟨_,e⟩
 | set S n=>obtain ⟨o,_,_,_,e,_⟩:=x; exact ⟨_,e⟩
 | ins C dx fs=>obtain ⟨_,_,_,e,_⟩:=x; exact ⟨_,e⟩
 | own y=>exact x
 | xd fs=>obtain ⟨_,⟨_,_,_,e,_⟩,_⟩:=x; exact ⟨_,e⟩
 | rng lo hi=>obtain ⟨_,_,_,e⟩:=x; exact ⟨_,e⟩
 | frz ob u=>exact ⟨_,x.1⟩
 | tbl ps=>exact ⟨_,x⟩
 | met f y=>exact ⟨_,x⟩
 | ext φ=>exact x.2.1
noncomputable abbrev Cov (fs:List Addr) (h₀:Heap) (H:Hp) (h B:Heap):Prop:=∀ b o,h.get? b=some o->b ∉ fs->((∃ o',h₀.get? b=some o')\/∃ u,H b=some u)->B.get? b=some o
noncomputable def FlyX (X:Cx) (pins:List (Addr × Obj)) (H:Hp) (e:Addr) (C:Value) (h:Heap):Prop:=(∃ B a0,Heap.FlyingW B X.stack e C a0 h/\Cov (frs X.stack) X.s₀.heap H h B/\∀ p∈X.pn++pins,B.get? p.1=some p.2)/\Ctx0 h e
noncomputable def CX1 (P:Program) (w:World):CXT:=fun outer H s E ev s'=>∃ e C H' B a0,ev=.ref e/\s'.os=s.os/\AllBare s'.gens/\Un (frs outer) [] H H' s.heap s'.heap/\HOk P w H' s'.heap /\
 Heap.FlyingW B outer e C a0 s'.heap/\Cov (frs outer) s.heap H' s'.heap B/\Ctx0 s'.heap e/\E C none H'
noncomputable abbrev XE:=St->Value->Hp->Prop
noncomputable def j_s (X:Cx) (EX:XE):Prop:=∀ (pins:List (Addr × Obj)) (σ:St) (H:Hp) (s:Shared) (e:Addr) (C:Value),Inv X pins σ H s->FlyX X pins H e C s.heap->EX σ C H->X.xe (.ref e) s
noncomputable def k_N (X:Cx) (EX:XE):Prop:=∀ (pins:List (Addr × Obj)) (σ:St) (H:Hp) (s:Shared) (h':Heap) (e:Addr) (C:Value) (vs:List Value),Inv X pins σ H s->Heap.MadeExcOf s.heap h' e C vs->EX σ C H->X.xe (.ref e) { s with heap:=h' }
theorem h_A {X:Cx} {pins:List (Addr × Obj)} {σ:St} {H:Hp} {s:Shared} {h'' B:Heap} (I:Inv X pins σ H s) (hst:X.stack=X.env :: X.outer) (hfr:X.env.frame=some X.env.locals) (hex:X.ex=[])
  (stay:B.StaysIn h'') (sm:s.heap.UpToSlots h'') (cov:Cov (frs X.stack) X.s₀.heap H s.heap B) :
  Un X.fs [] X.H₀ H X.s₀.heap h''/\HOk X.prog X.w H h''/\Cov X.fs X.s₀.heap H h'' B:=by
 have u:=I.base
 rw [hex] at u
 have hfs:frs X.stack=X.env.locals :: X.fs:=by
  rw [hst]
  unfold frs
  rw [List.filterMap_cons,hfr]
  rfl
 have old:∀ b o,X.s₀.heap.get? b=some o->b ∉ X.fs->b ∉ frs X.stack:=fun b o e hb hm=>by
  rw [hfs] at hm
  rcases List.mem_cons.mp hm with z | z
  ·exact absurd (Nat.lt_of_lt_of_le (Heap.lt_size e) I.ok.above) (by rw [z]; exact Nat.lt_irrefl _)
  ·exact hb z
 have trk:∀ b v,H b=some v->b ∉ frs X.stack:=fun b v e hm=>by
  have:=I.stkFree b hm
  rw [e] at this
  cases this
 have keepO:∀ b o,s.heap.get? b=some o->b ∉ frs X.stack->((∃ o',X.s₀.heap.get? b=some o')\/∃ v,H b=some v)->h''.get? b=some o:=fun b o e hb hc=>stay b o (cov b o e hb hc)
 have frm:∀ b,b∈X.fs->∀ o,s.heap.get? b=some o->∃ sl,h''.get? b=some { o with slots:=sl }:=fun b hb o e=>by
  obtain ⟨_,o',e',nf⟩:=I.funs.mem hb
  rw [e] at e'
  cases e'
  exact sm b o e nf
 refine ⟨⟨fun b o e n hb hx=>?_,fun b o e n hb hx=>?_,u.free,fun b o e hx=>?_,u.tups,u.frzs,u.tbls⟩,fun a o ha=>?_,fun b o e hb hc=>?_⟩
 ·exact keepO b o (u.keep b o e n hb hx) (old b o e hb) (.inl ⟨o,e⟩)
 ·obtain ⟨sl,e1⟩:=u.slot b o e n hb hx
  obtain ⟨sl',e2⟩:=frm b hb _ e1
  exact ⟨sl',e2⟩
 ·obtain ⟨o1,e1⟩:=u.there b o e hx
  by_cases hb:b∈X.fs
  ·obtain ⟨sl,e2⟩:=frm b hb _ e1
   exact ⟨_,e2⟩
  ·exact ⟨o1,keepO b o1 e1 (old b o e hb) (.inl ⟨o,e⟩)⟩
 ·refine (I.hok a o ha).stay (fun b v hb q=>?_) (fun _ q=>q) fun _ _ q=>q
  rcases hb with hb | hb
  ·subst hb
   exact keepO b v q (trk b o ha) (.inr ⟨o,ha⟩)
  ·exact keepO b v q (trk b _ hb) (.inr ⟨_,hb⟩)
 ·rcases hc with ⟨o',e'⟩ | ⟨v,e'⟩
  ·obtain ⟨o1,e1⟩:=u.there b o' e' (by simp)
   have q:=keepO b o1 e1 (old b o' e' hb) (.inl ⟨o',e'⟩)
   rw [e] at q
   cases q
   exact cov b o e1 (old b o' e' hb) (.inl ⟨o',e'⟩)
  ·obtain ⟨o1,e1⟩:=(I.hok b v e').there
   have q:=keepO b o1 e1 (trk b v e') (.inr ⟨v,e'⟩)
   rw [e] at q
   cases q
   exact cov b o e1 (trk b v e') (.inr ⟨v,e'⟩)
section
variable {P:Program} {w:World} {K:Frag} {mg:Str->Option Value} {base:Heap} {N:List Str} {qual:Str} {scope:Scope} {f:Addr} {cd:Value} {A:Around} {outer:List Env} {s₀:Shared} {H₀:Hp} {E:XK}
theorem g_X:j_s (cxOf (CX1 P w) P w K mg base N qual scope f cd A outer s₀ H₀ E) (fun _ C H=>E C none H):=by
 intro pins σ H s e C I F hE
 obtain ⟨⟨B,a0,fl,cov,_⟩,c0⟩:=F
 refine m_M I.ok.frames rfl fl c0 fun h'' fl'' c1 sm=>?_
 obtain ⟨un,ok,cv⟩:=h_A I rfl rfl rfl fl''.1 sm cov
 exact ⟨e,C,H,B,a0,rfl,I.os,I.bare,un,ok,fl'',cv,c1,hE⟩
theorem g_n:k_N (cxOf (CX1 P w) P w K mg base N qual scope f cd A outer s₀ H₀ E) (fun _ C H=>E C none H):=by
 intro pins σ H s h' e C vs I M hE
 have hfu:=I.stack
 have hid:=PySem.W.funFrames_hide (as:=frs (cxOf (CX1 P w) P w K mg base N qual scope f cd A outer s₀ H₀ E).stack) hfu (fun env he a ha=>List.mem_filterMap.mpr ⟨env,he,ha⟩)
 refine k_M (s:={ s with heap:=h' }) (h:=s.heap) I.ok.frames rfl (fun b o q=>PySem.W.of_hideAll _ q) hid M fun h'' t fl'' c1 sm=>?_
 obtain ⟨un,ok,cv⟩:=h_A I rfl rfl rfl fl''.1 ((Heap.UpToSlots.of_keeps M.keeps).trans sm) fun b o q hb _=>PySem.W.hideAll_get _ q hb
 exact ⟨e,C,H,_,_,rfl,I.os,I.bare,un,ok,fl'',cv,c1,hE⟩
end
section
variable {X:Cx} {EX:XE} {k:Nat} {f:Addr} {fd:FuncData} {ps:List Str} {sp:Sp} {dvs:List V} {ds:List Value} {x:Str} {p pos:Pos} {e:Expr} {es:List Expr} {t:TA}
noncomputable def g_o (sp:Sp) (dvs:List V) (EX:XE) (t:TA):TE:=fun σ H Q=>t σ H fun vs H1=>sp (vs++dvs) H1 Q fun C _ H'=>EX σ C H'
theorem m_N {pins:List (Addr × Obj)} {σ:St} {H:Hp} {s:Shared} {Q:VK} {us:List Value} {vs:List V} (F:FnOk X.prog X.w X.K X.mg X.base (CX1 X.prog X.w) k f fd ps sp) (hr:Room k X.A) (hb:a_Z X.K fd ps ds) (hd:Vals dvs ds) (hx:j_s X EX)
  (hex:X.ex=[]) (I:Inv X pins σ H s) (r:Vals vs us) (h:sp (vs++dvs) H Q fun C _ H'=>EX σ C H'):wpAny (model X.prog X.w) X.A (call (.ref f) us) (EP X pins σ Q) X.xe s:=by
 have r2:Vals (vs++dvs) (us++ds):=r.append hd
 have hl:(us++ds).length=ps.length:=by rw [← r2.length]; exact F.len _ _ _ _ h
 refine wpAny_call (codeAny_mono (F.run X.A X.stack s H ⟨us,[]⟩ (us++ds) (vs++dvs) Q _ hr I.env0 (hb s us I.kIn hl) r2 h) fun r s' hq=>?_)
 cases r with
 | error ev =>
  obtain ⟨e,C,H',B,a0,rfl,os,bare,un,ok,fl,cov,c0,q⟩:=hq
  have J:Inv X pins σ H' s':=I.call' os un ok bare fun b z=>absurd z (by simp)
  refine hx pins σ H' s' e C J ⟨⟨B,a0,fl,fun b o e1 hb hc=>cov b o e1 hb ?_,fun p hp=>?_⟩,c0⟩ q
  ·rcases hc with ⟨o',e'⟩ | hc
   ·obtain ⟨o2,e2⟩:=I.base.there b o' e' (by rw [hex]; simp)
    exact .inl ⟨o2,e2⟩
   ·exact .inr hc
  ·obtain ⟨e1,n1,ne,nf,_⟩:=J.pin p hp
   refine cov p.1 p.2 e1 (fun hm=>?_) (.inl ⟨_,(I.pin p hp).1⟩)
   rcases List.mem_cons.mp (I.stkSub p.1 hm) with z | z
   ·exact ne z
   ·exact nf z
 | ok fl =>
  cases fl with
  | ret u=>exact I.after hq
  | next=>exact False.elim hq
  | brk=>exact False.elim hq
  | cont=>exact False.elim hq
theorem e_G (F:FnOk X.prog X.w X.K X.mg X.base (CX1 X.prog X.w) k f fd ps sp) (hr:Room k X.A) (hg:Gl X x) (hm:X.mg x=some (.ref f)) (hk:PySem.W.keepIn X.K (.ref f)=true) (hb:a_Z X.K fd ps ds) (hd:Vals dvs ds) (hx:j_s X EX)
  (ha:PA X (e :: es) t) (hex:X.ex=[]:=by rfl) (hdb:(x == ("__debug__" : Str))=false:=by decide) (he:starEach (e :: es) X.env=(false,eval e X.env) :: starEach es X.env:=by rfl) (hpl:(backTo pos (starEach es X.env)).any (·.1)=false:=by rfl) :
  PE X (.Call (.Name x p) (e :: es) [] pos) (g_o sp dvs EX t):=by
 intro pins s σ H Q I h
 refine wpAny_Call_Name_kw (c_R I hg hm ?_ hdb)
 refine PySem.W.callWith_K (h₀:=X.base) I.ok.mod.kin hk (thn (ha pos pins s σ H _ I h) fun us s1 ⟨vs,H1,I1,r,q⟩=>⟨I1.kIn,?_⟩) he hpl
 exact m_N F hr hb hd hx hex I1 r q
theorem e_r {P:Program} {w:World} {Y:Cx}:e_A (CX1 P w) Y E0:=fun _ _ _ _ _ _ _ h=>by
 obtain ⟨_,_,_,_,_,_,_,_,_,_,_,_,_,q⟩:=h
 exact q.elim
end
theorem o_r {K:Frag} {h:Heap} {C:Addr} {bmB:List Value} {newId:String} (KX:K.In h) (hq:PySem.W.excIn K C bmB newId=true) :
  ∃ bm N nm qn bs hd sn sub ab col dd k0 k1 k2 k3 k5 mN,h.get? C=some (excClassObj nm qn C N bs bm hd sn sub ab col dd k0 k1 k2 k3 k5 newId)/\h.Ns N mN/\mN "__init__" = none/\OwnTail h bmB bm:=by
 revert hq
 unfold PySem.W.excIn
 split
 ·next dd cd sl lk =>
  split
  ·next C1 bm k0 k1 k2 k3 nw k5 em es =>
   intro hq
   simp only [Bool.and_eq_true,beq_iff_eq,Bool.not_eq_true'] at hq
   obtain ⟨⟨⟨⟨⟨e1,e2⟩,e3⟩,e4⟩,e5⟩,e6⟩:=hq
   subst e1 e2
   cases cd with
   | mk nm bs mro ns qn hd sn sub ab col del =>
    have em':mro=Value.ref C1 :: bm:=em
    have e3':del=false:=e3
    subst em' e3'
    have esl:sl=#[k0,k1,k2,k3,some (Value.builtin nw),k5]:=by
     cases sl with
     | mk l=>exact congrArg Array.mk es
    subst esl
    exact ⟨bm,ns,nm,qn,bs,hd,sn,sub,ab,col,dd,k0,k1,k2,k3,k5,_,KX _ _ lk,Heap.Ns.of_isNs (PySem.W.isNs_of_in KX e5),PySem.W.nsMap_none_of_in KX e5 e6,PySem.W.tail_of_in KX e4⟩
  ·intro z; cases z
 ·intro z; cases z
theorem OwnTail.up {h h':Heap} {bmB bm:List Value} (T:OwnTail h bmB bm) (k:∀ b o,h.get? b=some o->h'.get? b=some o):OwnTail h' bmB bm:=T.keeps k
section
variable {X:Cx} {EX:XE} {C:Addr} {x:Str} {np cpos pos:Pos} {e₀:Expr} {rest:List Expr} {t:TA} {bmB:List Value} {B newId initId:String}
noncomputable def i_L (C:Addr) (EX:XE) (t:TA):TS:=fun _ σ H=>t σ H fun vs H1=>vs.length<=sizeLine/\EX σ (.ref C) H1
theorem h_Y (hc:X.calm=true) (hx:k_N X EX) (hg:Gl X x) (hm:X.mg x=some (.ref C)) (hC:PySem.W.excIn X.K C bmB newId=true) (FB:ExcBaseFacts B newId initId bmB) (ha:PA X (e₀ :: rest) t)
  (hdb:(x == ("__debug__" : Str))=false:=by decide) (he:starEach (e₀ :: rest) X.env=(false,eval e₀ X.env) :: starEach rest X.env:=by rfl) (hpl:(backTo cpos (starEach rest X.env)).any (·.1)=false:=by rfl) :
  PS X (.Raise (some (.Call (.Name x np) (e₀ :: rest) [] cpos)) none pos) (i_L C EX t):=by
 intro pins s σ H D I h
 obtain ⟨bm,N,nm,q,bs,hd,sn,sub,ab,col,dd,k0,k1,k2,k3,k5,mN,hcls,hns,hni,T⟩:=o_r I.mod.kin hC
 have hpl':(backTo cpos (starEach (e₀ :: rest) X.env)).any (·.1)=false:=by
  rw [he]
  show (false || (backTo cpos (starEach rest X.env)).any (·.1))=false
  rw [hpl]
  rfl
 refine wpAny_Raise_call_subT (C:=C) (nm:=nm) (q:=q) (N:=N) (bs:=bs) (bm:=bm) (hdct:=hd) (sn:=sn) (sub:=sub) (ab:=ab) (col:=col) (dd:=dd) (k0:=k0) (k1:=k1) (k2:=k2) (k3:=k3) (k5:=k5) FB (mN:=mN) (T.hasType FB.hasBase) (I.ok.hd hc) hpl' hni
  (c_R I hg hm ⟨rfl,?_⟩ hdb)
 have hw:=ha cpos pins s σ H _ I h
 rw [he] at hw ⊢
 refine Calls.evalArgs_plain (thn hw fun us s2 ⟨vs,H2,I2,r,z,q2⟩=>⟨rfl,?_,I2.bk _ _ hcls,hns.keeps I2.bk,T.keeps I2.bk,fun h' e M=>hx pins σ H2 s2 h' e _ us I2 M q2⟩)
 show us.length<=sizeLine
 rw [← r.length]
 exact z
end
section
variable {X:Cx} {pins:List (Addr × Obj)} {σ:St} {H:Hp} {s:Shared}
theorem Inv.flown {h' B:Heap} (I:Inv X pins σ H s) (hst:X.stack=X.env :: X.outer) (hfr:X.env.frame=some X.env.locals) (hex:X.ex=[]) (stay:B.StaysIn h') (sm:s.heap.UpToSlots h') (cov:Cov (frs X.stack) X.s₀.heap H s.heap B)
  (hp:∀ p∈X.pn++pins,B.get? p.1=some p.2):Inv X pins σ H { s with heap:=h' }:=by
 obtain ⟨un,ok,_⟩:=h_A I hst hfr hex stay sm cov
 have cl:∀ c v,s.heap.IsCell c v->h'.IsCell c v:=fun c v ⟨o,e,d⟩=>by
  obtain ⟨sl,e'⟩:=sm c o e fun vs z=>by rw [d] at z; cases z
  exact ⟨_,e',d⟩
 refine ⟨I.ok,I.os,I.bare,by rw [hex]; exact un,?_,fun x c e=>?_,I.free,I.freeC,fun p hm=>?_,ok,I.len⟩
 ·obtain ⟨m,hn,hl⟩:=I.loc
  refine ⟨m,sm.ns hn,fun i x v e1 e2 e3=>?_⟩
  obtain ⟨u,r,l⟩:=hl i x v e1 e2 e3
  refine ⟨u,r,?_⟩
  rcases l with l | ⟨k,c,e,z⟩
  ·exact .inl l
  ·exact .inr ⟨k,c,e,cl c _ z⟩
 ·obtain ⟨v,z⟩:=I.cell x c e
  exact ⟨v,cl c v z⟩
 ·obtain ⟨_,r⟩:=I.pin p hm
  exact ⟨stay _ _ (hp p hm),r⟩
noncomputable def c_T (e:Addr) (C:Value):HO:=.ext fun h=>∃ o,h.get? e=some o/\o.cls=C/\∃ vs,o.data=.fields vs/\vs[2]?=some .none
theorem Inv.trackE {e:Addr} {C:Value} {oe:Obj} {vs:Array Value} (I:Inv X pins σ H s) (he:s.heap.get? e=some oe) (hc:oe.cls=C) (hd:oe.data=.fields vs) (h2:vs[2]?=some .none) (hn:H e=none) (hnew:X.s₀.heap.get? e=none) (hpn:∀ p∈X.pn++pins,p.1≠e) :
  Inv X pins σ (upd H e (c_T e C)) s:=by
 have ne:∀ b u,H b=some u->b≠e:=fun b u q z=>by rw [z,hn] at q; cases q
 have nL:X.env.locals≠e:=fun z=>by
  obtain ⟨m,⟨o,es,ep,ho,hdd,_⟩,_⟩:=I.loc
  rw [z,he] at ho
  cases ho
  rw [hd] at hdd
  cases hdd
 have nC:∀ x c,X.env.cells.lookup x=some c->c≠e:=fun x c q z=>by
  obtain ⟨v,o,ho,hdd⟩:=I.cell x c q
  rw [z,he] at ho
  cases ho
  rw [hd] at hdd
  cases hdd
 have u:=I.base
 refine ⟨I.ok,I.os,I.bare,⟨u.keep,u.slot,fun b o q n hx=>?_,u.there,fun b xs q=>?_,fun b o v q=>?_,fun b ps q=>?_⟩,I.loc,I.cell,?_,fun x c q=>?_,fun p hp=>?_,fun a o q=>?_,I.len⟩
 ·rw [a_E (fun z=>by rw [z,hnew] at q; cases q)]
  exact u.free b o q n hx
 ·have:=u.tups b xs q
  rw [a_E (ne _ _ this)]
  exact this
 ·have:=u.frzs b o v q
  rw [a_E (ne _ _ this)]
  exact this
 ·obtain ⟨m,e1⟩:=u.tbls b ps q
  exact ⟨m,by rw [a_E (ne _ _ e1)]; exact e1⟩
 ·rw [a_E nL]; exact I.free
 ·rw [a_E (nC x c q)]; exact I.freeC x c q
 ·obtain ⟨e1,n1,r⟩:=I.pin p hp
  exact ⟨e1,by rw [a_E (hpn p hp)]; exact n1,r⟩
 ·by_cases ha:a=e
  ·subst ha
   rw [a_F] at q
   cases q
   exact ⟨⟨oe,he,hc,vs,hd,h2⟩,⟨oe,he⟩,fun h1 h2 ⟨o,e1,r⟩ k=>⟨o,k o e1,r⟩⟩
  ·rw [a_E ha] at q
   exact (I.hok a o q).stay (fun _ _ _ z=>z) (fun b z=>by rw [a_E (ne _ _ z)]; exact z) fun b xs z=>by rw [a_E (ne _ _ z)]; exact z
theorem Inv.unbind {h':Heap} {m:Str->Option Value} {u:Option Value} {i:Nat} {n:Str} (I:Inv X pins σ H s) (hN:X.N.Nodup) (hi:X.N[i]?=some n) (hl:X.env.scope.names.lookup n=some .local)
  (hn:s.heap.Ns X.env.locals m) (hn':h'.Ns X.env.locals (fun x=>if x=n then u else m x)) (hs:Heap.SameBut X.env.locals s.heap h') (hm:∀ (j:Nat) x v,X.N[j]?=some x->σ[j]?=some (some v)->Vis X.env.scope x->∃ u,RelV v u/\Look X.env s.heap m x u) :
  Inv X pins (σ.set i none) H { s with heap:=h' }:=by
 obtain ⟨oL,esL,epL,hoL,_⟩:=id hn
 have nL:∀ b o,X.s₀.heap.get? b=some o->b≠X.env.locals:=fun b o e=>Nat.ne_of_lt (Nat.lt_of_lt_of_le (Heap.lt_size e) I.ok.above)
 have kp:∀ b o,b≠X.env.locals->s.heap.get? b=some o->h'.get? b=some o:=fun b o hb e=>(hs.2 b hb).trans e
 have nT:∀ b v,H b=some v->b≠X.env.locals:=fun b v e z=>by rw [z,I.free] at e; cases e
 have u0:=I.base
 refine ⟨I.ok,I.os,I.bare,⟨fun b o e n hb hx=>kp b o (nL b o e) (u0.keep b o e n hb hx),fun b o e n hb hx=>?_,u0.free,fun b o e hx=>?_,u0.tups,u0.frzs,u0.tbls⟩,⟨_,hn',fun j x v e1 e2 e3=>?_⟩,fun x c e=>?_,I.free,I.freeC,fun p hp=>?_,fun a o e=>?_,by simpa using I.len⟩
 ·obtain ⟨sl,e1⟩:=u0.slot b o e n hb hx
  exact ⟨sl,kp b _ (nL b o e) e1⟩
 ·obtain ⟨o1,e1⟩:=u0.there b o e hx
  exact ⟨o1,kp b o1 (nL b o e) e1⟩
 ·have hj:j≠i:=fun z=>by
   subst z
   have hlt:j < σ.length:=by rw [I.len]; exact (List.getElem?_eq_some_iff.mp hi).1
   rw [List.getElem?_set_self hlt] at e2
   cases e2
  rw [List.getElem?_set_ne (Ne.symm hj)] at e2
  have hx:x≠n:=fun z=>hj (g_e hN e1 (z ▸ hi))
  obtain ⟨w,r,l⟩:=hm j x v e1 e2 e3
  refine ⟨w,r,?_⟩
  rcases l with ⟨k,e⟩ | ⟨k,c,e,z⟩
  ·exact .inl ⟨k,by simp [hx,e]⟩
  ·exact .inr ⟨k,c,e,z.sameBut hs (I.cne x c e)⟩
 ·obtain ⟨v,z⟩:=I.cell x c e
  exact ⟨v,z.sameBut hs (I.cne x c e)⟩
 ·obtain ⟨e1,n1,ne,r⟩:=I.pin p hp
  exact ⟨kp _ _ ne e1,n1,ne,r⟩
 ·refine (I.hok a o e).stay (fun b v hb q=>kp b v ?_ q) (fun _ q=>q) fun _ _ q=>q
  rcases hb with hb | hb
  ·rw [hb]; exact nT a o e
  ·exact nT b _ hb
end
noncomputable abbrev Cx.body (X:Cx) (pn:List (Addr × Obj)) (E:Value->Shared->Prop):Cx:={ X with pn:=pn,xe:=E }
noncomputable abbrev Cx.suite (X:Cx) (e:Addr):Cx:={ X with A:=X.A.mark (some (.ref e)),calm:=false,xe:=fun _ _=>False }
section
variable {X:Cx} {pins pins':List (Addr × Obj)} {σ:St} {H:Hp} {s:Shared} {E:Value->Shared->Prop} {e:Addr}
theorem Inv.intry (I:Inv X pins σ H s):Inv (X.body (X.pn++pins) E) [] σ H s :=
 ⟨⟨I.ok.mod,I.ok.kind,I.ok.glob,I.ok.blt,I.ok.above,I.ok.inj,I.ok.has,I.ok.cab,I.ok.hd,I.ok.frames,I.ok.stk,I.ok.exf,I.ok.bs,I.ok.bsz,I.ok.noex,I.ok.exfs,I.ok.funs,I.ok.frf⟩,
  I.os,I.bare,I.base,I.loc,I.cell,I.free,I.freeC,fun p hp=>I.pin p (by simpa using hp),I.hok,I.len⟩
theorem Inv.offtry (I:Inv (X.body (X.pn++pins) E) pins' σ H s):Inv X pins σ H s :=
 ⟨⟨I.ok.mod,I.ok.kind,I.ok.glob,I.ok.blt,I.ok.above,I.ok.inj,I.ok.has,I.ok.cab,I.ok.hd,I.ok.frames,I.ok.stk,I.ok.exf,I.ok.bs,I.ok.bsz,I.ok.noex,I.ok.exfs,I.ok.funs,I.ok.frf⟩,
  I.os,I.bare,I.base,I.loc,I.cell,I.free,I.freeC,fun p hp=>I.pin p (List.mem_append_left _ hp),I.hok,I.len⟩
theorem Inv.insuite (I:Inv X pins σ H s):Inv (X.suite e) pins σ H s :=
 ⟨⟨I.ok.mod,I.ok.kind,I.ok.glob,I.ok.blt,I.ok.above,I.ok.inj,I.ok.has,I.ok.cab,(fun z=>by cases z),I.ok.frames,I.ok.stk,I.ok.exf,I.ok.bs,I.ok.bsz,I.ok.noex,I.ok.exfs,I.ok.funs,I.ok.frf⟩,
  I.os,I.bare,I.base,I.loc,I.cell,I.free,I.freeC,I.pin,I.hok,I.len⟩
theorem Inv.offsuite (I:Inv (X.suite e) pins σ H s) (ok:X.Ok):Inv X pins σ H s :=
 ⟨ok,I.os,I.bare,I.base,I.loc,I.cell,I.free,I.freeC,I.pin,I.hok,I.len⟩
theorem SP.offtry {D:Ends} {f:Flow} (h:SP (X.body (X.pn++pins) E) [] D f s):SP X pins D f s:=by
 cases f with
 | next=>obtain ⟨σ',H',J,q⟩:=h; exact ⟨σ',H',J.offtry,q⟩
 | brk=>obtain ⟨σ',H',J,q⟩:=h; exact ⟨σ',H',J.offtry,q⟩
 | cont=>obtain ⟨σ',H',J,q⟩:=h; exact ⟨σ',H',J.offtry,q⟩
 | ret u=>obtain ⟨v,σ',H',J,r,q⟩:=h; exact ⟨v,σ',H',J.offtry,r,q⟩
end
noncomputable def Ends.gone (D:Ends) (i:Nat):Ends:={ nx:=fun σ H=>D.nx (σ.set i none) H,rt:=D.rt,bk:=fun σ H=>D.bk (σ.set i none) H,ct:=fun σ H=>D.ct (σ.set i none) H }
noncomputable def n_T (K:Frag) (C0:Addr) (i:Nat) (tb:XE->TS) (ts:Addr->TS):TS:=fun D σ H =>
 tb (fun σ' C H'=>PySem.W.exmOne K C (.ref C0)=some true/\∀ e,H' e=none->ts e (D.gone i) (σ'.set i (some (.ref e))) (upd H' e (c_T e C))) D σ H
section
variable {X:Cx} {C0:Addr} {x n:Str} {np hpos pos:Pos} {i:Nat} {body suite:List Stmt} {b₀:Stmt} {tb:XE->TS} {ts:Addr->TS}
theorem m_O {pins:List (Addr × Obj)} {D:Ends} {f:Flow} {s:Shared} {e:Addr} (ok:X.Ok) (hN:X.N.Nodup) (hi:X.N[i]?=some n) (hl:X.env.scope.names.lookup n=some .local) (h:SP (X.suite e) pins (D.gone i) f s) :
  wpAny (model X.prog X.w) X.A (do bindName X.env n .none; unbindBehindTheSuite X.env n hpos) (fun _ s'=>SP X pins D f s') X.xe s:=by
 have hcls:(X.env.scope.kind == .class || (X.env.scope.kind == .module && X.env.locals != X.env.globals))=false:=by rw [ok.kind]; rfl
 have main:∀ (σ':St) (H':Hp),Inv (X.suite e) pins σ' H' s->∀ (R:Shared->Prop),(∀ s',Inv X pins (σ'.set i none) H' s'->R s') ->
   wpAny (model X.prog X.w) X.A (do bindName X.env n .none; unbindBehindTheSuite X.env n hpos) (fun _ s'=>R s') X.xe s:=by
  intro σ' H' J R hR
  have J1:=J.offsuite ok
  refine wpAny_bind (wpAny_bindName (d_S (v:=.non) J1 hN hi (.inl hl) rfl (fun s1 J2=>?_) (.inr hl)))
  obtain ⟨m,hn,hm⟩:=J2.loc
  have hlt:i < σ'.length:=by rw [J1.len]; exact (List.getElem?_eq_some_iff.mp hi).1
  obtain ⟨u,ru,lk⟩:=hm i n .non hi (List.getElem?_set_self hlt) (.inl hl)
  have hmn:m n=some u:=by
   rcases lk with ⟨_,z⟩ | ⟨z,_⟩
   ·exact z
   ·rcases z with z | z <;> (have z':X.env.scope.names.lookup n=_:=z; rw [hl] at z'; cases z')
  unfold unbindBehindTheSuite
  refine wpAny_onRaise (wpAny_mono (wpAny_unbindName_local hl hn hmn hcls fun h' v hn' hs=>?_) (fun _ _ q=>q) fun _ _ q=>wpAny_standAt q)
  refine hR _ ?_
  have J3:=J2.unbind hN hi hl hn hn' hs hm
  rw [List.set_set] at J3
  exact J3
 cases f with
 | next=>obtain ⟨σ',H',J,q⟩:=h; exact main σ' H' J _ fun s' J'=>⟨_,H',J',q⟩
 | brk=>obtain ⟨σ',H',J,q⟩:=h; exact main σ' H' J _ fun s' J'=>⟨_,H',J',q⟩
 | cont=>obtain ⟨σ',H',J,q⟩:=h; exact main σ' H' J _ fun s' J'=>⟨_,H',J',q⟩
 | ret u=>obtain ⟨v,σ',H',J,r,q⟩:=h; exact main σ' H' J _ fun s' J'=>⟨v,_,H',J',r,q⟩
theorem m_P (hst:X.stack=X.env :: X.outer) (hfr:X.env.frame=some X.env.locals) (hex:X.ex=[]) (hN:X.N.Nodup) (hi:X.N[i]?=some n) (hl:X.env.scope.names.lookup n=some .local)
  (hg:Gl X x) (hm:X.mg x=some (.ref C0)) (hb:∀ pn E EX,j_s (X.body pn E) EX->PSs (X.body pn E) body (tb EX)) (hs:∀ e,PSs (X.suite e) (b₀ :: suite) (ts e))
  (hdb:(x == ("__debug__" : Str))=false:=by decide):PS X (.Try body [.ExceptHandler (some (.Name x np)) (some n) (b₀ :: suite) hpos] [] [] pos) (n_T X.K C0 i tb ts):=by
 intro pins s σ H D I h
 refine wpAny_Try_except (wpAny_mono (hb (X.pn++pins) (fun ev s₁=>wpAny (model X.prog X.w) X.A (noteFrame ev X.env) (fun _ s₂=>wpAny (model X.prog X.w) X.A (setFlight ev none) (fun _ s₃ =>
  wpAny (model X.prog X.w) X.A (handleBy ev X.env [.ExceptHandler (some (.Name x np)) (some n) (b₀ :: suite) hpos]) (SP X pins D) X.xe s₃) X.xe s₂) X.xe s₁) _ ?_ [] s σ H D I.intry h) (fun f s1 q=>?_) fun _ _ q=>q)
 ·-- an exception arrives
  intro pins' σ' H' s1 e C J F hE
  obtain ⟨hmt,hsuite⟩:=hE
  have J1:Inv X pins σ' H' s1:=J.offtry
  obtain ⟨⟨B,a0,fl,cov,cvp⟩,c1⟩:=F
  have fl':Heap.FlyingW B (X.env :: X.outer) e C a0 s1.heap:=hst ▸ fl
  have hfrm:X.A.frames=some (X.env :: X.outer):=I.ok.frames.trans (by rw [hst])
  have pn1:∀ p∈X.pn++pins,B.get? p.1=some p.2:=fun p hp=>cvp p (List.mem_append_left _ hp)
  -- where e lies
  have notB:∀ b o,B.get? b=some o->b≠e:=fun b o q z=>by have:=fl'.2.1; rw [← z,q] at this; cases this
  obtain ⟨oe1,vs1,he1,hc1,hd1,_⟩:=fl'.first
  have nfr:e ∉ frs X.stack:=fun hm=>by
   obtain ⟨_,o,ho,nf⟩:=J1.stack.mem hm
   rw [he1] at ho
   cases ho
   exact nf vs1 hd1
  have hEn:H' e=none:=by
   cases q:H' e with
   | none=>rfl
   | some v=>exact absurd rfl (notB e _ (cov e _ he1 nfr (.inr ⟨v,q⟩)))
  have hE0:X.s₀.heap.get? e=none:=by
   cases q:X.s₀.heap.get? e with
   | none=>rfl
   | some o=>exact absurd rfl (notB e _ (cov e _ he1 nfr (.inl ⟨o,q⟩)))
  refine n_S hfrm hfr fl' c1 fun h4 held4 c4 sm4=>?_
  refine i_K (s:={ s1 with heap:=h4 }) held4 c4 fun h5 fl5 c5 sm5=>?_
  have J5:Inv X pins σ' H' { s1 with heap:=h5 }:=J1.flown hst hfr hex fl5.1 (sm4.trans sm5) cov pn1
  have J5':Inv (X.suite e) pins σ' H' { s1 with heap:=h5 }:=J5.insuite
  obtain ⟨ob,hob,hobc⟩:=fl5.there
  refine wpAny_handleBy_cons (codeAny_handlers_test (c_R (X:=X.suite e) J5' hg hm ?_ hdb)) (by intro q; cases q)
  have LT:PySem.W.Looks (model X.prog X.w) h5 (typeOf (.ref e)) C:=by
   rw [← hobc]
   exact (PySem.W.Looks.ld hob).andThen .now
  refine (PySem.W.exm_one J5.kIn LT hmt).here ?_
  show codeAny _ _ _ _ _
  refine codeAny_handlers_suite_as ?_
  refine m_L (s:={ s1 with heap:=h5 }) fl5 c5 fun h6 fl6 c6 sm6=>?_
  have J6:Inv X pins σ' H' { s1 with heap:=h6 }:=J1.flown hst hfr hex fl6.1 ((sm4.trans sm5).trans sm6) cov pn1
  obtain ⟨oe,vs,he,hc,hd,_⟩:=fl6.first
  obtain ⟨oe',vs',he',hd',h2⟩:=c6
  rw [he] at he'; cases he'; rw [hd] at hd'; cases hd'
  have J7:=J6.trackE he hc hd h2 hEn hE0 fun p hp=>notB _ _ (pn1 p hp)
  refine d_S (X:=X.suite e) J7.insuite hN hi (.inl hl) (show RelV (.ref e) (.ref e) from rfl) (fun s8 J8=>?_) (.inr hl)
  refine wpAny_mono (hs e pins s8 _ _ _ J8 (hsuite e hEn)) (fun f s9 q=>?_) fun _ _ q=>q.elim
  exact m_O I.ok hN hi hl q
 ·cases f with
  | next=>exact wpAny_execs_nil (SP.offtry q)
  | brk=>exact SP.offtry q
  | cont=>exact SP.offtry q
  | ret u=>exact SP.offtry q
end
section
variable {X:Cx}
theorem b_P:OpR X (binaryOp .Mult) (rI (fun i j=>IntMulOk i j) fun i j=>.int (i*j)):=opI fun _ _ _ _ _ _ _ hc q=>mul_int q hc
noncomputable def k_O (_ j:Int):Prop:=j≠0/\j.natAbs.log2 < 9000
theorem d_Z:OpR X (binaryOp .FloorDiv) (rI k_O fun i j=>.int (i.fdiv j)):=opI fun _ _ _ _ _ _ _ hc q=>floordiv_int hc.1 q (.inl (PyProof.noPylong_of_log2 hc.2))
end
mutual
inductive Dt (K:Frag) (H:Hp):V->PyData->Prop
 | non:Dt K H .non .none
 | bl (b):Dt K H (.bl b) (.bool b)
 | int (i):Dt K H (.int i) (.int i)
 | str (x):Dt K H (.str x) (.str x)
 | lst {a xs ds}:SqL K H a xs->Dts K H xs ds->Dt K H (.ref a) (.list ds)
 | tup {a xs ds}:SqT K H a xs->Dts K H xs ds->Dt K H (.ref a) (.tuple ds)
inductive Dts (K:Frag) (H:Hp):List V->List PyData->Prop
 | nil:Dts K H [] []
 | cons {x xs d ds}:Dt K H x d->Dts K H xs ds->Dts K H (x :: xs) (d :: ds)
end
theorem Dts.ints {K:Frag} {H:Hp}:∀ (ns:List Int),Dts K H (ns.map V.int) (ns.map PyData.int)
 | []=>.nil
 | n :: r=>.cons (.int n) (Dts.ints r)
section
variable {X:Cx} {pins:List (Addr × Obj)} {σ:St} {H:Hp} {s:Shared}
mutual
theorem Dt.reads (I:Inv X pins σ H s):∀ {x:V} {d:PyData} {u:Value},Dt X.K H x d->RelV x u->∃ as,Reads s.heap u d as
 | _,_,_,.non,r=>by cases (show _=Value.none from r); exact ⟨_,.none⟩
 | _,_,_,.bl b,r=>by cases (show _=Value.bool b from r); exact ⟨_,.bool b⟩
 | _,_,_,.int i,r=>by obtain ⟨t,e⟩:=(show ∃ t,_=Value.int i t from r); cases e; exact ⟨_,.int i t⟩
 | _,_,_,.str x,r=>by obtain ⟨t,e⟩:=(show ∃ t,_=Value.str x t from r); cases e; exact ⟨_,.str x t⟩
 | _,_,_,.lst (a:=a) h hd,r=>by
  cases (show _=Value.ref a from r)
  obtain ⟨its,rv,⟨o,n,e,c,_,dd⟩,_⟩:=I.list h
  obtain ⟨as,q⟩:=Dts.reads I hd rv
  exact ⟨_,.list e c dd (by simpa using q)⟩
 | _,_,_,.tup (a:=a) h hd,r=>by
  cases (show _=Value.ref a from r)
  obtain ⟨its,rv,⟨o,e,c,n,dd⟩,_⟩:=I.tuple h
  obtain ⟨as,q⟩:=Dts.reads I hd rv
  exact ⟨_,.tuple e c dd (by simpa using q)⟩
theorem Dts.reads (I:Inv X pins σ H s):∀ {xs:List V} {ds:List PyData} {us:List Value},Dts X.K H xs ds->Vals xs us->∃ as,ReadsAll s.heap us ds as
 | _,_,_,.nil,r=>by cases r; exact ⟨_,.nil⟩
 | _,_,_,.cons h t,r=>by
  cases r with
  | cons r1 r2 =>
   obtain ⟨as,q1⟩:=Dt.reads I h r1
   obtain ⟨bs,q2⟩:=Dts.reads I t r2
   exact ⟨_,.cons q1 q2⟩
end
end
section
variable {X:Cx}
noncomputable def rEqD (K:Frag):R2:=fun x y H Q=>∃ d d',Dt K H x d/\Dt K H y d'/\SeqAt.shaped d=true/\SeqAt.shaped d'=true/\SeqAt.noMix d d'=true/\Q (.bl (same d d')) H
noncomputable def rNeD (K:Frag):R2:=fun x y H Q=>∃ d d',Dt K H x d/\Dt K H y d'/\SeqAt.shaped d=true/\SeqAt.shaped d'=true/\SeqAt.noMix d d'=true/\Q (.bl (!same d d')) H
theorem o_s (hu:X.A.units+64 < cLine):OpR X (compareOp .Eq) (rEqD X.K):=by
 intro pins s σ H x y v u Q I rx ry h
 obtain ⟨d,d',h1,h2,s1,s2,mx,q⟩:=h
 obtain ⟨as,r1⟩:=h1.reads I rx
 obtain ⟨bs,r2⟩:=h2.reads I ry
 exact eq_dataH_same r1 r2 s1 s2 hu mx ⟨.bl (same d d'),H,I,rfl,q⟩
theorem k_P (hu:X.A.units+64 < cLine):OpR X (compareOp .NotEq) (rNeD X.K):=by
 intro pins s σ H x y v u Q I rx ry h
 obtain ⟨d,d',h1,h2,s1,s2,mx,q⟩:=h
 obtain ⟨as,r1⟩:=h1.reads I rx
 obtain ⟨bs,r2⟩:=h2.reads I ry
 exact ne_dataH_same r1 r2 s1 s2 hu mx ⟨.bl (!same d d'),H,I,rfl,q⟩
end
theorem PI.or {X:Cx} {tg l:Expr} {wi wi':TI} (h:PI X tg l wi) (h':PI X tg l wi'):PI X tg l (fun σ H R=>wi σ H R\/wi' σ H R):=by
 intro pins s σ H R I q
 rcases q with q | q
 ·exact h pins s σ H R I q
 ·exact h' pins s σ H R I q
structure h_B (K:Frag) (C:Addr):Prop where
 ga:PySem.W.findIn K (.ref C) "__getattribute__" = some (some (.builtin "BaseException.__getattribute__"))
 gt:PySem.W.findIn K (.ref C) "__getattr__" = some none
 ca:PySem.W.findIn K (.ref C) "__class__" = some (some (.builtin "object.__class__"))
 cg:PySem.W.specialIn K (.builtin "object.__class__") "__get__" = some (some (.builtin "getset_descriptor.__get__"))
 tk:PySem.W.takesIn K (.builtin "object.__class__")=some true
 ob:PySem.W.mroIn K C (.type "object")=some true
 bx:PySem.W.mroIn K C (.type "BaseException")=some true
 cl:(PySem.W.clsIn K C).isSome=true
theorem k_c {prog:Program} {w:World} {A:Around} {E:Value->Shared->Prop} {s:Shared} {K:Frag} {x C:Addr} {Q:Option Value->Shared->Prop} (F:h_B K C) (KX:K.In s.heap) (ho:∃ o,s.heap.get? x=some o/\o.cls=.ref C)
  (h:Q (some (.ref C)) { s with toks:=s.toks+1 }):wpAny (model prog w) A (getAttr? (.ref x) "__class__") Q E s:=by
 obtain ⟨hh,g,d,t,os⟩:=s
 obtain ⟨o,ho,hc⟩:=ho
 have L0:PySem.W.Looks (model prog w) hh (typeOf (.ref x)) (.ref C):=hc ▸ (PySem.W.Looks.ld ho).andThen .now
 have L1:=PySem.W.looks_findIn (M:=model prog w) KX F.ga
 have L2:=PySem.W.looks_findIn (M:=model prog w) KX F.gt
 have L3:=PySem.W.looks_findIn (M:=model prog w) KX F.ca
 have L4:=PySem.W.looks_specialIn (M:=model prog w) KX F.cg
 have L5:=PySem.W.looks_takesIn (M:=model prog w) KX F.tk
 have L6:=PySem.W.looks_mroIn (M:=model prog w) KX F.ob
 have L7:=PySem.W.looks_mroIn (M:=model prog w) KX F.bx
 unfold getAttr? getAttrBy? getAttrBy
 refine wpAny_bind (wpAny_mkText (wpAny_bind (wpAny_attempt (wpAny_holding (wpAny_bind (L0.at (wpAny_bind (L1.at ?_))))))))
 show wpAny _ _ (getAttrByItsOwn _ _ _ _ _ _) _ _ _
 unfold getAttrByItsOwn
 refine wpAny_bind (show wpAny _ _ (hookBefore (.ref C)) _ _ _ from L2.at ?_)
 refine wpAny_bind (wpAny_attempt (wpAny_holding ?_))
 show wpAny _ _ (boundAndCalled _ _ _) _ _ _
 unfold boundAndCalled
 rw [PySem.F.attr_ValueError.ga.bind (.ref x)]
 refine wpAny_bind (wpAny_pure (wpAny_call ?_))
 refine codeAny_call_builtin PySem.F.attr_ValueError.ga.plain PySem.F.entry_bexc_ga ?_
 have hk:builtinKind "BaseException.__getattribute__" = some .slot:=by decide +kernel
 have hsplit:splitId "BaseException.__getattribute__" = some ("BaseException","__getattribute__"):=by decide +kernel
 have hargs:=PySem.F.args_bexc_ga (.ref x) (.str "__class__" t)
 have LI:PySem.W.Looks (model prog w) hh (isInstance (.ref x) (.type "BaseException")) true:=L0.andThen L7
 show wpAny _ _ (checkBuiltinCall "BaseException.__getattribute__" ⟨[.ref x,.str "__class__" t],[]⟩) _ _ _
 simp only [checkBuiltinCall,hk,hsplit]
 refine wpAny_bind (LI.at ?_)
 repeat wp_step
 rw [hc]
 refine L3.at ?_
 refine wpAny_bind (show wpAny _ _ (Builtin.ObjectAttr.getOf (some (.builtin "object.__class__"))) _ _ _ from L4.at ?_)
 have LD:PySem.W.Looks (model prog w) hh (Builtin.ObjectAttr.dataDescriptor? (some (.builtin "object.__class__")) (some (.builtin "getset_descriptor.__get__"))) (some (.builtin "getset_descriptor.__get__",.builtin "object.__class__")):=L5.andThen .now
 refine wpAny_bind (LD.at ?_)
 repeat wp_step
 have LO:PySem.W.Looks (model prog w) hh (isInstance (.ref x) (.type "object")) true:=L0.andThen L6
 refine codeAny_call_builtin PySem.W.KF.slot_gs.plain PySem.W.KF.entry_gs (PySem.W.KF.slot_gs.check _ _ _ _ _ _ _ _ PySem.W.KF.type_class (PySem.W.KF.args_gs _ _ _) ?_)
 (unfold Builtin.«getset_descriptor.__get__» Builtin.Getset_descriptor.descrGet; rw [PySem.W.dga_obj]; refine wpAny_bind (wpAny_pure ?_))
 (unfold Builtin.Getset_descriptor.descrGetter Builtin.Getset_descriptor.descrCheckInstance Builtin.Getset_descriptor.descrNameAndClass; simp only [PySem.W.KF.owner_class])
 refine wpAny_bind (wpAny_bind (wpAny_pure (wpAny_bind (LO.at (wpAny_pure ?_)))))
 repeat wp_step
 refine ⟨Code.quiet_builtin _ (by decide +kernel),codeAny_builtin PySem.W.KF.entry_class ?_⟩
 (unfold Builtin.«object.__class__» shownTypeOf; repeat wp_step)
 rw [hc]
 exact wpAny_pure (wpAny_pure h)
theorem k_Q {K:Frag} {x C:Addr} (F:h_B K C):PySem.W.KitX K (.ref x) (.ref C) (fun h=>∃ o,h.get? x=some o/\o.cls=.ref C) where
 ty:=fun M h _ ⟨o,ho,hc⟩=>hc ▸ (PySem.W.Looks.ld ho).andThen .now
 it:=fun M h KX _=>by
  have q:=F.cl
  unfold PySem.W.clsIn at q
  split at q
  ·next lk =>
   intro A' Q' E' s' k z
   (unfold isType loadHead; exact wpAny_bind (wpAny_loadPart (k _ _ (KX _ _ lk)) (wpAny_pure z)))
  ·cases q
 ne:=fun h tp dd its n sl KX htp=>by
  have q:=F.cl
  refine Bool.eq_false_iff.mpr fun z=>?_
  have e:C=tp:=Value.ref.inj (beq_iff_eq.mp z)
  subst e
  unfold PySem.W.clsIn at q
  split at q
  ·next lk=>exact absurd ((KX _ _ lk).symm.trans htp) (by intro z2; cases z2)
  ·cases q
 ca:=fun KX p k=>k_c F KX p k
inductive TyX (K:Frag) (H:Hp):V->Value->Prop where
 | ty {x:V} {t:Value} (h:TyOf K H x t):TyX K H x t
 | exc {e C:Addr} (h:H e=some (c_T e (.ref C))) (F:h_B K C):TyX K H (.ref e) (.ref C)
 | tupS {a:Addr} {xs:List V} (h:SqT K H a xs):TyX K H (.ref a) (.type "tuple")
noncomputable def clsV:V->Value
 | .ty n=>.type n
 | .ref a=>.ref a
 | _=>.none
noncomputable def n_U:V->Bool
 | .ty _=>true
 | .ref _=>true
 | _=>false
noncomputable def rIsi (K:Frag):List V->Hp->VK->Prop:=fun vs H Q=>∃ x c t b,vs=[x,c]/\TyX K H x t/\n_U c=true/\PySem.W.kitOne K t (clsV c)=some b/\Q (.bl b) H
theorem b_K {X:Cx}:c_z X (.builtin "isinstance") (rIsi X.K):=by
 intro pins s σ H xs us Q I rv h
 obtain ⟨x,c,t,b,rfl,ty,ic,e,q⟩:=h
 obtain ⟨u,w,rfl,r1,r2⟩:=rv.two
 have ew:w=clsV c:=by
  cases c <;> first | exact r2 | cases ic
 subst ew
 have fin:∀ tk,EP X pins σ Q (.bool b) { s with toks:=tk }:=fun tk=>⟨.bl b,H,I.tok tk,rfl,q⟩
 cases ty with
 | ty h=>exact k_b I r1 h e fin
 | exc h F =>
  obtain rfl:u=_:=r1
  obtain ⟨⟨o,g1,g2,_⟩,_,_⟩:=(show b_B X.prog X.w H s.heap _ (c_T _ _) from I.hok _ _ h)
  exact PySem.W.kia_one (k_Q F) I.kIn ⟨o,g1,g2⟩ e (fun z=>nomatch z) fin
 | tupS h =>
  obtain rfl:u=_:=r1
  obtain ⟨its,_,⟨o,h1,h2,_⟩,_⟩:=I.tuple h
  exact PySem.W.kia_one PySem.W.kitx_tuple I.kIn ⟨o,h1,h2⟩ e (fun z=>nomatch z) fin
structure c_G (k:Nat) (A:Around):Prop where
 dp:A.depth+3*k+5 < recursionLimit
 un:A.units+16*k+200 < cLine
theorem Room.a {k:Nat} {A:Around} (r:Room k A):c_G k A:=⟨r.dp,r.un⟩
theorem c_G.mono {j k:Nat} {A:Around} (r:c_G k A) (h:j<=k):c_G j A:=⟨by have:=r.dp; omega,by have:=r.un; omega⟩
theorem c_G.deeper {k:Nat} {A:Around} (r:c_G (k+1) A) (env:Env):c_G k (A.deeper env) :=
 ⟨by have:=r.dp; show A.depth+1+3*k+5 < _; omega,by have:=r.un; show A.units+3+16*k+200 < _; omega⟩
theorem c_G.mark {k:Nat} {A:Around} (r:c_G k A) (v:Option Value):c_G k (A.mark v):=⟨r.dp,r.un⟩
theorem c_G.calm {k:Nat} {A:Around} (r:c_G k A):Room k { A with handled:=none }:=⟨rfl,r.dp,r.un⟩
structure n_V (P:Program) (w:World) (K:Frag) (mg:Str->Option Value) (base:Heap) (k:Nat) (f:Addr) (fd:FuncData) (ps:List Str) (sp:Sp):Prop where
 len:∀ vs H Q E,sp vs H Q E->vs.length=ps.length
 run:∀ (A:Around) (outer:List Env) (s:Shared) (H:Hp) (args:Args) (us:List Value) (vs:List V) (Q:VK) (E:XK),c_G k A->Env0 P w K mg base A outer s H->BindsTo s fd args (ps.zip us)->Vals vs us->sp vs H Q E ->
  codeAny (model P w) A (.call (.ref f) args) (CR CX0 outer P w H s Q E) s
theorem n_V.ok {P:Program} {w:World} {K:Frag} {mg:Str->Option Value} {base:Heap} {k:Nat} {f:Addr} {fd:FuncData} {ps:List Str} {sp:Sp} (F:n_V P w K mg base k f fd ps sp):FnOk P w K mg base CX0 k f fd ps sp :=
 ⟨F.len,fun A outer s H args us vs Q E hr=>F.run A outer s H args us vs Q E hr.a⟩
noncomputable abbrev cxA (P:Program) (w:World) (K:Frag) (mg:Str->Option Value) (base:Heap) (N:List Str) (qual:Str) (scope:Scope) (f:Addr) (cd:Value) (A:Around) (outer:List Env) (s:Shared) (H:Hp) (E:XK):Cx :=
 { cxOf CX0 P w K mg base N qual scope f cd A outer s H E with calm:=false,xe:=fun _ _=>False }
section
variable {X:Cx}
theorem c_D:OpR X (compareOp .Eq) (rI0 fun i j=>.bl (decide (i=j))):=opB0 fun i j _ _ _ _ _ q=>eq_int (by rw [Bool.beq_eq_decide_eq]; exact q)
theorem e_a:OpR X (compareOp .NotEq) (rI0 fun i j=>.bl (!decide (i=j))):=opB0 fun i j _ _ _ _ _ q=>ne_int (by rw [bne,Bool.beq_eq_decide_eq]; exact q)
theorem PS.nox {st:Stmt} {t:TS} (h:PS X.nox st t):PS X st t:=fun pins s σ H D I hw =>
 wpAny_mono (h pins s σ H D (I.wish _) hw) (fun _ _ q=>q.unwish) fun _ _ z=>z.elim
end
noncomputable def n_W (sc:Scope) (N:List Str) (scope:Scope) (x:Str) (fr:List (Str × Nat)):Bool :=
 decide (scope.kind=.function) && decide (∀ y∈scope.names,y.2≠.cell) && decide (∀ y∈scope.names,y.2=.free->sc.names.lookup y.1=some .cell\/sc.names.lookup y.1=some .free) &&
 decide (∀ y∈scope.names,y.2=.local->scope.names.lookup y.1=some .local) && decide (scope.names.lookup x=some .local) && decide ((x :: fr.map (·.1)).Nodup) && decide (∀ p∈fr,N[p.2]?=some p.1/\scope.names.lookup p.1=some .free)
theorem g_a {X:Cx} {sc scope:Scope} {N:List Str} {x:Str} {fr:List (Str × Nat)} (h1:X.env.scope=sc) (h2:X.N=N) (h:n_W sc N scope x fr=true):d_y X scope x fr:=by
 unfold n_W at h
 simp only [Bool.and_eq_true,decide_eq_true_eq] at h
 obtain ⟨⟨⟨⟨⟨⟨e1,e2⟩,e3⟩,e4⟩,e5⟩,e6⟩,e7⟩:=h
 subst h1 h2
 exact ⟨e1,e2,e3,e4,e5,e6,e7⟩
section
variable {P:Program} {w:World} {K:Frag} {mg:Str->Option Value} {base:Heap}
theorem Fun.okX {x qual:Str} {st:Stmt} {f:Addr} {fd:FuncData} {N ps:List Str} {k:Nat} {sp:Sp} (F:Fun K x qual st f fd) (S:a_Q N ps (a_G st)) (len:∀ vs H Q E,sp vs H Q E->vs.length=ps.length)
  (hbody:∀ (cdv:Value) (A:Around) (outer:List Env) (s:Shared) (H:Hp) (vs:List V) (Q:VK) (E:XK),Room k (A.deeper (envOfC qual (a_G st) s.heap.objs.size f cdv))->sp vs H Q E ->
   ∃ t,PSs (cxOf (CX1 P w) P w K mg base N qual (a_G st) f cdv A outer s H E) (c_j st) t/\t { nx:=fun _ H'=>Q .non H',rt:=Q } (start N vs) H):FnOk P w K mg base (CX1 P w) (k+1) f fd ps sp:=by
 obtain ⟨oc,od,kV,doc,pm,an,cdv,ct,osl,rfl,lk,hcd⟩:=F.ex
 exact j_k lk hcd S len fun A outer s H vs Q E hr hsp=>hbody cdv A outer s H vs Q E hr hsp
end
end L2
namespace Att
open PySem PySem.W PySem.Calls PyProof.Rows
theorem g_Y:∀ ns:List Int,ofPys (ns.map PyData.int)=ns.map WData.int
 | []=>rfl
 | n :: r=>by
  show ofPy (.int n) :: ofPys (r.map PyData.int)=_
  rw [g_Y r]
  rfl
theorem k_R {ns:List Int} (h:(WData.list (ns.map WData.int)).layable=true):∀ n∈ns,Builtin.Int.intBits n<=1048576:=fun n hn=>by
 have e:ofPy (.list (ns.map PyData.int))=WData.list (ns.map WData.int):=by
  show WData.list (ofPys (ns.map PyData.int))=_
  rw [g_Y]
 have sh:PySem.Spec.Shape.has (.list .int) (.list (ns.map PyData.int))=true:=by
  simp [PySem.Spec.Shape.has]
 exact intBits_le_of_item hn (layable0_of_all (lay0_ofPy (s:=.list .int) rfl sh (by rw [e]; exact h)))
theorem attach_callB {l:OpenLaw} {n:Nat} {q:Program} {loose:List Str} {XP:(Str->Option Value)->Heap->Prop} {YP:World->Heap->Prop} {d:DefRec} (hn:l.most=some n) (hdf:d.params.defaults=[])
  (call:∀ (w:World) (s₀ s₁:Shared) (mg mb:Str->Option Value) (fa:Addr) (a:Addr) (vs:List Value) (ns:List Int),Ground q loose [] XP w s₀ mg mb s₁.heap->YP w s₁.heap->mg d.name=some (.ref fa) ->
   s₁.heap.get? a=some { cls:=.type "list",data:=.seq vs.toArray }->IntsAre vs ns->ns.length<=n->(∀ m∈ns,Builtin.Int.intBits m<=1048576)->s₁.gens=#[] ->
   codeAny (model l.prog w) callerA (.call (.ref fa) ⟨[.ref a],[]⟩) (fun r s'=>r=.ok (.ret (.bool true))/\OldK s₁.heap s'.heap/\s'.os=s₁.os/\AllBare s'.gens) s₁) :
  WalkO q loose XP YP l.row.toRowW d [] (fun f vs=>PySem.call f vs):=by
 intro w s₀ s₁ mg mb G Y fa o pm cd doc dV kV ho hd hcd hD hmg hg args vals as hpre hlay hrd hwl hlo
 obtain rfl:dV=.none:=Dflts.none hD hdf
 obtain rfl:kV=.none:=Dflts.noKw hD
 obtain ⟨a,vs,ns,rfl,rfl,hobj,hints,hlen⟩:=g_V hn hpre hwl
 have hb:=k_R (layableW_arg hlay _ List.mem_cons_self)
 refine enter_call (codeAny_mono (call w s₀ s₁ mg mb fa a vs ns G Y hmg hobj hints hlen hb hg) fun r s' hq=>?_)
 obtain ⟨rfl,h2,h3,h4⟩:=hq
 exact ⟨.inl ⟨.bool true,.bool true,[],rfl,fun _=>rfl,.bool true,g_W l _,fun _=>⟨List.Pairwise.nil,fun _ hm=>(nomatch hm)⟩⟩,h2,h3,h4⟩
end Att
namespace L2
open PySem PySem.Spec PyProof.Rows
open PySem.W (Frag)
theorem d_z {wi:TI} {g:TG} {tb:TS} {D:Ends} {σ:St} {H:Hp} (h:∀ B:TS,B=tb->wi σ H fun J H1=>∃ W:Nat->Nat->St->Hp->Prop,(∃ m,W 0 m σ H1)/\∀ i m σ H,W i m σ H ->
  (J.stop i H/\D.nx σ H)\/(J.go i H/\∃ N:St->Hp->Prop,(∀ σ' H',N σ' H'->∃ m',m' < m/\W (i+1) m' σ' H')/\∀ x H',J.yld i H x H'->g x σ H' fun σ2 H2=>B { D with nx:=N,ct:=N,bk:=D.nx } σ2 H2)):tFor wi g tb D σ H:=h _ rfl
theorem k_S {c:TT} {tb:TS} {D:Ends} {σ:St} {H:Hp} (h:∀ B:TS,B=tb->∃ W:Nat->St->Hp->Prop,(∃ m,W m σ H)/\∀ m σ H,W m σ H ->
  c σ H fun b H1=>if b=true then ∃ N:St->Hp->Prop,(∀ σ' H',N σ' H'->∃ m',m' < m/\W m' σ' H')/\B { D with nx:=N,ct:=N,bk:=D.nx } σ H1 else D.nx σ H1):k_w c tb D σ H:=h _ rfl
theorem st {t u:TS} {D:Ends} {σ:St} {H:Hp} (h:∀ NX:St->Hp->Prop,NX=u D->t { D with nx:=NX } σ H):tSeq t u D σ H:=h _ rfl
section
variable {g:Int->Int->V} {C:Int->Int->Prop} {f:Int->V} {i j:Int} {H:Hp} {Q:VK}
theorem o_t:rI0 g (.int i) (.int j) H Q=Q (g i j) H:=propext ⟨fun ⟨_,_,e1,e2,q⟩=>by cases e1; cases e2; exact q,fun q=>⟨_,_,rfl,rfl,q⟩⟩
theorem o_O:rI C g (.int i) (.int j) H Q=(C i j/\Q (g i j) H):=propext ⟨fun ⟨_,_,e1,e2,q⟩=>by cases e1; cases e2; exact q,fun q=>⟨_,_,rfl,rfl,q⟩⟩
theorem o_P:rU f (.int i) H Q=Q (f i) H:=propext ⟨fun ⟨_,e1,q⟩=>by cases e1; exact q,fun q=>⟨_,rfl,q⟩⟩
end
theorem Same.new {H:Hp} {a:Addr} {o:HO} (h:H a=none):Same H (upd H a o):=fun b u e=>by rw [a_E (a_H e h)]; exact e
theorem Same.over {H H1:Hp} {a:Addr} {o:HO} (h:H a=none) (s:Same H H1):Same H (upd H1 a o):=fun b u e=>by rw [a_E (a_H e h)]; exact s b u e
theorem Same.tup {K:Frag} {H H':Hp} {a:Addr} {xs:List V} (e:Same H H') (h:SqT K H a xs):SqT K H' a xs:=by
 rcases h with (h | ⟨o,h⟩) | h
 ·exact .inl (.inl (e _ _ h))
 ·exact .inl (.inr ⟨o,e _ _ h⟩)
 ·exact .inr h
section
variable {K:Frag} {a b:Addr} {xs:List V} {te:TE} {fr:List (Str × Nat)} {σ:St} {H:Hp} {Q:VK}
noncomputable def k_T (H:Hp) (a:Addr) (R:Nat->V->Prop) (i:Nat) (H1:Hp):Prop:=Same H H1/\∃ ys:List V,H1 a=some (.lst ys)/\ys.length=i/\∀ j y,ys[j]?=some y->R j y
theorem k_T.next {R:Nat->V->Prop} {i:Nat} {H1 H2:Hp} {y:V} (ha:H a=none) (h:k_T H a R i H1) (s:Same H1 H2) (r:R i y) (hz:i < sizeLine) :
  ∃ zs,H2 a=some (.lst zs)/\zs.length < sizeLine/\k_T H a R (i+1) (upd H2 a (.lst (zs++[y]))):=by
 obtain ⟨s1,ys,e,hl,hr⟩:=h
 refine ⟨ys,s _ _ e,by omega,Same.over ha (s1.trans s),_,a_F,by simp [hl],fun j z q=>?_⟩
 by_cases hj:j < ys.length
 ·rw [List.getElem?_append_left hj] at q
  exact hr j z q
 ·rw [List.getElem?_append_right (by omega)] at q
  have:j=i:=by
   by_cases h0:j - ys.length=0
   ·omega
   ·rw [List.getElem?_eq_none (by simp; omega)] at q
    cases q
  subst this
  rw [show j - ys.length=0 by omega] at q
  cases Option.some.inj q
  exact r
end
theorem c_k {α β:Type} {ys:List β} {xs:List α} {f:α->β} (hl:ys.length=xs.length) (h:∀ (j:Nat) (y:β),ys[j]?=some y->∃ x,xs[j]?=some x/\y=f x):ys=xs.map f:=by
 refine List.ext_getElem (by simpa using hl) fun i h1 h2=>?_
 obtain ⟨x,e1,e2⟩:=h i ys[i] (by simp [h1])
 obtain ⟨hx,e3⟩:=List.getElem?_eq_some_iff.mp e1
 rw [List.getElem_map,e2,e3]
noncomputable def f_Q (sc scope:Scope):Scope:={ scope with names:=scope.names.map fun (n,k)=>if (k == .free && sc.kind == .function && sc.names.lookup n == some .cell) then (n,.cell) else (n,k) }
theorem k_U {scope sc:Scope} {env:Env} (h:env.scope=sc):relabel scope env=f_Q sc scope:=by subst h; rfl
theorem e_H:∀ (names:List (Str × NameKind)) (n:Nat) (acc:List (Str × Addr)),cellsFrom n names acc=cellsFrom n names []++acc
 | [],_,_=>rfl
 | (x,k) :: r,n,acc=>by
  unfold cellsFrom
  split
  ·rw [e_H r (n+1) ((x,n) :: acc),e_H r (n+1) [(x,n)],List.append_assoc]
   rfl
  ·exact e_H r n acc
theorem h_C {y:Str} {b:Addr}:∀ {names:List (Str × NameKind)} {n:Nat} {acc:List (Str × Addr)},(y,b)∈cellsFrom n names acc->(y,b)∈acc\/(y,NameKind.cell)∈names
 | [],_,_,h=>.inl h
 | (x,k) :: r,n,acc,h=>by
  unfold cellsFrom at h
  split at h
  ·rename_i hk
   rcases h_C h with q | q
   ·rcases List.mem_cons.mp q with e | e
    ·have ek:k=.cell:=by simpa using hk
     cases e
     exact .inr (by rw [ek]; exact List.mem_cons_self)
    ·exact .inl e
   ·exact .inr (List.mem_cons_of_mem _ q)
  ·rcases h_C h with q | q
   ·exact .inl q
   ·exact .inr (List.mem_cons_of_mem _ q)
theorem e_I {y:Str}:∀ {names:List (Str × NameKind)} {n:Nat} {acc:List (Str × Addr)},((y,NameKind.cell)∈names\/∃ b,acc.lookup y=some b)->∃ b,(cellsFrom n names acc).lookup y=some b
 | [],_,_,h=>by
  rcases h with h | h
  ·simp at h
  ·exact h
 | (x,k) :: r,n,acc,h=>by
  unfold cellsFrom
  split
  ·rename_i hk
   refine e_I ?_
   rcases h with h | ⟨b,h⟩
   ·rcases List.mem_cons.mp h with e | e
    ·cases e
     exact .inr ⟨n,by rw [List.lookup_cons]; simp⟩
    ·exact .inl e
   ·rw [List.lookup_cons]
    cases hx:y == x with
    | true=>exact .inr ⟨n,rfl⟩
    | false=>exact .inr ⟨b,h⟩
  ·rename_i hk
   refine e_I ?_
   rcases h with h | h
   ·rcases List.mem_cons.mp h with e | e
    ·cases e
     simp at hk
    ·exact .inl e
   ·exact .inr h
theorem f_z {env:Env} {q:NameKind}:∀ {names:List (Str × NameKind)} {x:Str},
  (names.map fun (n,k)=>if (k == NameKind.free && env.scope.kind == .function && env.kindOf n == some .cell) then (n,NameKind.cell) else (n,k)).lookup x=some q ->
  (q=.cell\/q=.free)->(x,NameKind.free)∈names\/(x,NameKind.cell)∈names
 | [],_,h,_=>by simp at h
 | (n,k) :: r,x,h,hq=>by
  have ih:=@f_z env q r x
  rw [List.map_cons] at h
  dsimp only at h
  by_cases hc:(k == NameKind.free && env.scope.kind == .function && env.kindOf n == some .cell)=true
  ·rw [if_pos hc,List.lookup_cons] at h
   cases hx:x == n with
   | true =>
    have ex:x=n:=by simpa using hx
    have ek:k=.free:=by
     have:=(Bool.and_eq_true _ _ ▸ ((Bool.and_eq_true _ _ ▸ hc).1)).1
     simpa using this
    rw [ex,ek]
    exact .inl List.mem_cons_self
   | false =>
    rw [hx] at h
    exact (ih h hq).imp (List.mem_cons_of_mem _) (List.mem_cons_of_mem _)
  ·rw [if_neg hc,List.lookup_cons] at h
   cases hx:x == n with
   | true =>
    rw [hx] at h
    have ex:x=n:=by simpa using hx
    have ek:k=q:=Option.some.inj h
    rcases hq with e | e
    ·rw [ex,ek,e]; exact .inr List.mem_cons_self
    ·rw [ex,ek,e]; exact .inl List.mem_cons_self
   | false =>
    rw [hx] at h
    exact (ih h hq).imp (List.mem_cons_of_mem _) (List.mem_cons_of_mem _)
theorem j_t {α:Type} {x:Str} {k k':α}:∀ {l:List (Str × α)},(l.map (·.1)).Nodup->(x,k)∈l->(x,k')∈l->k=k'
 | (n,q) :: r,nd,h,h'=>by
  obtain ⟨n1,n2⟩:=List.nodup_cons.mp nd
  rcases List.mem_cons.mp h with e | e <;> rcases List.mem_cons.mp h' with e' | e'
  ·cases e; cases e'; rfl
  ·cases e; exact absurd (List.mem_map.mpr ⟨_,e',rfl⟩) n1
  ·cases e'; exact absurd (List.mem_map.mpr ⟨_,e,rfl⟩) n1
  ·exact j_t n2 e e'
theorem i_M {M:Model} {A:Around} {E:Value->Shared->Prop} {s:Shared} {scope:Scope} {globals:Addr} {cl:List (Str × Addr)} {qual:Str} {func:Option Addr} {code:Value} {env:Env} {bl:Addr} {Q:Env->Shared->Prop}
  (h:Q (newEnv scope s.heap.objs.size globals (cellsFrom (s.heap.objs.size+1) scope.names cl) qual func code (some env) bl) { s with heap:=pushCells (s.heap.push { cls:=.type "dict",data:=.dict #[] }) scope.names }) :
  wpAny M A (newFunctionEnv scope globals cl [] qual func code (some env) bl) Q E s:=by
 simp only [newFunctionEnv,Option.isSome_some,if_true]
 refine wpAny_bind (wpAny_alloc ?_)
 refine wpAny_bind (wpAny_layCells _ (fun name kind cells=>by cases hkc:kind == NameKind.cell <;> simp [hkc]) _ _ _ _ ?_)
 rw [show ({ s with heap:=s.heap.push { cls:=.type "dict",data:=.dict #[] } }:Shared).heap.objs.size=s.heap.objs.size+1 from Heap.size_push ..]
 exact wpAny_pure h
noncomputable def b_C (X:Cx) (scope:Scope) (N:List Str) (s:Shared) (H:Hp) (fp:List Addr):Cx :=
 { X with N:=N,s₀:=s,H₀:=H,env:=compEnvC scope (cellsFrom (s.heap.objs.size+1) scope.names (clOf X.env scope.names [])) s.heap.objs.size X.env,outer:=X.stack,ex:=fp,fn:=fun y=>scope.names.lookup y == some .cell,pn:=[],xe:=fun _ _=>False }
structure c_p (X:Cx) (sc scope:Scope) (xs:List Str) (fr:List (Str × Nat)):Prop where
 hsc:X.env.scope=sc
 kind:scope.kind=.function
 nn:(scope.names.map (·.1)).Nodup
 free:∀ y∈scope.names,y.2=.free->sc.names.lookup y.1=some .cell\/sc.names.lookup y.1=some .free
 loc:∀ y∈scope.names,y.2=.local->scope.names.lookup y.1=some .local
 fr:∀ p∈fr,X.N[p.2]?=some p.1/\scope.names.lookup p.1=some .free
section
variable {X:Cx} {sc scope:Scope} {xs:List Str} {fr:List (Str × Nat)}
theorem c_p.free' (c:c_p X sc scope xs fr):∀ y∈scope.names,y.2=.free->X.env.kindOf y.1=some .cell\/X.env.kindOf y.1=some .free:=fun y hy hf=>by
 unfold Env.kindOf
 rw [c.hsc]
 exact c.free y hy hf
theorem c_p.cells {pins:List (Addr × Obj)} {σ:St} {H:Hp} {s:Shared} (c:c_p X sc scope xs fr) (I:Inv X pins σ H s):∀ y∈scope.names,y.2=.free->∃ c,X.env.cells.lookup y.1=some c :=
 fun y hy hf=>I.ok.has y.1 (c.free' y hy hf)
theorem c_p.was {pins:List (Addr × Obj)} {σ:St} {H:Hp} {s:Shared} (c:c_p X sc scope xs fr) (I:Inv X pins σ H s) {y:Str} {b:Addr} (h:(clOf X.env scope.names []).lookup y=some b):X.env.cells.lookup y=some b:=by
 rcases d_X (c.cells I) h with q | q
 ·simp at q
 ·exact q
theorem c_n {names:List (Str × NameKind)} {n:Nat} {cl:List (Str × Addr)} {y:Str} {b:Addr} (h:(cellsFrom n names cl).lookup y=some b):(cellsFrom n names []).lookup y=some b\/((cellsFrom n names []).lookup y=none/\cl.lookup y=some b):=by
 rw [e_H,List.lookup_append] at h
 cases q:(cellsFrom n names []).lookup y with
 | none=>rw [q] at h; exact .inr ⟨rfl,h⟩
 | some c=>rw [q] at h; exact .inl h
theorem h_Z {pins:List (Addr × Obj)} {σ:St} {H:Hp} {s:Shared} {fp:List Addr} (c:c_p X sc scope xs fr) (I:Inv X pins σ H s)
  (hf:∀ b∈fp,FpOk X pins H b/\∃ o,s.heap.get? b=some o) :
  Inv (b_C X scope (xs++fr.map (·.1)) s H fp) [] (xs.map (fun _=>none)++b_X fr σ) H { s with heap:=pushCells (s.heap.push { cls:=.type "dict",data:=.dict #[] }) scope.names }:=by
 have k:∀ b o,s.heap.get? b=some o->(pushCells (s.heap.push { cls:=.type "dict",data:=.dict #[] }) scope.names).get? b=some o:=fun b o e=>pushCells_keeps _ _ b o (Heap.get?_push_of_some _ e)
 have hn:(pushCells (s.heap.push { cls:=.type "dict",data:=.dict #[] }) scope.names).Ns s.heap.objs.size (fun _=>none):=(Heap.Ns.new s.heap (.type "dict")).keeps (pushCells_keeps _ _)
 have ok:=cellsFrom_ok scope.names (s.heap.push { cls:=.type "dict",data:=.dict #[] }) (s.heap.objs.size+1) [] ⟨fun _ _ hm=>(nomatch hm),List.Pairwise.nil⟩ (by rw [Heap.size_push]; exact Nat.le_refl _)
 rw [Heap.size_push] at ok
 have I4:Inv X pins σ H { s with heap:=pushCells (s.heap.push { cls:=.type "dict",data:=.dict #[] }) scope.names }:=I.kept (t':=s.toks) k
 generalize hh:pushCells (s.heap.push { cls:=.type "dict",data:=.dict #[] }) scope.names=h₁ at k hn ok I4
 have old:∀ {y:Str} {b:Nat},(clOf X.env scope.names []).lookup y=some b->b < s.heap.objs.size:=fun {y b} e=>by
  obtain ⟨v,z⟩:=I.cell y b (c.was I e)
  exact z.lt
 have own:∀ {y:Str} {b:Nat},(cellsFrom (s.heap.objs.size+1) scope.names []).lookup y=some b->h₁.IsCell b none/\s.heap.objs.size+1<=b:=fun {y b} e=>ok.empty y b (mem_of_lookup e)
 refine ⟨⟨I.ok.mod,c.kind,I.ok.glob,I.ok.blt,Nat.le_refl _,fun y z b h1 h2=>?_,fun y hy=>?_,fun y b h0 h1=>?_,I.ok.hd,I.ok.frames,.inl rfl,fun b hb=>?_,fun b o e=>?_,?_,fun b o e hb=>?_,fun b hb hs=>?_,?_,fun b hb=>?_⟩,
  rfl,I.bare,Un.kept k,⟨_,hn,fun i y v h1 h2 h3=>?_⟩,fun y b h=>?_,?_,fun y b h=>?_,fun p hp=>absurd (show p∈([]:List (Addr × Obj)) from hp) (by simp),I4.hok,?_⟩
 ·rcases c_n h1 with e1 | ⟨_,e1⟩ <;> rcases c_n h2 with e2 | ⟨_,e2⟩
  ·exact name_of_addr ok.apart (mem_of_lookup e1) (mem_of_lookup e2)
  ·exact absurd (Nat.lt_of_lt_of_le (old e2) (Nat.le_of_succ_le (own e1).2)) (Nat.lt_irrefl _)
  ·exact absurd (Nat.lt_of_lt_of_le (old e1) (Nat.le_of_succ_le (own e2).2)) (Nat.lt_irrefl _)
  ·exact I.ok.inj y z b (c.was I e1) (c.was I e2)
 ·show ∃ b,(cellsFrom (s.heap.objs.size+1) scope.names (clOf X.env scope.names [])).lookup y=some b
  have hm:(y,NameKind.free)∈scope.names\/(y,NameKind.cell)∈scope.names:=by
   rcases hy with hy | hy
   ·exact f_z hy (.inl rfl)
   ·exact f_z hy (.inr rfl)
  rcases hm with hm | hm
  ·exact e_I (.inr (d_Y (.inl hm)))
  ·exact e_I (.inl hm)
 ·have hy:scope.names.lookup y=some .cell:=by
   have h0':(scope.names.lookup y == some NameKind.cell)=true:=h0
   simpa using h0'
  rcases c_n h1 with e1 | ⟨e1,_⟩
  ·have:=(own e1).2
   show s.heap.objs.size<=b
   omega
  ·obtain ⟨b',e⟩:=e_I (n:=s.heap.objs.size+1) (acc:=[]) (.inl (mem_of_lookup hy))
   rw [e1] at e
   cases e
 ·obtain ⟨⟨_,_,_,_,f5,_⟩,o,e⟩:=hf b hb
  refine ⟨Nat.ne_of_lt (Heap.lt_size e),fun y b' h=>?_⟩
  rcases c_n h with e1 | ⟨_,e1⟩
  ·exact fun z=>absurd (Nat.lt_of_lt_of_le (Heap.lt_size e) (Nat.le_of_succ_le (z ▸ (own e1).2))) (Nat.lt_irrefl _)
  ·exact f5 y b' (c.was I e1)
 ·exact I.bs b o e
 ·exact Nat.le_trans I.ok.bsz I.sz
 ·obtain ⟨⟨_,_,_,f4,_,_⟩,_⟩:=hf b hb
  rcases f4 with z | z
  ·exact I.ok.noex b o e z
  ·exact absurd (Nat.lt_of_lt_of_le (Heap.lt_size e) (Nat.le_trans I.ok.bsz z)) (Nat.lt_irrefl _)
 ·obtain ⟨⟨_,f2,f3,_,_,_⟩,_⟩:=hf b hb
  rcases List.mem_cons.mp (I.stkSub b hs) with z | z
  ·exact f2 z
  ·exact f3 z
 ·exact I.stack
 ·exact I.stkFree b hb
 ·have h1':(xs++fr.map (·.1))[i]?=some y:=h1
  by_cases hi:i < xs.length
  ·rw [List.getElem?_append_left (by simpa using hi),List.getElem?_map] at h2
   cases q:xs[i]? with
   | none=>rw [q] at h2; cases h2
   | some z=>rw [q] at h2; cases Option.some.inj h2
  ·rw [List.getElem?_append_right (by omega)] at h1'
   rw [List.getElem?_append_right (by simpa using hi),List.length_map] at h2
   generalize i - xs.length=j at h1' h2
   rw [List.getElem?_map] at h1'
   unfold b_X at h2
   rw [List.getElem?_map] at h2
   cases e:fr[j]? with
   | none=>rw [e] at h1'; cases h1'
   | some p =>
    rw [e] at h1' h2
    have e1:p.1=y:=Option.some.inj h1'
    have e2:σ.getD p.2 none=some v:=Option.some.inj h2
    obtain ⟨n1,n2⟩:=c.fr p (List.mem_of_getElem? e)
    have e3:σ[p.2]?=some (some v):=by
     rw [List.getD_eq_getElem?_getD] at e2
     cases q:σ[p.2]? with
     | none=>rw [q] at e2; cases e2
     | some o=>rw [q] at e2; have e2':o=some v:=e2; rw [e2']
    subst e1
    have hm:(p.1,NameKind.free)∈scope.names:=PySem.mem_of_lookup n2
    have kd:=c.free' _ hm rfl
    obtain ⟨m',_,hl⟩:=I4.loc
    obtain ⟨u,ru,lk⟩:=hl p.2 p.1 v n1 e3 (.inr kd)
    refine ⟨u,ru,.inr ⟨e_F n2,?_⟩⟩
    rcases lk with ⟨k1,_⟩ | ⟨_,b,q,z⟩
    ·rcases kd with kd | kd <;> (rw [kd] at k1; cases k1)
    ·obtain ⟨b',q'⟩:=d_Y (env:=X.env) (l:=scope.names) (cs:=[]) (.inl hm)
     have e4:=c.was I q'
     rw [q] at e4
     cases e4
     refine ⟨b,?_,z⟩
     show (cellsFrom (s.heap.objs.size+1) scope.names (clOf X.env scope.names [])).lookup p.1=some b
     rw [e_H,List.lookup_append]
     cases w:(cellsFrom (s.heap.objs.size+1) scope.names []).lookup p.1 with
     | none=>exact q'
     | some b2 =>
      rcases h_C (mem_of_lookup w) with w | w
      ·simp at w
      ·cases j_t c.nn hm w
 ·rcases c_n h with e1 | ⟨_,e1⟩
  ·exact ⟨none,(own e1).1⟩
  ·exact I4.cell y b (c.was I e1)
 ·exact I.hok.fresh (Nat.le_refl _)
 ·rcases c_n h with e1 | ⟨_,e1⟩
  ·exact I.hok.fresh (by have:=(own e1).2; omega)
  ·exact I4.freeC y b (c.was I e1)
 ·show (xs.map (fun _=>none)++b_X fr σ).length=(xs++fr.map (·.1)).length
  simp [b_X]
end
noncomputable abbrev TOx:=St->Hp->(Option V->Hp->Prop)->Prop
noncomputable def tEl (te:TE)  : TOx:=fun σ H Q=>te σ H fun y H'=>Q (some y) H'
noncomputable def d_R (tc:TT) (te:TE)  : TOx:=fun σ H Q=>tc σ H fun b H1=>if b=true then te σ H1 (fun y H'=>Q (some y) H') else Q none H1
noncomputable def g_p (elt:Expr) (ifs:List Expr) (env:Env) (M:Model) (A:Around) (Q:Option Value->Shared->Prop) (E:Value->Shared->Prop) (s:Shared):Prop :=
 match ifs with
 | []=>wpAny M A (eval elt env) (fun x s1=>Q (some x) s1) E s
 | [c]=>wpAny M A (isTrue c env (eval c env)) (fun b s1=>if b=true then wpAny M A (eval elt env) (fun x s2=>Q (some x) s2) E s1 else Q none s1) E s
 | _=>False
noncomputable def POx (X:Cx) (elt:Expr) (ifs:List Expr) (t:TOx):Prop:=∀ (pins:List (Addr × Obj)) (s:Shared) (σ:St) (H:Hp) (Q:Option V->Hp->Prop),Inv X pins σ H s->t σ H Q ->
 g_p elt ifs X.env (model X.prog X.w) X.A (fun o s'=>∃ v H',Inv X pins σ H' s'/\(match o,v with | some u,some y=>RelV y u | none,none=>True | _,_=>False)/\Q v H') X.xe s
theorem c_g {X:Cx} {elt:Expr} {te:TE} (h:PE X elt te):POx X elt [] (tEl te):=fun pins s σ H Q I hw =>
 thn (h pins s σ H _ I hw) fun u s1 ⟨y,H1,I1,r1,q1⟩=>⟨some y,H1,I1,r1,q1⟩
theorem k_V {X:Cx} {elt c:Expr} {tc:TT} {te:TE} (hc:PT X c tc) (h:PE X elt te):POx X elt [c] (d_R tc te):=fun pins s σ H Q I hw=>by
 refine thn (hc pins s σ H _ I hw) fun b s1 ⟨H1,I1,q1⟩=>?_
 cases b with
 | true =>
  rw [if_pos rfl] at q1 ⊢
  exact thn (h pins s1 σ H1 _ I1 q1) fun u s2 ⟨y,H2,I2,r2,q2⟩=>⟨some y,H2,I2,r2,q2⟩
 | false =>
  rw [if_neg Bool.false_ne_true] at q1 ⊢
  exact ⟨none,H1,I1,trivial,q1⟩
theorem e_b {prog:Program} {w:World} {A:Around} {R:Result->Shared->Prop} {s:Shared} {elt target iter:Expr} {ifs:List Expr} {scope:Scope} {pos:Pos} {it acc:Value} {env:Env} (I:Nat->Shared->Prop)
  (turn:∀ n s,I n s->wpAny (model prog w) A (pyNext it) (fun r s₁=>match r with
   | none=>R (.ok .next) s₁
   | some v=>wpAny (model prog w) A (letOwnedTupleGo target it v) (fun _ s₁'=>wpAny (model prog w) A (assign target env v) (fun _ s₂=>g_p elt ifs env (model prog w) A (fun o s₃=>match o with
     | some x=>wpAny (model prog w) A (call (.builtin "list.append") [acc,x]) (fun _ s₄=>∃ m,m < n/\I m s₄) (fun _ _=>False) s₃
     | none=>∃ m,m < n/\I m s₃)
     (fun _ _=>False) s₂) (fun _ _=>False) s₁') (fun _ _=>False) s₁) (fun _ _=>False) s)
  (n:Nat) (h:I n s) (hifs:ifs.length<=1) :
  codeAny (model prog w) A (.compLoop (.ListComp elt [⟨target,iter,ifs,0⟩] scope pos) 0 it acc env) R s:=by
 refine codeAny_loop rfl I (fun n s hI=>?_) n h
 show wpAny _ _ ((compTurn (.ListComp elt [⟨target,iter,ifs,0⟩] scope pos) 0 it acc env).onRaise (fun x=>do noteFrame x env; theTreesLotGoes x)) _ _ s
 refine wpAny_noted ?_
 have T:=turn n s hI
 match ifs,hifs,T with
 | [],_,T =>
  rw [compTurn_list1]
  refine wpAny_bind (wpAny_standAt (wpAny_bind (wpAny_mono T (fun r s₁ h₁=>?_) fun _ _ h'=>h'.elim)))
  cases r with
  | none=>exact wpAny_pure h₁
  | some v =>
   refine wpAny_bind (wpAny_mono h₁ (fun _ s₁' h₁'=>?_) fun _ _ h'=>h'.elim)
   exact wpAny_bind (wpAny_mono h₁' (fun _ s₂ h₂=>wpAny_bind (wpAny_bind (wpAny_mono (show wpAny _ _ _ _ _ _ from h₂) (fun x s₃ h₃=>wpAny_bind (wpAny_mono h₃
    (fun _ s₄ h₄=>wpAny_pure (wpAny_pure ⟨rfl,h₄⟩)) fun _ _ h'=>h'.elim)) fun _ _ h'=>h'.elim))) fun _ _ h'=>h'.elim)
 | [c],_,T =>
  have e1:compTurn (.ListComp elt [⟨target,iter,[c],0⟩] scope pos) 0 it acc env=(standAt iter.pos >>= fun _=>pyNext it >>= fun r=>match r with
   | none=>pure (.done .next)
   | some v=>letOwnedTupleGo target it v >>= fun _=>assign target env v >>= fun _=>isTrue c env (eval c env) >>= fun ok =>
    (if ok=true then (eval elt env >>= fun x=>call (.builtin "list.append") [acc,x] >>= fun _=>pure ()) >>= fun _=>again (.compLoop (.ListComp elt [⟨target,iter,[c],0⟩] scope pos) 0 it acc env)
     else again (.compLoop (.ListComp elt [⟨target,iter,[c],0⟩] scope pos) 0 it acc env))):=by
   unfold compTurn
   simp only [List.forIn_cons,List.forIn_nil,if_true,bind_assoc,pure_bind,List.getElem?_cons_zero]
   rfl
  rw [e1]
  refine wpAny_bind (wpAny_standAt (wpAny_bind (wpAny_mono T (fun r s₁ h₁=>?_) fun _ _ h'=>h'.elim)))
  cases r with
  | none=>exact wpAny_pure h₁
  | some v =>
   refine wpAny_bind (wpAny_mono h₁ (fun _ s₁' h₁'=>?_) fun _ _ h'=>h'.elim)
   refine wpAny_bind (wpAny_mono h₁' (fun _ s₂ h₂=>wpAny_bind (wpAny_mono (show wpAny _ _ _ _ _ _ from h₂) (fun b s₃ h₃=>?_) fun _ _ h'=>h'.elim)) fun _ _ h'=>h'.elim)
   cases b with
   | true =>
    rw [if_pos rfl] at h₃ ⊢
    exact wpAny_bind (wpAny_bind (wpAny_mono h₃ (fun x s₄ h₄=>wpAny_bind (wpAny_mono h₄ (fun _ s₅ h₅=>wpAny_pure (wpAny_pure ⟨rfl,h₅⟩)) fun _ _ h'=>h'.elim)) fun _ _ h'=>h'.elim))
   | false =>
    rw [if_neg Bool.false_ne_true] at h₃ ⊢
    exact wpAny_pure ⟨rfl,h₃⟩
 | _ :: _ :: _,hifs,T =>
  exact absurd hifs (by simp)
noncomputable def o_Q (a:Addr) (N:Hp->Prop):Option V->Hp->Prop
 | some y,H=>∃ zs,H a=some (.lst zs)/\zs.length < sizeLine/\N (upd H a (.lst (zs++[y])))
 | none,H=>N H
noncomputable abbrev c_w (J:It) (g:TG) (tt:TOx) (n:Nat) (fr:List (Str × Nat)) (σ:St) (a:Addr) (H:Hp) (Q:VK):Prop :=
 ∃ W:Nat->Nat->Hp->Prop,(∃ m,W 0 m (upd H a (.lst [])))/\∀ i m H2,W i m H2->(J.stop i H2/\Q (.ref a) H2) \/
  (J.go i H2/\∃ N:Hp->Prop,(∀ H',N H'->∃ m',m' < m/\W (i+1) m' H')/\∀ (ys:St) x H3,ys.length=n->J.yld i H2 x H3 ->
   g x (ys++b_X fr σ) H3 fun σ4 H4=>(∃ ys':St,ys'.length=n/\σ4=ys'++b_X fr σ)/\tt σ4 H4 (o_Q a N))
noncomputable def c_E (wi:TI) (g:TG) (tt:TOx) (n:Nat) (fr:List (Str × Nat)):TE:=fun σ H Q=>wi σ H fun J H1=>∀ a,H1 a=none->c_w J g tt n fr σ a H1 Q
section
variable {X:Cx} {sc scope:Scope} {xs:List Str} {fr:List (Str × Nat)} {elt tg iter:Expr} {ifs:List Expr} {g:TG} {tt:TOx}
theorem g_q {pins:List (Addr × Obj)} {σ:St} {H:Hp} {s:Shared} {pos:Pos} {J:It} {fp:List Addr} {it:Addr} {tn:Nat->Heap->Prop} {Q:VK} {RR:Value->Addr->Result->Shared->Prop} {E:Value->Shared->Prop}
  (c:c_p X sc scope xs fr) (hc:X.calm=true) (hifs:ifs.length<=1) (I:Inv X pins σ H s) (T:Turn X.prog X.w X.K tg J fp it tn) (t0:tn 0 s.heap) (hf:∀ b∈fp,FpOk X pins H b)
  (hg:∀ (s₃:Shared) (H₃:Hp) (fp:List Addr),(b_C X scope (xs++fr.map (·.1)) s₃ H₃ fp).env.scope=f_Q sc scope->PG (b_C X scope (xs++fr.map (·.1)) s₃ H₃ fp) tg g)
  (he:∀ (s₃:Shared) (H₃:Hp) (fp:List Addr),(b_C X scope (xs++fr.map (·.1)) s₃ H₃ fp).env.scope=f_Q sc scope->POx (b_C X scope (xs++fr.map (·.1)) s₃ H₃ fp) elt ifs tt)
  (hw:∀ a,H a=none->c_w J g tt xs.length fr σ a H Q)
  (hRR:∀ a C H' s' m,s'.heap.Ns C m->Inv X pins σ H' s'->FpOk X pins H' C->Q (.ref a) H'->RR (.ref a) C (.ok .next) s') :
  wpAny (model X.prog X.w) X.A (newList []) (fun acc s₃=>wpAny (model X.prog X.w) X.A (newFunctionEnv scope X.env.globals (clOf X.env scope.names []) [] X.env.qual none .none (some X.env)) (fun cenv s₄ =>
   codeAny (model X.prog X.w) X.A (.compStart (.ListComp elt [⟨tg,iter,ifs,0⟩] scope pos) 0 (.ref it) acc { cenv with scope:=relabel scope X.env }) (RR acc cenv.locals) s₄) E s₃) E s:=by
 obtain ⟨W,⟨m0,w0⟩,turn⟩:=hw s.heap.objs.size I.fresh
 refine wpAny_newObj_type (i_M ?_)
 have I3:Inv X pins σ (upd H s.heap.objs.size (.lst [])) { s with heap:=s.heap.push { cls:=.type "list",dict:=none,data:=.seq ([]:List Value).toArray } }:=I.lnew (ys:=[]) (its:=[]) (t':=s.toks) .nil (Nat.zero_le _)
 have kp:∀ b o,s.heap.get? b=some o->(s.heap.push { cls:=.type "list",dict:=none,data:=.seq ([]:List Value).toArray }).get? b=some o:=fun b o e=>Heap.get?_push_of_some _ e
 have un0:Un (frs X.stack) fp H (upd H s.heap.objs.size (.lst [])) s.heap (s.heap.push { cls:=.type "list",dict:=none,data:=.seq ([]:List Value).toArray }):=Un.laid kp (Nat.le_refl _) I.fresh
 dsimp only
 generalize hH2:s.heap.push { cls:=.type "list",dict:=none,data:=.seq ([]:List Value).toArray }=hp2 at I3 kp un0 ⊢
 have hsz:s.heap.objs.size<=hp2.objs.size:=by rw [← hH2,Heap.size_push]; exact Nat.le_succ _
 have ft:∀ b∈fp,∃ o,s.heap.get? b=some o:=fun b hb=>let ⟨o,e,_⟩:=T.obj _ _ t0 b hb; ⟨o,e⟩
 have nea:∀ b∈fp,b≠s.heap.objs.size:=fun b hb=>let ⟨_,e⟩:=ft b hb; Nat.ne_of_lt (Heap.lt_size e)
 have f3:∀ b∈fp,FpOk X pins (upd H s.heap.objs.size (.lst [])) b/\∃ o,hp2.get? b=some o:=fun b hb=>by
  obtain ⟨o,e⟩:=ft b hb
  exact ⟨⟨by rw [a_E (nea b hb)]; exact (hf b hb).1,(hf b hb).2⟩,o,kp b o e⟩
 have J0:=h_Z c I3 f3
 have k4:∀ b o,hp2.get? b=some o->(pushCells (hp2.push { cls:=.type "dict",data:=.dict #[] }) scope.names).get? b=some o:=fun b o e=>pushCells_keeps _ _ b o (Heap.get?_push_of_some _ e)
 have t4:tn 0 (pushCells (hp2.push { cls:=.type "dict",data:=.dict #[] }) scope.names):=T.keep 0 _ _ t0 fun b hb o e=>k4 b o (kp b o e)
 have esc:∀ (s₃:Shared) (H₃:Hp) (fp:List Addr),(b_C X scope (xs++fr.map (·.1)) s₃ H₃ fp).env.scope=f_Q sc scope:=fun _ _ _=>k_U c.hsc
 have stat:∀ {H':Hp},(∀ b∈fp,H' b=none)->∀ b∈fp,FpOk (b_C X scope (xs++fr.map (·.1)) { s with heap:=hp2 } (upd H s.heap.objs.size (.lst [])) fp) [] H' b:=fun hn b hb=>by
  obtain ⟨e1,e2⟩:=J0.ok.exf b hb
  exact ⟨hn b hb,e1,J0.ok.exfs b hb,.inl hb,e2,fun p hp=>absurd (show p∈([]:List (Addr × Obj)) from hp) (by simp)⟩
 have loop:codeAny (model X.prog X.w) X.A (.compLoop (.ListComp elt [⟨tg,iter,ifs,0⟩] scope pos) 0 (.ref it) (.ref s.heap.objs.size) (compEnvC scope (cellsFrom (hp2.objs.size+1) scope.names (clOf X.env scope.names [])) hp2.objs.size X.env))
   (RR (.ref s.heap.objs.size) hp2.objs.size) { s with heap:=pushCells (hp2.push { cls:=.type "dict",data:=.dict #[] }) scope.names }:=by
  refine e_b (fun n s'=>∃ i,∃ ys:St,∃ H',ys.length=xs.length/\Inv (b_C X scope (xs++fr.map (·.1)) { s with heap:=hp2 } (upd H s.heap.objs.size (.lst [])) fp) [] (ys++b_X fr σ) H' s'/\tn i s'.heap/\(∀ b∈fp,H' b=none)/\W i n H')
   ?_ m0 ⟨0,xs.map fun _=>none,_,by simp,J0,t4,fun b hb=>(f3 b hb).1.1,w0⟩ hifs
  rintro n s3 ⟨i,ys,H3,hys,K3,st3,fr3,w3⟩
  rcases turn i n H3 w3 with ⟨stop,qn⟩ | ⟨go,N,hN,step⟩
  ·refine thn (T.done (b_C X scope (xs++fr.map (·.1)) { s with heap:=hp2 } (upd H s.heap.objs.size (.lst [])) fp) rfl rfl rfl hc i [] s3 _ H3 (fun _ _=>False) K3 (stat fr3) st3 stop) fun r s4 ⟨hr,K4⟩=>?_
   subst hr
   obtain ⟨m4,hn4,_⟩:=K4.loc
   have K5:Inv X pins σ H3 s4:=I.call' K4.os (un0.trans K4.base) K4.hok K4.bare fun b hb=>let f:=hf b hb; ⟨f.2.2.2.1,f.2.1,f.2.2.2.2.1,f.2.2.2.2.2⟩
   exact hRR _ _ H3 s4 m4 hn4 K5 (I.fpOk hsz K4.free) qn
  ·refine thn (T.item (b_C X scope (xs++fr.map (·.1)) { s with heap:=hp2 } (upd H s.heap.objs.size (.lst [])) fp) rfl rfl rfl hc i [] s3 _ H3 (fun _ _=>False) K3 (stat fr3) st3 go) fun r s4 ⟨u,hr,h4⟩=>?_
   subst hr
   refine thn h4 fun _ s5 ⟨y,H5,K5,r5,y5,st5,fr5⟩=>?_
   have K5':=K5.pinned (stat fr5) (T.obj _ _ st5)
   refine thn (hg _ _ _ (esc _ _ _) _ s5 _ H5 y u _ K5' r5 (step ys y H5 hys y5)) fun _ s6 ⟨σ6,H6,K6,⟨ys6,hl6,e6⟩,q6⟩=>?_
   subst e6
   have fin:∀ (s8:Shared) (H8:Hp),Inv (b_C X scope (xs++fr.map (·.1)) { s with heap:=hp2 } (upd H s.heap.objs.size (.lst [])) fp) ([]++g_g fp s5.heap) (ys6++b_X fr σ) H8 s8->N H8 ->
     ∃ m,m < n/\∃ i,∃ ys:St,∃ H',ys.length=xs.length/\Inv (b_C X scope (xs++fr.map (·.1)) { s with heap:=hp2 } (upd H s.heap.objs.size (.lst [])) fp) [] (ys++b_X fr σ) H' s8/\tn i s8.heap/\(∀ b∈fp,H' b=none)/\W i m H':=by
    intro s8 H8 K8 n8
    obtain ⟨m',hm,w8⟩:=hN H8 n8
    refine ⟨m',hm,i+1,ys6,H8,hl6,K8.unpinned,T.keep _ _ _ st5 fun b hb o e=>(K8.pin (b,o) (List.mem_append_right _ (List.mem_append_right _ (d_I hb e)))).1,fun b hb=>?_,w8⟩
    obtain ⟨o,e,d⟩:=T.obj _ _ st5 b hb
    exact (K8.pin (b,o) (List.mem_append_right _ (List.mem_append_right _ (d_I hb e)))).2.1
   have h7:=he _ _ _ (esc _ _ _) _ s6 _ H6 _ K6 q6
   have mono:∀ {Q Q':Option Value->Shared->Prop} {E:Value->Shared->Prop} {s':Shared} {env:Env},(∀ o s1,Q o s1->Q' o s1)->g_p elt ifs env (model X.prog X.w) X.A Q E s'->g_p elt ifs env (model X.prog X.w) X.A Q' E s':=by
    intro Q Q' E s' env hq ht
    unfold g_p at ht ⊢
    match ifs,hifs,ht with
    | [],_,ht=>exact wpAny_mono ht (fun x s1 q=>hq _ _ q) fun _ _ e=>e
    | [c],_,ht =>
     refine wpAny_mono ht (fun b s1 q=>?_) fun _ _ e=>e
     split at q
     ·rename_i hb; rw [if_pos hb]; exact wpAny_mono q (fun x s2 q=>hq _ _ q) fun _ _ e=>e
     ·rename_i hb; rw [if_neg hb]; exact hq _ _ q
    | _ :: _ :: _,hifs,_=>exact absurd hifs (by simp)
   refine mono (fun o s7 ⟨z7,H7,K7,r7,q7⟩=>?_) h7
   cases o with
   | none =>
    cases z7 with
    | none=>exact fin s7 H7 K7 q7
    | some z=>exact r7.elim
   | some v7 =>
    cases z7 with
    | none=>exact r7.elim
    | some z7 =>
     obtain ⟨zs,hz,hl,w7⟩:=q7
     exact thn (f_y _ s7 _ H7 (.ref s.heap.objs.size) [z7] (.ref s.heap.objs.size) [v7] (fun _ H8=>N H8) K7 rfl (.cons r7 .nil) ⟨_,zs,z7,rfl,rfl,hz,hl,w7⟩) fun _ s8 ⟨_,H8,K8,_,n8⟩=>fin s8 H8 K8 n8
 exact codeAny_compStart_list loop (T.self _ 0 _ _ _ t4 loop)
variable {wi:TI}
theorem b_G {pos:Pos} (c:c_p X sc scope xs fr) (hc:X.calm=true) (hi:PI X tg iter wi)
  (hg:∀ (s₃:Shared) (H₃:Hp) (fp:List Addr),(b_C X scope (xs++fr.map (·.1)) s₃ H₃ fp).env.scope=f_Q sc scope->PG (b_C X scope (xs++fr.map (·.1)) s₃ H₃ fp) tg g)
  (he:∀ (s₃:Shared) (H₃:Hp) (fp:List Addr),(b_C X scope (xs++fr.map (·.1)) s₃ H₃ fp).env.scope=f_Q sc scope->POx (b_C X scope (xs++fr.map (·.1)) s₃ H₃ fp) elt ifs tt)
  (hifs:ifs.length<=1:=by exact Nat.le_of_ble_eq_true rfl) (hs:∀ x,foldedSetIterable iter X.env x=pure x:=by intro _; rfl):PE X (.ListComp elt [⟨tg,iter,ifs,0⟩] scope pos) (c_E wi g tt xs.length fr):=by
 intro pins s σ H Q I h
 rw [eval_ListComp]
 refine wpAny_comprehension_free (use:=none) rfl hs (e_B (c.cells I)) c.kind c.loc (thn (hi pins s σ H _ I h) fun v s1 h1=>thn h1 fun itv s2 h2=>?_)
 obtain ⟨it,fp,tn,J,H2,e,I2,T,t2,f2,hw⟩:=h2
 subst e
 refine g_q (RR:=fun acc C=>compPost (model X.prog X.w) X.A X.xe none (EP X pins σ Q) acc C) c hc hifs I2 T t2 f2 hg he hw ?_
 intro a C H' s' m hn K f q
 exact ⟨m,hn,fun h' hs'=>⟨.ref a,H',K.turned (t':=s'.toks) (fun b o hb e=>(hs'.2 b hb).trans e) f.1 f.2.1 f.2.2.2.1 f.2.2.2.2.1 f.2.2.2.2.2,rfl,q⟩⟩
theorem c_q {pos spos py:Pos} {y:Str} {i:Nat} (c:c_p X sc scope xs fr) (hc:X.calm=true) (hN:X.N.Nodup) (hy:X.N[i]?=some y) (hl:X.env.scope.names.lookup y=some .local) (hi:PI X tg iter wi)
  (hg:∀ (s₃:Shared) (H₃:Hp) (fp:List Addr),(b_C X scope (xs++fr.map (·.1)) s₃ H₃ fp).env.scope=f_Q sc scope->PG (b_C X scope (xs++fr.map (·.1)) s₃ H₃ fp) tg g)
  (he:∀ (s₃:Shared) (H₃:Hp) (fp:List Addr),(b_C X scope (xs++fr.map (·.1)) s₃ H₃ fp).env.scope=f_Q sc scope->POx (b_C X scope (xs++fr.map (·.1)) s₃ H₃ fp) elt ifs tt)
  (hsw:swapsWith (.ListComp elt [⟨tg,iter,ifs,0⟩] scope pos) (some (.Name y py)) spos.line X.env=pure true:=by rfl)
  (hifs:ifs.length<=1:=by exact Nat.le_of_ble_eq_true rfl) (hs:∀ x,foldedSetIterable iter X.env x=pure x:=by intro _; rfl):PS X (.Assign [.Name y py] (.ListComp elt [⟨tg,iter,ifs,0⟩] scope pos) spos) (c_F i (c_E wi g tt xs.length fr)):=by
 intro pins s σ H D I h
 rw [exec_Assign_Name_used _ _ _ _ hsw]
 refine wpAny_bind (wpAny_standAt (wpAny_bind ?_))
 show wpAny _ _ (do let _ ← comprehension (.ListComp elt [⟨tg,iter,ifs,0⟩] scope pos) scope X.env _ (newList []) false (eval iter X.env) (some (assign (.Name y py) X.env))) _ _ s
 refine wpAny_bind (wpAny_mono (wpAny_comprehension_free (use:=some (assign (.Name y py) X.env)) (Q:=fun _ s'=>SP X pins D .next s') rfl hs (e_B (c.cells I)) c.kind c.loc
  (thn (hi pins s σ H _ I h) fun v s1 h1=>thn h1 fun itv s2 h2=>?_)) (fun _ s' hq=>wpAny_pure (wpAny_pure hq)) fun _ _ e=>e)
 obtain ⟨it,fp,tn,J,H2,e,I2,T,t2,f2,hw⟩:=h2
 subst e
 refine g_q (RR:=fun acc C=>compPost (model X.prog X.w) X.A X.xe (some (assign (.Name y py) X.env)) (fun _ s'=>SP X pins D .next s') acc C) (Q:=fun v H1=>D.nx (σ.set i (some v)) H1) c hc hifs I2 T t2 f2 hg he hw ?_
 intro a C H' s' m hn K f q
 show wpAny _ _ (assign (.Name y py) X.env (.ref a)) _ _ _
 refine wpAny_assign_Name (g_N K hN hy (.inl hl) (show RelV (.ref a) (.ref a) from rfl) (fun s'' K2 ⟨b,sb,hb⟩=>?_) (.inr hl))
 have hCb:C≠b:=by
  rcases hb with e | e
  ·rw [e]; exact f.2.1
  ·exact Ne.symm (f.2.2.2.2.1 y b e)
 refine ⟨m,hn.sameBut sb hCb,fun h' hs'=>?_⟩
 exact ⟨_,H',K2.turned (t':=s''.toks) (fun b o hb e=>(hs'.2 b hb).trans e) f.1 f.2.1 f.2.2.2.1 f.2.2.2.2.1 f.2.2.2.2.2,q⟩
end
noncomputable def k_W (sc:Scope) (N:List Str) (scope:Scope) (fr:List (Str × Nat)):Bool :=
 decide (scope.kind=.function) && decide ((scope.names.map (·.1)).Nodup) && decide (∀ y∈scope.names,y.2=.free->sc.names.lookup y.1=some .cell\/sc.names.lookup y.1=some .free) &&
 decide (∀ y∈scope.names,y.2=.local->scope.names.lookup y.1=some .local) && decide (∀ p∈fr,N[p.2]?=some p.1/\scope.names.lookup p.1=some .free)
theorem a_T {X:Cx} {sc scope:Scope} {N xs:List Str} {fr:List (Str × Nat)} (h1:X.env.scope=sc) (h2:X.N=N) (h:k_W sc N scope fr=true):c_p X sc scope xs fr:=by
 unfold k_W at h
 simp only [Bool.and_eq_true,decide_eq_true_eq] at h
 obtain ⟨⟨⟨⟨e1,e2⟩,e3⟩,e4⟩,e5⟩:=h
 subst h2
 exact ⟨h1,e1,e2,e3,e4,e5⟩
noncomputable def n_X (sc:Scope) (N:List Str) (i:Nat) (x:Str):Bool:=decide (N.Nodup) && decide (N[i]?=some x) && (decide (sc.names.lookup x=some .local))
theorem b_z {X:Cx} {sc:Scope} {N:List Str} {i:Nat} {x:Str} {pos:Pos} (h1:X.env.scope=sc) (h2:X.N=N) (h:n_X sc N i x=true):PG X (.Name x pos) (a_R i):=by
 unfold n_X at h
 simp only [Bool.and_eq_true,decide_eq_true_eq] at h
 subst h1 h2
 exact b_N h.1.1 h.1.2 (.inl h.2) (.inr h.2)
theorem h_D {X:Cx} {sc:Scope} {N:List Str} {i:Nat} {x:Str} {pos:Pos} (h1:X.env.scope=sc) (h2:X.N=N) (h:(decide (N.Nodup) && decide (N[i]?=some x) && (decide (sc.names.lookup x=some .cell)))=true) (hf:X.fn x=true):PG X (.Name x pos) (a_R i):=by
 simp only [Bool.and_eq_true,decide_eq_true_eq] at h
 subst h1 h2
 exact b_N h.1.1 h.1.2 (.inr h.2) (.inl hf)
noncomputable def SqB (b:Bool) (K:Frag) (H:Hp) (a:Addr) (xs:List V):Prop:=match b with | false=>SqL K H a xs | true=>SqT K H a xs
noncomputable def ItB (b:Bool) (h:Heap) (it a:Addr) (i:Nat):Prop:=match b with | false=>h.IsListIter it a i | true=>h.IsTupleIter it a i
noncomputable def seqB (b:Bool) (h:Heap) (a:Addr) (its:Array Value):Prop:=match b with | false=>h.IsList a its | true=>h.IsTuple a its
noncomputable def nmB (b:Bool):String:=match b with | false => "list_iterator" | true => "tuple_iterator"
theorem ItB.at {b:Bool} {h h':Heap} {it a:Addr} {i:Nat} (x:ItB b h it a i) (e:∀ o,h.get? it=some o->h'.get? it=some o):ItB b h' it a i:=by
 cases b
 ·exact Heap.IsListIter.at x e
 ·exact Heap.IsTupleIter.at x e
theorem seqB.at {b:Bool} {h h':Heap} {a:Addr} {its:Array Value} (x:seqB b h a its) (e:∀ o,h.get? a=some o->h'.get? a=some o):seqB b h' a its:=by
 cases b
 ·exact Heap.IsList.at x e
 ·obtain ⟨o,ho,r⟩:=x
  exact ⟨o,e o ho,r⟩
theorem ItB.lt {b:Bool} {h:Heap} {it a:Addr} {i:Nat} (x:ItB b h it a i):∃ o,h.get? it=some o/\∀ v,o.data≠.cell v:=by
 cases b
 ·obtain ⟨o,e,c,d⟩:=x
  exact ⟨o,e,fun v z=>by rw [d] at z; cases z⟩
 ·obtain ⟨o,e,c,d⟩:=x
  exact ⟨o,e,fun v z=>by rw [d] at z; cases z⟩
section
variable {prog:Program} {w:World} {A:Around} {E:Value->Shared->Prop} {s:Shared}
theorem i_N {it t:Addr} {i:Nat} {items} {x:Value} {Q:Value->Shared->Prop} (hit:s.heap.IsTupleIter it t i) (ht:s.heap.IsTuple t items) (hx:items[i]?=some x)
  (hQ:∀ h',h'.IsTupleIter it t (i+1)->Heap.SameBut it s.heap h'->Q x { s with heap:=h' }):wpAny (model prog w) A (Builtin.SmallTypes.nextOf (.ref it)) Q E s:=by
 obtain ⟨o,ho,hc,hd⟩:=id hit
 obtain ⟨ol,hol,_,nl,hdl⟩:=ht
 unfold Builtin.SmallTypes.nextOf
 refine wpAny_bind (wpAny_callSpecial?_slot (name:=Str.ofString "__next__") hit.typeIs F.slot_tuple_iterator_next
  (wpAny_call_entry F.slot_tuple_iterator_next hit.typeIs F.entry_tuple_iterator_next ?_ (F.args_tuple_iterator_next_1 _)))
 show wpAny _ _ (field (.ref it) 0 >>= _) _ _ s
 refine wpAny_bind (wpAny_field ho hd (x:=.ref t) rfl ?_)
 show wpAny _ _ (if (Value.ref t == Value.none)=true then _ else _) _ _ s
 rw [if_neg (show ¬ ((Value.ref t == Value.none)=true) from Bool.false_ne_true)]
 show wpAny _ _ (field (.ref it) 1 >>= _) _ _ s
 refine wpAny_bind (wpAny_field ho hd (x:=.int i 0) rfl ?_)
 show wpAny _ _ (seqItems? (.ref t) >>= _) _ _ s
 refine wpAny_bind (wpAny_seqItems hol hdl ?_)
 simp only [Int.toNat_natCast,hx]
 refine wpAny_bind (wpAny_setField ho hd (by simp) (wpAny_pure ⟨x,rfl,wpAny_pure (hQ _ ?_ (Heap.SameBut.update ..))⟩))
 exact ⟨_,Heap.get?_update_self _ ho (Obj.isFreed_of_fields (Obj.data_mapFields hd _)),(Obj.cls_mapFields ..).trans hc,by
  rw [Obj.data_mapFields hd]; simp [rawInt]⟩
theorem k_d {it t:Addr} {i:Nat} {items} {Q:Value->Shared->Prop} (hh:A.handled=none) (hit:s.heap.IsTupleIter it t i) (ht:s.heap.IsTuple t items) (hx:items[i]?=none)
  (hE:∀ h' e,Heap.ExtBut it s.heap h'->(∃ o,h'.get? e=some o/\o.cls=.type "StopIteration")->E (.ref e) { s with heap:=h' }):wpAny (model prog w) A (Builtin.SmallTypes.nextOf (.ref it)) Q E s:=by
 obtain ⟨o,ho,hc,hd⟩:=id hit
 obtain ⟨ol,hol,_,nl,hdl⟩:=ht
 unfold Builtin.SmallTypes.nextOf
 refine wpAny_bind (wpAny_callSpecial?_slot (name:=Str.ofString "__next__") hit.typeIs F.slot_tuple_iterator_next
  (wpAny_call_entry F.slot_tuple_iterator_next hit.typeIs F.entry_tuple_iterator_next ?_ (F.args_tuple_iterator_next_1 _)))
 show wpAny _ _ (field (.ref it) 0 >>= _) _ _ s
 refine wpAny_bind (wpAny_field ho hd (x:=.ref t) rfl ?_)
 show wpAny _ _ (if (Value.ref t == Value.none)=true then _ else _) _ _ s
 rw [if_neg (show ¬ ((Value.ref t == Value.none)=true) from Bool.false_ne_true)]
 show wpAny _ _ (field (.ref it) 1 >>= _) _ _ s
 refine wpAny_bind (wpAny_field ho hd (x:=.int i 0) rfl ?_)
 show wpAny _ _ (seqItems? (.ref t) >>= _) _ _ s
 refine wpAny_bind (wpAny_seqItems hol hdl ?_)
 simp only [Int.toNat_natCast,hx]
 refine wpAny_bind (wpAny_rule (wpAny_bind (wpAny_setField ho hd (by simp) ?_)))
 show wpAny _ _ (newExc (.type "StopIteration") [] >>= _) _ _ _
 refine wpAny_bind ?_
 simp only [newExc,newTuple]
 refine wpAny_bind (wpAny_newObj_type ?_ (by size_fits))
 refine wpAny_bind (m:=firstArgMember _ _) (wpAny_of_eq (a:=Value.none) (by first | rfl | (simp only [firstArgMember]; rfl)) ?_)
 refine wpAny_newObj_type ?_ (by size_fits)
 simp only [raiseNew]
 refine wpAny_bind (wpAny_handled ?_)
 first | rw [show A.in1.handled=none from hh] | rw [hh]
 refine wpAny_bind (wpAny_pure (wpAny_throw ?_))
 exact hE _ _ (((Heap.SameBut.update ..).extBut.push _).push _) ⟨_,Heap.get?_push_size _ rfl,rfl⟩
theorem d_K {b:Bool} {it l:Addr} {i:Nat} {items:Array Value} {x:Value} {Q:Value->Shared->Prop} (hit:ItB b s.heap it l i) (hl:seqB b s.heap l items) (hx:items[i]?=some x)
  (hQ:∀ h',ItB b h' it l (i+1)->Heap.SameBut it s.heap h'->Q x { s with heap:=h' }):wpAny (model prog w) A (Builtin.SmallTypes.nextOf (.ref it)) Q E s:=by
 cases b
 ·exact wpAny_nextOf_list_item hit hl hx hQ
 ·exact i_N hit hl hx hQ
theorem f_A {b:Bool} {it l:Addr} {i:Nat} {items:Array Value} {Q:Value->Shared->Prop} (hh:A.handled=none) (hit:ItB b s.heap it l i) (hl:seqB b s.heap l items) (hx:items[i]?=none)
  (hE:∀ h' e,Heap.ExtBut it s.heap h'->(∃ o,h'.get? e=some o/\o.cls=.type "StopIteration")->E (.ref e) { s with heap:=h' }):wpAny (model prog w) A (Builtin.SmallTypes.nextOf (.ref it)) Q E s:=by
 cases b
 ·exact wpAny_nextOf_list_end hh hit hl hx hE
 ·exact k_d hh hit hl hx hE
theorem n_Y {b:Bool} {l:Addr} {items:Array Value} {Q:Value->Shared->Prop} (hl:seqB b s.heap l items)
  (hQ:Q (.ref s.heap.objs.size) { s with heap:=s.heap.push { cls:=.type (nmB b),data:=.fields #[.ref l,.int 0 0] } }):wpAny (model prog w) A (pyIter (.ref l)) Q E s:=by
 cases b
 ·exact wpAny_pyIter_list hl hQ
 ·exact wpAny_pyIter_tuple hl hQ
theorem g_Z {b:Bool} {h:Heap} {l:Addr}:ItB b (h.push { cls:=.type (nmB b),data:=.fields #[.ref l,.int 0 0] }) h.objs.size l 0:=by
 cases b
 ·exact ⟨_,Heap.get?_push_size _ rfl,rfl,rfl⟩
 ·exact ⟨_,Heap.get?_push_size _ rfl,rfl,rfl⟩
theorem k_X (b:Bool) (hh:A.handled=none) (it l:Addr) (hne:l≠it) (items:Array Value) :
  Draws prog w A it [it,l] items.size (fun i v=>items[i]?=some v) (fun i h=>ItB b h it l i/\seqB b h l items) where
 live:=fun _ _ st=>let ⟨o,ho,_⟩:=st.1.lt; ⟨o,ho⟩
 frame:=fun _ _ _ st hk=>⟨st.1.at fun o e=>hk it (by simp) o e,st.2.at fun o e=>hk l (by simp) o e⟩
 item:=fun i s Q E hi st hQ=>by
  refine d_K st.1 st.2 (x:=items[i]) (by simp [hi]) fun h' hit' hs'=>?_
  exact hQ _ h' s.toks (by simp [hi]) ⟨hit',st.2.at fun o e=>(hs'.2 l hne).trans e⟩ hs'
 done:=fun s Q E st hE=>f_A hh st.1 st.2 (by simp) hE
theorem k_e {b1 b2:Bool} {z TI TO i1 i2 l1 l2:Addr} {k1 k2:Nat} {xs ys:Array Value} {x y a b:Value} {Q:Option Value->Shared->Prop} (D:ZipApart z TI TO i1 i2 l1 l2)
  (hz:IsZip s.heap z TI TO .none) (hTI:IsPair s.heap TI (.ref i1) (.ref i2)) (hTO:IsPair s.heap TO a b)
  (h1:ItB b1 s.heap i1 l1 k1) (h2:ItB b2 s.heap i2 l2 k2) (hl1:seqB b1 s.heap l1 xs) (hl2:seqB b2 s.heap l2 ys) (hx:xs[k1]?=some x) (hy:ys[k2]?=some y)
  (hQ:∀ h',IsZip h' z TI TO (rawInt s.heap.objs.size)->IsPair h' TO x y->ItB b1 h' i1 l1 (k1+1)->ItB b2 h' i2 l2 (k2+1)->IsPair h' s.heap.objs.size x y->h'.objs.size=s.heap.objs.size+1 ->
   (∀ c o,c≠z->c≠TO->c≠i1->c≠i2->s.heap.get? c=some o->h'.get? c=some o)->Q (some (.ref s.heap.objs.size)) { s with heap:=h' }) :
  wpAny (model prog w) A (pyNext (.ref z)) Q E s:=by
 have hT:s.TypeIs (.ref z) "zip" := ⟨_,hz,rfl⟩
 unfold pyNext
 refine wpAny_bind (wpAny_attempt (wpAny_callSpecial?_slot (name:=Str.ofString "__next__") hT F.slot_zip_next (wpAny_call_entry F.slot_zip_next hT F.entry_zip_next ?_ (F.args_zip_next_1 _))))
 show wpAny _ _ (field (.ref z) 2 >>= _) _ _ _
 refine wpAny_bind (wpAny_field hz rfl (x:=.bool false) rfl ?_)
 show wpAny _ _ (field (.ref z) 3 >>= _) _ _ _
 refine wpAny_bind (wpAny_field hz rfl (x:=.ref TI) rfl ?_)
 refine wpAny_bind (wpAny_seqItems hTI rfl ?_)
 show wpAny _ _ (Builtin.SmallTypes.ownedTupleIsFree (.ref z) >>= _) _ _ _
 refine wpAny_bind ?_
 unfold Builtin.SmallTypes.ownedTupleIsFree
 refine wpAny_bind (wpAny_field hz rfl (x:=.none) rfl (wpAny_pure ?_))
 simp only [if_true]
 refine wpAny_bind (wpAny_rule ?_)
 refine wpAny_bind (wpAny_field hz rfl (x:=.ref TO) rfl ?_)
 refine wpAny_bind (wpAny_setField_rec hz (by simp) fun h₁ hz₁ hs₁=>?_)
 replace hz₁:IsZip h₁ z TI TO .ellipsis:=hz₁
 refine wpAny_bind ?_
 simp only [List.zipIdx_cons,List.zipIdx_nil,List.forIn_cons,List.forIn_nil]
 refine wpAny_bind (wpAny_bind (wpAny_onRaise ?_))
 show wpAny _ _ (Builtin.SmallTypes.nextOf (.ref i1) >>= _) _ _ _
 refine wpAny_bind (d_K (h1.at fun o e=>hs₁.extBut _ _ D.i1z e) (hl1.at fun o e=>hs₁.extBut _ _ D.l1z e) hx fun h₂ h1₂ hs₂=>wpAny_pure ?_)
 have hTO₂:IsPair h₂ TO a b:=hs₂.extBut _ _ D.TOi1 (hs₁.extBut _ _ D.TOz hTO)
 refine wpAny_bind (wpAny_seqItems hTO₂ rfl ?_)
 refine wpAny_bind (wpAny_updateSeq_pair hTO₂ fun h₃ hTO₃ hs₃=>?_)
 replace hTO₃:IsPair h₃ TO x b:=hTO₃
 refine wpAny_bind (wpAny_letGo (wpAny_pure ?_))
 refine wpAny_bind (wpAny_bind (wpAny_onRaise ?_))
 show wpAny _ _ (Builtin.SmallTypes.nextOf (.ref i2) >>= _) _ _ _
 refine wpAny_bind (d_K (h2.at fun o e=>hs₃.extBut _ _ D.TOi2.symm (hs₂.extBut _ _ D.i12.symm (hs₁.extBut _ _ D.i2z e)))
  (hl2.at fun o e=>hs₃.extBut _ _ D.l2TO (hs₂.extBut _ _ D.l2i1 (hs₁.extBut _ _ D.l2z e))) hy fun h₄ h2₄ hs₄=>wpAny_pure ?_)
 have hTO₄:IsPair h₄ TO x b:=hs₄.extBut _ _ D.TOi2 hTO₃
 refine wpAny_bind (wpAny_seqItems hTO₄ rfl ?_)
 refine wpAny_bind (wpAny_updateSeq_pair hTO₄ fun h₅ hTO₅ hs₅=>?_)
 replace hTO₅:IsPair h₅ TO x y:=hTO₅
 refine wpAny_bind (wpAny_letGo (wpAny_pure (wpAny_pure ?_)))
 refine wpAny_bind (wpAny_seqItems hTO₅ rfl ?_)
 refine wpAny_bind (wpAny_newTuple ?_)
 have hsz:h₅.objs.size=s.heap.objs.size:=by rw [hs₅.1,hs₄.1,hs₃.1,hs₂.1,hs₁.1]
 have hz₅:IsZip h₅ z TI TO .ellipsis:=hs₅.extBut _ _ D.TOz.symm (hs₄.extBut _ _ D.i2z.symm (hs₃.extBut _ _ D.TOz.symm (hs₂.extBut _ _ D.i1z.symm hz₁)))
 have hk₅:∀ c o,c≠z->c≠TO->c≠i1->c≠i2->s.heap.get? c=some o->h₅.get? c=some o:=fun c o c1 c2 c3 c4 e =>
  hs₅.extBut _ _ c2 (hs₄.extBut _ _ c4 (hs₃.extBut _ _ c2 (hs₂.extBut _ _ c3 (hs₁.extBut _ _ c1 e))))
 have h1₅:ItB b1 h₅ i1 l1 (k1+1):=h1₂.at fun o e=>hs₅.extBut _ _ D.TOi1.symm (hs₄.extBut _ _ D.i12 (hs₃.extBut _ _ D.TOi1.symm e))
 have h2₅:ItB b2 h₅ i2 l2 (k2+1):=h2₄.at fun o e=>hs₅.extBut _ _ D.TOi2.symm e
 have hzlt:z < h₅.objs.size:=Heap.lt_size hz₅
 show wpAny _ _ (Builtin.SmallTypes.ownedTupleHandOut (.ref z) (.ref h₅.objs.size) >>= _) _ _ _
 refine wpAny_bind ?_
 unfold Builtin.SmallTypes.ownedTupleHandOut
 have hz₆:IsZip (h₅.push { cls:=.type "tuple",data:=.seq #[x,y] }) z TI TO .ellipsis:=Heap.get?_push_of_some _ hz₅
 refine wpAny_bind (wpAny_setField_rec hz₆ (by simp) fun h₇ hz₇ hs₇=>?_)
 replace hz₇:IsZip h₇ z TI TO (rawInt h₅.objs.size):=hz₇
 refine wpAny_setField_rec hz₇ (by simp) fun h₈ hz₈ hs₈=>?_
 replace hz₈:IsZip h₈ z TI TO (rawInt h₅.objs.size):=hz₈
 have up:∀ c o,c≠z->h₅.get? c=some o->h₈.get? c=some o:=fun c o c1 e=>hs₈.extBut _ _ c1 (hs₇.extBut _ _ c1 (Heap.get?_push_of_some _ e))
 have hT₈:IsPair h₈ h₅.objs.size x y:=hs₈.extBut _ _ (Nat.ne_of_gt hzlt) (hs₇.extBut _ _ (Nat.ne_of_gt hzlt) (Heap.get?_push_size _ rfl))
 have hz8:h₈.objs.size=h₅.objs.size+1:=by rw [hs₈.1,hs₇.1,Heap.size_push]
 rw [hsz] at hz₈ hT₈ hz8
 refine wpAny_pure ⟨_,rfl,wpAny_pure ?_⟩
 show Q (some (.ref h₅.objs.size)) _
 rw [hsz]
 exact hQ h₈ hz₈ (up _ _ D.TOz hTO₅) (h1₅.at fun o e=>up _ o D.i1z e) (h2₅.at fun o e=>up _ o D.i2z e) hT₈ hz8 fun c o c1 c2 c3 c4 e=>up c o c1 (hk₅ c o c1 c2 c3 c4 e)
theorem k_Y {b1 b2:Bool} {z TI TO i1 i2 l1 l2:Addr} {k1 k2:Nat} {xs ys:Array Value} {a b:Value} {Q:Option Value->Shared->Prop} (hh:A.handled=none) (D:ZipApart z TI TO i1 i2 l1 l2)
  (hz:IsZip s.heap z TI TO .none) (hTI:IsPair s.heap TI (.ref i1) (.ref i2)) (hTO:IsPair s.heap TO a b)
  (h1:ItB b1 s.heap i1 l1 k1) (h2:ItB b2 s.heap i2 l2 k2) (hl1:seqB b1 s.heap l1 xs) (hl2:seqB b2 s.heap l2 ys) (hend:xs[k1]?=none\/ys[k2]?=none)
  (hQ:∀ h',(∀ c o,c≠z->c≠TO->c≠i1->c≠i2->s.heap.get? c=some o->h'.get? c=some o)->Q none { s with heap:=h' }):wpAny (model prog w) A (pyNext (.ref z)) Q E s:=by
 have hT:s.TypeIs (.ref z) "zip" := ⟨_,hz,rfl⟩
 unfold pyNext
 refine wpAny_bind (wpAny_attempt (wpAny_callSpecial?_slot (name:=Str.ofString "__next__") hT F.slot_zip_next (wpAny_call_entry F.slot_zip_next hT F.entry_zip_next (Q:=_) ?_ (F.args_zip_next_1 _))))
 show wpAny _ _ (field (.ref z) 2 >>= _) _ _ _
 refine wpAny_bind (wpAny_field hz rfl (x:=.bool false) rfl ?_)
 show wpAny _ _ (field (.ref z) 3 >>= _) _ _ _
 refine wpAny_bind (wpAny_field hz rfl (x:=.ref TI) rfl ?_)
 refine wpAny_bind (wpAny_seqItems hTI rfl ?_)
 show wpAny _ _ (Builtin.SmallTypes.ownedTupleIsFree (.ref z) >>= _) _ _ _
 refine wpAny_bind ?_
 unfold Builtin.SmallTypes.ownedTupleIsFree
 refine wpAny_bind (wpAny_field hz rfl (x:=.none) rfl (wpAny_pure ?_))
 simp only [if_true]
 refine wpAny_bind (wpAny_rule ?_)
 refine wpAny_bind (wpAny_field hz rfl (x:=.ref TO) rfl ?_)
 refine wpAny_bind (wpAny_setField_rec hz (by simp) fun h₁ hz₁ hs₁=>?_)
 replace hz₁:IsZip h₁ z TI TO .ellipsis:=hz₁
 refine wpAny_bind ?_
 simp only [List.zipIdx_cons,List.zipIdx_nil,List.forIn_cons,List.forIn_nil]
 refine wpAny_bind (wpAny_bind (wpAny_onRaise ?_))
 show wpAny _ _ (Builtin.SmallTypes.nextOf (.ref i1) >>= _) _ _ _
 cases hx:xs[k1]? with
 | none =>
  refine wpAny_bind (f_A hh (h1.at fun o e=>hs₁.extBut _ _ D.i1z e) (hl1.at fun o e=>hs₁.extBut _ _ D.l1z e) hx fun h₂ e hs₂ he=>?_)
  obtain ⟨oe,hoe,hce⟩:=he
  have hz₂:IsZip h₂ z TI TO .ellipsis:=hs₂ _ _ D.i1z.symm hz₁
  have hez:e≠z:=fun x=>by subst x; rw [hz₂] at hoe; cases hoe; simp at hce
  refine wpAny_setField_rec hz₂ (by simp) fun h₃ _ hs₃=>?_
  refine wpAny_bind (wpAny_isInstance (T := "StopIteration") (b:=true) ⟨oe,hs₃.extBut _ _ hez hoe,hce⟩ isSubtype_stop ?_)
  exact wpAny_pure (hQ h₃ fun c o c1 _ c3 _ x=>hs₃.extBut _ _ c1 (hs₂ _ _ c3 (hs₁.extBut _ _ c1 x)))
 | some x =>
  have hy:ys[k2]?=none:=by rcases hend with h | h; rw [hx] at h; cases h; exact h
  refine wpAny_bind (d_K (h1.at fun o e=>hs₁.extBut _ _ D.i1z e) (hl1.at fun o e=>hs₁.extBut _ _ D.l1z e) hx fun h₂ h1₂ hs₂=>wpAny_pure ?_)
  have hTO₂:IsPair h₂ TO a b:=hs₂.extBut _ _ D.TOi1 (hs₁.extBut _ _ D.TOz hTO)
  refine wpAny_bind (wpAny_seqItems hTO₂ rfl ?_)
  refine wpAny_bind (wpAny_updateSeq_pair hTO₂ fun h₃ hTO₃ hs₃=>?_)
  refine wpAny_bind (wpAny_letGo (wpAny_pure ?_))
  refine wpAny_bind (wpAny_bind (wpAny_onRaise ?_))
  show wpAny _ _ (Builtin.SmallTypes.nextOf (.ref i2) >>= _) _ _ _
  refine wpAny_bind (f_A hh (h2.at fun o e=>hs₃.extBut _ _ D.TOi2.symm (hs₂.extBut _ _ D.i12.symm (hs₁.extBut _ _ D.i2z e)))
   (hl2.at fun o e=>hs₃.extBut _ _ D.l2TO (hs₂.extBut _ _ D.l2i1 (hs₁.extBut _ _ D.l2z e))) hy fun h₄ e hs₄ he=>?_)
  obtain ⟨oe,hoe,hce⟩:=he
  have hz₄:IsZip h₄ z TI TO .ellipsis:=hs₄ _ _ D.i2z.symm (hs₃.extBut _ _ D.TOz.symm (hs₂.extBut _ _ D.i1z.symm hz₁))
  have hez:e≠z:=fun x=>by subst x; rw [hz₄] at hoe; cases hoe; simp at hce
  refine wpAny_setField_rec hz₄ (by simp) fun h₅ _ hs₅=>?_
  refine wpAny_bind (wpAny_isInstance (T := "StopIteration") (b:=true) ⟨oe,hs₅.extBut _ _ hez hoe,hce⟩ isSubtype_stop ?_)
  exact wpAny_pure (hQ h₅ fun c o c1 c2 c3 c4 x=>hs₅.extBut _ _ c1 (hs₄ _ _ c4 (hs₃.extBut _ _ c2 (hs₂.extBut _ _ c3 (hs₁.extBut _ _ c1 x)))))
end
noncomputable abbrev zB1 (b1:Bool) (h:Heap) (l1:Addr):Heap:=h.push { cls:=.type (nmB b1),data:=.fields #[.ref l1,.int 0 0] }
noncomputable abbrev zB2 (b1 b2:Bool) (h:Heap) (l1 l2:Addr):Heap:=(zB1 b1 h l1).push { cls:=.type (nmB b2),data:=.fields #[.ref l2,.int 0 0] }
noncomputable abbrev zB3 (b1 b2:Bool) (h:Heap) (l1 l2:Addr):Heap:=(zB2 b1 b2 h l1 l2).push { cls:=.type "tuple",data:=.seq #[.ref h.objs.size,.ref (zB1 b1 h l1).objs.size] }
noncomputable abbrev zB4 (b1 b2:Bool) (h:Heap) (l1 l2:Addr):Heap:=(zB3 b1 b2 h l1 l2).push { cls:=.type "tuple",data:=.seq #[.none,.none] }
noncomputable abbrev zB5 (b1 b2:Bool) (h:Heap) (l1 l2:Addr):Heap:=(zB4 b1 b2 h l1 l2).push { cls:=.type "zip",data:=.fields #[.none,.bool false,.bool false,.ref (zB2 b1 b2 h l1 l2).objs.size,.ref (zB3 b1 b2 h l1 l2).objs.size] }
theorem i_O (b1 b2:Bool) (l1 l2:Addr) (xs ys:Array Value) :
  Meets (Builtin.«zip.__new__» ⟨[.type "zip",.ref l1,.ref l2],[]⟩) (fun _ R s=>seqB b1 s.heap l1 xs/\seqB b2 s.heap l2 ys /\
   R (.ok (.ret (.ref (zB4 b1 b2 s.heap l1 l2).objs.size))) { s with heap:=zB5 b1 b2 s.heap l1 l2 }) :=
 .of_wp fun prog w A R s h=>by
  obtain ⟨hp,g,d,tk,os⟩:=s; obtain ⟨hl1,hl2,h⟩:=h
  have hsub:=sub_zip
  have hL1:seqB b1 (Shared.heap ⟨hp,g,d,tk,os⟩) l1 xs:=hl1
  have hL2:seqB b2 (Shared.heap ⟨hp.push { cls:=.type (nmB b1),data:=.fields #[.ref l1,.int 0 0] },g,d,tk,os⟩) l2 ys:=hl2.at fun o e=>Heap.get?_push_of_some _ e
  wp_walk using n_Y hL1,n_Y hL2
  exact ⟨_,rfl,h⟩
theorem k_f {prog:Program} {w:World} {A:Around} {E:Value->Shared->Prop} {s:Shared} {b1 b2:Bool} {l1 l2:Addr} {xs ys:Array Value} {Q:Value->Shared->Prop} (hl1:seqB b1 s.heap l1 xs) (hl2:seqB b2 s.heap l2 ys)
  (h:∀ h',IsZip h' (s.heap.objs.size+4) (s.heap.objs.size+2) (s.heap.objs.size+3) .none->IsPair h' (s.heap.objs.size+2) (.ref s.heap.objs.size) (.ref (s.heap.objs.size+1)) ->
   IsPair h' (s.heap.objs.size+3) .none .none->ItB b1 h' s.heap.objs.size l1 0->ItB b2 h' (s.heap.objs.size+1) l2 0 ->
   (∀ c o,s.heap.get? c=some o->h'.get? c=some o)->Q (.ref (s.heap.objs.size+4)) { s with heap:=h' }) :
  wpAny (model prog w) A (call (.type "zip") [.ref l1,.ref l2]) Q E s:=by
 refine callType_new F.called_zip (by decide) (F.typeCall_zip_2 _ _) (F.newCall_zip_2 _ _) (fun obj=>F.args_object_init_3 obj _ _) F.entry_zip_new
  (i_O b1 b2 l1 l2 xs ys) ⟨hl1,hl2,?_⟩
 have z1:(zB1 b1 s.heap l1).objs.size=s.heap.objs.size+1:=Heap.size_push ..
 have z2:(zB2 b1 b2 s.heap l1 l2).objs.size=s.heap.objs.size+2:=by rw [Heap.size_push,z1]
 have z3:(zB3 b1 b2 s.heap l1 l2).objs.size=s.heap.objs.size+3:=by rw [Heap.size_push,z2]
 have z4:(zB4 b1 b2 s.heap l1 l2).objs.size=s.heap.objs.size+4:=by rw [Heap.size_push,z3]
 have g5:(zB5 b1 b2 s.heap l1 l2).get? (zB4 b1 b2 s.heap l1 l2).objs.size=some _:=Heap.get?_push_size _ rfl
 have g4:(zB5 b1 b2 s.heap l1 l2).get? (zB3 b1 b2 s.heap l1 l2).objs.size=some _:=Heap.get?_push_of_some _ (Heap.get?_push_size _ rfl)
 have g3:(zB5 b1 b2 s.heap l1 l2).get? (zB2 b1 b2 s.heap l1 l2).objs.size=some _:=Heap.get?_push_of_some _ (Heap.get?_push_of_some _ (Heap.get?_push_size _ rfl))
 have u2:∀ c o,(zB2 b1 b2 s.heap l1 l2).get? c=some o->(zB5 b1 b2 s.heap l1 l2).get? c=some o:=fun c o e=>Heap.get?_push_of_some _ (Heap.get?_push_of_some _ (Heap.get?_push_of_some _ e))
 have g2:ItB b2 (zB5 b1 b2 s.heap l1 l2) (zB1 b1 s.heap l1).objs.size l2 0:=g_Z.at fun o e=>u2 _ o e
 have g1:ItB b1 (zB5 b1 b2 s.heap l1 l2) s.heap.objs.size l1 0:=g_Z.at fun o e=>u2 _ o (Heap.get?_push_of_some _ e)
 show _/\_
 rw [z2,z3,z4] at g5
 rw [z1,z2] at g3
 rw [z3] at g4
 rw [z1] at g2
 rw [z4]
 exact ⟨⟨_,g5,rfl⟩,h _ g5 g3 g4 g1 g2 fun c o x=>u2 c o (Heap.get?_push_of_some _ (Heap.get?_push_of_some _ x))⟩
section
variable {X:Cx} {pins:List (Addr × Obj)} {σ:St} {H:Hp} {s:Shared} {h':Heap}
theorem Inv.seqB {b:Bool} {a:Addr} {xs:List V} (I:Inv X pins σ H s) (h:SqB b X.K H a xs):∃ its:List Value,Vals xs its/\L2.seqB b s.heap a its.toArray:=by
 cases b
 ·obtain ⟨its,rv,p,_⟩:=I.list h
  exact ⟨its,rv,p.isList⟩
 ·obtain ⟨its,rv,p,_⟩:=I.tuple h
  exact ⟨its,rv,p⟩
theorem Inv.seqB_inj {b:Bool} {a:Addr} {xs ys:List V} (I:Inv X pins σ H s) (h:SqB b X.K H a xs) (h2:SqB b X.K H a ys):xs=ys:=by
 cases b
 ·exact I.list_inj h h2
 ·exact I.tuple_inj h h2
theorem Inv.seq_ne {b:Bool} {a f:Addr} {xs:List V} (I:Inv X pins σ H s) (h:SqB b X.K H a xs) (hf:FpOk X pins H f):a≠f:=by
 have rd:∀ u,Rd H a u->a≠f:=fun u r z=>by
  subst z
  rcases r with r | ⟨o,r⟩ <;> (rw [hf.1] at r; cases r)
 have kk:∀ o,X.K.lookup a=some o->a≠f:=fun o e z=>by
  subst z
  have q:=I.mod.kin a o e
  rcases hf.2.2.2.1 with w | w
  ·exact I.ok.noex _ _ q w
  ·exact absurd (Nat.lt_of_lt_of_le (Heap.lt_size q) (Nat.le_trans I.ok.bsz w)) (Nat.lt_irrefl _)
 cases b
 ·rcases h with h | ⟨o,its,n,hk,_⟩
  ·exact rd _ h
  ·exact kk _ hk
 ·rcases h with h | ⟨o,its,n,hk,_⟩
  ·exact rd _ h
  ·exact kk _ hk
theorem Inv.turnedNew {fp:List Addr} {n:Addr} {u:HO} {t':Nat} (I:Inv X pins σ H s) (hf:∀ b∈fp,FpOk X pins H b) (k:∀ b o,b ∉ fp->s.heap.get? b=some o->h'.get? b=some o) (hn:s.heap.objs.size<=n)
  (new:b_B X.prog X.w (upd H n u) h' n u):Inv X pins σ (upd H n u) { s with heap:=h',toks:=t' }:=by
 have fn:=I.hok.fresh hn
 have nfp:∀ b v,H b=some v->b ∉ fp:=fun b v e z=>by rw [(hf b z).1] at e; cases e
 have nl:X.env.locals ∉ fp:=fun z=>(hf _ z).2.1 rfl
 refine I.step (g':=s.gens) (d':=s.drawn) (ch:=fp) (fun b hb=>?_) (fun b o _ _ hc e _=>k b o hc e) (fun b o _ _ hc e _=>⟨o.slots,k b o hc e⟩) (fun b o _ e z=>?_)
  (fun b o hc e=>⟨o,k b o hc e⟩) (fun b xs e=>?_) (fun b o v e=>?_) (fun b ps e=>⟨#[],?_⟩) (fun m hm=>?_) (fun b v e=>?_) I.bare
 ·obtain ⟨f0,f1,f2,f3,f4,f5⟩:=hf b hb
  exact ⟨f3,f1,f4,f5⟩
 ·rw [a_E (Nat.ne_of_lt (Nat.lt_of_lt_of_le (Heap.lt_size e) hn))]
  exact z
 ·rw [a_E (a_H e fn)]; exact e
 ·rw [a_E (a_H e fn)]; exact e
 ·rw [a_E (a_H e fn),e]; simp
 ·obtain ⟨o,es,ep,ho,r⟩:=hm
  exact ⟨o,es,ep,k _ o nl ho,r⟩
 ·by_cases hb:b=n
  ·subst hb
   rw [a_F] at e
   cases e
   exact new
  ·rw [a_E hb] at e
   refine (I.hok b v e).stay (fun c x hc q=>k c x ?_ q) (fun c q=>by rw [a_E (a_H q fn)]; exact q) fun c xs q=>by rw [a_E (a_H q fn)]; exact q
   rcases hc with z | z
   ·rw [z]; exact nfp b v e
   ·exact nfp c _ z
theorem Inv.turnedL {fp:List Addr} {t':Nat} (I:Inv X pins σ H s) (hf:∀ b∈fp,FpOk X pins H b) (k:∀ b o,b ∉ fp->s.heap.get? b=some o->h'.get? b=some o):Inv X pins σ H { s with heap:=h',toks:=t' }:=by
 have nfp:∀ b v,H b=some v->b ∉ fp:=fun b v e z=>by rw [(hf b z).1] at e; cases e
 have nl:X.env.locals ∉ fp:=fun z=>(hf _ z).2.1 rfl
 refine I.step (g':=s.gens) (d':=s.drawn) (ch:=fp) (fun b hb=>?_) (fun b o _ _ hc e _=>k b o hc e) (fun b o _ _ hc e _=>⟨o.slots,k b o hc e⟩) (fun b o _ e z=>z)
  (fun b o hc e=>⟨o,k b o hc e⟩) (fun b xs e=>e) (fun b o v e=>e) (fun b ps e=>⟨#[],by rw [e]; simp⟩) (fun m hm=>?_) (fun b v e=>?_) I.bare
 ·obtain ⟨f0,f1,f2,f3,f4,f5⟩:=hf b hb
  exact ⟨f3,f1,f4,f5⟩
 ·obtain ⟨o,es,ep,ho,r⟩:=hm
  exact ⟨o,es,ep,k _ o nl ho,r⟩
 ·refine (I.hok b v e).stay (fun c x hc q=>k c x ?_ q) (fun c q=>q) fun c xs q=>q
  rcases hc with z | z
  ·rw [z]; exact nfp b v e
  ·exact nfp c _ z
end
noncomputable def Itz (K:Frag) (b1:Bool) (l1:Addr) (b2:Bool) (l2:Addr):It :=
  ⟨fun i H=>∃ xs ys x y,SqB b1 K H l1 xs/\SqB b2 K H l2 ys/\xs[i]?=some x/\ys[i]?=some y,
   fun i H v H'=>∃ p x y,v=.ref p/\H p=none/\H'=upd H p (.tup [x,y])/\(∀ xs,SqB b1 K H l1 xs->xs[i]?=some x)/\∀ ys,SqB b2 K H l2 ys->ys[i]?=some y,
   fun i H=>∃ xs ys,SqB b1 K H l1 xs/\SqB b2 K H l2 ys/\(xs[i]?=none\/ys[i]?=none)⟩
theorem j_u {xs:List V} {its:List Value} {i:Nat} (r:Vals xs its):xs[i]?=none->its.toArray[i]?=none:=fun h=>by
 have:=r.none_of h
 simpa using this
theorem k_Z {P:Program} {w:World} {K:Frag} {es:List Expr} {k:Nat} {pos:Pos} {b1 b2:Bool} {z TI TO i1 i2 l1 l2:Addr} (hd:[z,TI,TO,i1,i2].Nodup) :
  Turn P w K (.Tuple es k pos) (Itz K b1 l1 b2 l2) [z,TI,TO,i1,i2] z (fun i h=>IsZip h z TI TO .none/\IsPair h TI (.ref i1) (.ref i2)/\(∃ a b,IsPair h TO a b)/\ItB b1 h i1 l1 i/\ItB b2 h i2 l2 i) where
 mem:=by simp
 obj:=fun i h ⟨hz,hTI,⟨a,b,hTO⟩,h1,h2⟩ c hc=>by
  simp only [List.mem_cons,List.not_mem_nil,or_false] at hc
  rcases hc with e | e | e | e | e <;> subst e
  ·exact ⟨_,hz,fun v q=>by have q':Data.fields _=Data.cell v:=q; cases q'⟩
  ·exact ⟨_,hTI,fun v q=>by have q':Data.seq _ _=Data.cell v:=q; cases q'⟩
  ·exact ⟨_,hTO,fun v q=>by have q':Data.seq _ _=Data.cell v:=q; cases q'⟩
  ·exact h1.lt
  ·exact h2.lt
 keep:=fun i h h' ⟨hz,hTI,⟨a,b,hTO⟩,h1,h2⟩ kk=>⟨kk z (by simp) _ hz,kk TI (by simp) _ hTI,⟨a,b,kk TO (by simp) _ hTO⟩,h1.at fun o e=>kk i1 (by simp) o e,h2.at fun o e=>kk i2 (by simp) o e⟩
 item:=by
  intro X hP hw hK hc i pins s σ H E I hf st hg
  subst hP hw hK
  obtain ⟨hz,hTI,⟨a,b,hTO⟩,h1,h2⟩:=st
  obtain ⟨xs,ys,x,y,q1,q2,e1,e2⟩:=hg
  obtain ⟨its1,r1,p1⟩:=I.seqB q1
  obtain ⟨its2,r2,p2⟩:=I.seqB q2
  obtain ⟨u1,hu1,ru1⟩:=r1.get e1
  obtain ⟨u2,hu2,ru2⟩:=r2.get e2
  have ne1:∀ f∈[z,TI,TO,i1,i2],l1≠f:=fun f hff=>I.seq_ne q1 (hf f hff)
  have ne2:∀ f∈[z,TI,TO,i1,i2],l2≠f:=fun f hff=>I.seq_ne q2 (hf f hff)
  simp only [List.nodup_cons,List.mem_cons,List.not_mem_nil,or_false,not_or,List.nodup_nil,and_true,not_false_eq_true] at hd
  obtain ⟨⟨d1,d2,d3,d4⟩,⟨d5,d6,d7⟩,⟨d8,d9⟩,d10⟩:=hd
  have D:ZipApart z TI TO i1 i2 l1 l2:=⟨Ne.symm d1,Ne.symm d2,Ne.symm d3,Ne.symm d4,d5,d6,d7,d8,d9,d10,ne1 z (by simp),ne1 TO (by simp),ne1 i1 (by simp),ne1 i2 (by simp),ne2 z (by simp),ne2 TO (by simp),ne2 i1 (by simp),ne2 i2 (by simp)⟩
  refine k_e D hz hTI hTO h1 h2 p1 p2 (x:=u1) (y:=u2) (by simpa using hu1) (by simpa using hu2) fun h' a1 a2 a3 a4 a5 a6 a7=>⟨_,rfl,?_⟩
  refine wpAny_letOwnedTupleGo_zip a1 fun h'' hz' hs'=>?_
  have up:∀ c o,c ∉ [z,TI,TO,i1,i2]->s.heap.get? c=some o->h''.get? c=some o:=fun c o hc' e=>by
   simp only [List.mem_cons,List.not_mem_nil,or_false,not_or] at hc'
   obtain ⟨c1,c2,c3,c4,c5⟩:=hc'
   exact hs'.extBut _ _ c1 (a7 c o c1 c3 c4 c5 e)
  have nz:s.heap.objs.size≠z:=Nat.ne_of_gt (Heap.lt_size hz)
  have new:b_B X.prog X.w (upd H s.heap.objs.size (.tup [x,y])) h'' s.heap.objs.size (.tup [x,y]) :=
   ⟨by show 2<=sizeLine; decide,[u1,u2],.cons ru1 (.cons ru2 .nil),⟨_,hs'.extBut _ _ nz a5,rfl,_,rfl⟩⟩
  have I2:Inv X pins σ (upd H s.heap.objs.size (.tup [x,y])) { s with heap:=h'' }:=I.turnedNew (t':=s.toks) hf up (Nat.le_refl _) new
  refine ⟨.ref s.heap.objs.size,_,I2,rfl,⟨_,x,y,rfl,I.fresh,rfl,fun xs' q=>by rw [I.seqB_inj q q1]; exact e1,fun ys' q=>by rw [I.seqB_inj q q2]; exact e2⟩,⟨hz',hs'.extBut _ _ D.TIz (a7 _ _ D.TIz D.TITO D.TIi1 D.TIi2 hTI),⟨_,_,hs'.extBut _ _ D.TOz a2⟩,a3.at fun o e=>hs'.extBut _ _ D.i1z e,a4.at fun o e=>hs'.extBut _ _ D.i2z e⟩,fun c hc'=>?_⟩
  have hcf:=(hf c hc').1
  rw [a_E]
  ·exact hcf
  ·intro e
   subst e
   simp only [List.mem_cons,List.not_mem_nil,or_false] at hc'
   rcases hc' with e | e | e | e | e
   ·exact nz e
   ·exact absurd (Heap.lt_size hTI) (by rw [← e]; exact Nat.lt_irrefl _)
   ·exact absurd (Heap.lt_size hTO) (by rw [← e]; exact Nat.lt_irrefl _)
   ·obtain ⟨o,q,_⟩:=h1.lt; exact absurd (Heap.lt_size q) (by rw [← e]; exact Nat.lt_irrefl _)
   ·obtain ⟨o,q,_⟩:=h2.lt; exact absurd (Heap.lt_size q) (by rw [← e]; exact Nat.lt_irrefl _)
 done:=by
  intro X hP hw hK hc i pins s σ H E I hf st hg
  subst hP hw hK
  obtain ⟨hz,hTI,⟨a,b,hTO⟩,h1,h2⟩:=st
  obtain ⟨xs,ys,q1,q2,e1⟩:=hg
  obtain ⟨its1,r1,p1⟩:=I.seqB q1
  obtain ⟨its2,r2,p2⟩:=I.seqB q2
  have ne1:∀ f∈[z,TI,TO,i1,i2],l1≠f:=fun f hff=>I.seq_ne q1 (hf f hff)
  have ne2:∀ f∈[z,TI,TO,i1,i2],l2≠f:=fun f hff=>I.seq_ne q2 (hf f hff)
  simp only [List.nodup_cons,List.mem_cons,List.not_mem_nil,or_false,not_or,List.nodup_nil,and_true,not_false_eq_true] at hd
  obtain ⟨⟨d1,d2,d3,d4⟩,⟨d5,d6,d7⟩,⟨d8,d9⟩,d10⟩:=hd
  have D:ZipApart z TI TO i1 i2 l1 l2:=⟨Ne.symm d1,Ne.symm d2,Ne.symm d3,Ne.symm d4,d5,d6,d7,d8,d9,d10,ne1 z (by simp),ne1 TO (by simp),ne1 i1 (by simp),ne1 i2 (by simp),ne2 z (by simp),ne2 TO (by simp),ne2 i1 (by simp),ne2 i2 (by simp)⟩
  refine k_Y (I.ok.hd hc) D hz hTI hTO h1 h2 p1 p2 (e1.imp (j_u r1) (j_u r2)) fun h' a7=>⟨rfl,I.turnedL (t':=s.toks) hf fun c o hc' e=>?_⟩
  simp only [List.mem_cons,List.not_mem_nil,or_false,not_or] at hc'
  obtain ⟨c1,c2,c3,c4,c5⟩:=hc'
  exact a7 c o c1 c3 c4 c5 e
 self:=fun _ _ _ _ _ st h=>wpAny_pyIter_zip st.1 h
section
variable {X:Cx}
noncomputable def iZip (K:Frag) (ta:TA):TI:=fun σ H R=>ta σ H fun vs H1=>∃ b1 b2 l1 l2,vs=[.ref l1,.ref l2]/\(∃ xs,SqB b1 K H1 l1 xs)/\(∃ ys,SqB b2 K H1 l2 ys)/\R (Itz K b1 l1 b2 l2) H1
theorem f_B {a b:Expr} {ta:TA} {es:List Expr} {k:Nat} {tp p pos:Pos} (hg:Gl X "zip") (hm:X.mg "zip" = none) (ha:PA X [a,b] ta) (hv:bootBuiltins "zip" = some (.type "zip"):=by decide +kernel)
  (hs:starEach [a,b] X.env=[(false,eval a X.env),(false,eval b X.env)]:=by rfl) (hs2:starEach [b] X.env=[(false,eval b X.env)]:=by rfl) :
  PI X (.Tuple es k tp) (.Call (.Name "zip" p) [a,b] [] pos) (iZip X.K ta):=by
 intro pins s σ H R I h
 refine Call_ (d_H I hg hm hv (PyProof.Rows.callWith_type1 (thn (ha pos pins s σ H _ I h) fun us s1 ⟨vs,H1,I1,r1,q1⟩=>?_) (by rw [hs,hs2]) (by rw [hs2]; rfl)))
 obtain ⟨b1,b2,l1,l2,e,⟨xs,q1⟩,⟨ys,q2⟩,q⟩:=q1
 subst e
 cases r1 with
 | cons r rr =>
  cases rr with
  | cons r' rr =>
   cases rr
   cases r
   cases r'
   obtain ⟨its1,v1,p1⟩:=I1.seqB q1
   obtain ⟨its2,v2,p2⟩:=I1.seqB q2
   refine k_f p1 p2 fun h' a1 a2 a3 a4 a5 kp=>?_
   refine wpAny_pyIter_zip a1 ?_
   have lt:∀ j,j<=4->s1.heap.objs.size<=s1.heap.objs.size+j:=fun j _=>Nat.le_add_right _ _
   refine ⟨s1.heap.objs.size+4,[s1.heap.objs.size+4,s1.heap.objs.size+2,s1.heap.objs.size+3,s1.heap.objs.size,s1.heap.objs.size+1],_,_,H1,rfl,I1.kept (t':=s1.toks) kp,k_Z (b1:=b1) (b2:=b2) (l1:=l1) (l2:=l2) ?_,⟨a1,a2,⟨_,_,a3⟩,a4,a5⟩,fun c hc=>?_,q⟩
   ·simp
   ·have hle:s1.heap.objs.size<=c:=by
     simp only [List.mem_cons,List.not_mem_nil,or_false] at hc
     rcases hc with e | e | e | e | e <;> subst e <;> first | exact Nat.le_refl _ | exact Nat.le_add_right _ _
    exact I1.fpOk hle (I1.hok.fresh hle)
end
open AutoSeq1 (wpAny_loadPart')
set_option maxRecDepth 100000 in
theorem i_a (l:Addr) (items:Array Value) (n:Nat) (dct:Option Addr) (sl:Array (Option Value)) :
  Meets (Builtin.«enumerate.__new__» ⟨[.type "enumerate",.ref l],[]⟩) (fun _ R s=>s.heap.get? l=some { cls:=.type "tuple",dict:=dct,data:=.seq items n,slots:=sl } /\
   R (.ok (.ret (.ref (s.heap.push { cls:=.type "tuple_iterator",data:=.fields #[.ref l,.int 0 0] }).objs.size)))
    { s with heap:=(s.heap.push { cls:=.type "tuple_iterator",data:=.fields #[.ref l,.int 0 0] }).push { cls:=.type "enumerate",data:=.fields #[.none,.bool false,.ref s.heap.objs.size,rawInt 0,.none,.none] } }) :=
 .of_wp fun prog w A R s h=>by
  obtain ⟨hp,g,d,tk,os⟩:=s; obtain ⟨hl,h⟩:=h
  have hsub:=sub_enumerate
  have hL:Heap.IsTuple (Shared.heap ⟨hp,g,d,tk,os⟩) l items:=⟨_,hl,rfl,n,rfl⟩
  wp_walk using wpAny_loadPart' hl
  refine wpAny_stack_any fun st=>wpAny_pure ?_
  split
  ·rename_i c _ _ _ _ _
   cases (c == Value.type "enumerate")
   ·wp_walk using wpAny_loadPart' hl,wpAny_pyIter_tuple hL
    exact ⟨_,rfl,h⟩
   ·wp_walk using wpAny_loadPart' hl,wpAny_pyIter_tuple hL
    exact ⟨_,rfl,h⟩
  ·wp_walk using wpAny_loadPart' hl,wpAny_pyIter_tuple hL
   exact ⟨_,rfl,h⟩
theorem i_P {prog:Program} {w:World} {A:Around} {E:Value->Shared->Prop} {s:Shared} {b:Bool} {l:Addr} {items:Array Value} {Q:Value->Shared->Prop} (hL:seqB b s.heap l items)
  (h:∀ h',IsEnum h' (s.heap.objs.size+1) s.heap.objs.size 0 .none->ItB b h' s.heap.objs.size l 0 ->
   (∀ b o,s.heap.get? b=some o->h'.get? b=some o)->Q (.ref (s.heap.objs.size+1)) { s with heap:=h' }) :
  wpAny (model prog w) A (call (.type "enumerate") [.ref l]) Q E s:=by
 cases b
 ·exact call_enumerate_list hL fun h' a1 a2 a3 a4=>h h' a1 a2 a4
 ·obtain ⟨⟨c,dct,dt,sl⟩,hl,hc,n,hd⟩:=hL
  replace hc:c=.type "tuple" := hc
  replace hd:dt=.seq items n:=hd
  subst hc hd
  refine callType_new F.called_enumerate (by decide) (F.typeCall_enumerate_1 _) (F.newCall_enumerate_1 _) (fun obj=>F.args_object_init_2 obj _) F.entry_enumerate_new
   (i_a l items n dct sl) ⟨hl,?_⟩
  have hz:(s.heap.push { cls:=.type "tuple_iterator",data:=.fields #[.ref l,.int 0 0] }).objs.size=s.heap.objs.size+1:=Heap.size_push ..
  show _/\_
  rw [hz]
  have he:IsEnum ((s.heap.push { cls:=.type "tuple_iterator",data:=.fields #[.ref l,.int 0 0] }).push
    { cls:=.type "enumerate",data:=.fields #[.none,.bool false,.ref s.heap.objs.size,rawInt 0,.none,.none] }) (s.heap.objs.size+1) s.heap.objs.size 0 .none:=by
   have:=Heap.get?_push_size (s.heap.push { cls:=.type "tuple_iterator",data:=.fields #[.ref l,.int 0 0] })
    (o:={ cls:=.type "enumerate",data:=.fields #[.none,.bool false,.ref s.heap.objs.size,rawInt 0,.none,.none] }) rfl
   rw [hz] at this; exact this
  refine ⟨⟨_,he,rfl⟩,h _ he ⟨_,Heap.get?_push_of_some _ (Heap.get?_push_size _ rfl),rfl,rfl⟩ fun b o x=>Heap.get?_push_of_some _ (Heap.get?_push_of_some _ x)⟩
noncomputable def Ite (K:Frag) (b:Bool) (l:Addr):It :=
  ⟨fun i H=>∃ xs x,SqB b K H l xs/\xs[i]?=some x,
   fun i H v H'=>∃ p x,v=.ref p/\H p=none/\H'=upd H p (.tup [.int i,x])/\∀ xs,SqB b K H l xs->xs[i]?=some x,
   fun i H=>∃ xs,SqB b K H l xs/\xs.length=i⟩
theorem k_g {P:Program} {w:World} {K:Frag} {es:List Expr} {k:Nat} {pos:Pos} {b:Bool} {e it l:Addr} (hd:e≠it) :
  Turn P w K (.Tuple es k pos) (Ite K b l) [e,it] e (fun i h=>(∃ old,IsEnum h e it i old)/\ItB b h it l i) where
 mem:=by simp
 obj:=fun i h ⟨⟨old,hz⟩,h1⟩ c hc=>by
  simp only [List.mem_cons,List.not_mem_nil,or_false] at hc
  rcases hc with e | e <;> subst e
  ·exact ⟨_,hz,fun v q=>by have q':Data.fields _=Data.cell v:=q; cases q'⟩
  ·exact h1.lt
 keep:=fun i h h' ⟨⟨old,hz⟩,h1⟩ kk=>⟨⟨old,kk e (by simp) _ hz⟩,h1.at fun o q=>kk it (by simp) o q⟩
 item:=by
  intro X hP hw hK hc i pins s σ H E I hf st hg
  subst hP hw hK
  obtain ⟨⟨old,hz⟩,h1⟩:=st
  obtain ⟨xs,x,q1,e1⟩:=hg
  obtain ⟨its1,r1,p1⟩:=I.seqB q1
  obtain ⟨u1,hu1,ru1⟩:=r1.get e1
  have ne1:∀ f∈[e,it],l≠f:=fun f hff=>I.seq_ne q1 (hf f hff)
  have hlt:i < its1.toArray.size:=by
   have:=(List.getElem?_eq_some_iff.mp hu1).1
   simpa using this
  refine wpAny_pyNext_enum_itemD (k_X b (show X.A.in1.handled=none from I.ok.hd hc) it l (ne1 it (by simp)) its1.toArray) hz ⟨h1,p1⟩ hlt hd (fun q=>?_) fun u h' tk hP a1 a2 a3 a4 a5=>⟨_,rfl,?_⟩
  ·simp only [List.mem_cons,List.not_mem_nil,or_false] at q
   rcases q with q | q
   ·exact hd q
   ·exact ne1 e (by simp) q.symm
  have eu:u=u1:=by
   have:its1.toArray[i]?=some u1:=by simpa using hu1
   rw [this] at hP
   exact (Option.some.inj hP).symm
  subst eu
  refine wpAny_letOwnedTupleGo_enum a1 fun h'' hz' hs'=>?_
  have ne:s.heap.objs.size≠e:=Nat.ne_of_gt (Heap.lt_size hz)
  have up:∀ c o,c ∉ [e,it]->s.heap.get? c=some o->h''.get? c=some o:=fun c o hc' q=>by
   simp only [List.mem_cons,List.not_mem_nil,or_false,not_or] at hc'
   exact hs'.extBut _ _ hc'.1 (a5 c o hc'.1 hc'.2 q)
  have new:b_B X.prog X.w (upd H s.heap.objs.size (.tup [.int i,x])) h'' s.heap.objs.size (.tup [.int i,x]) :=
   ⟨by show 2<=sizeLine; decide,[.int i tk,u],.cons ⟨tk,rfl⟩ (.cons ru1 .nil),⟨_,hs'.extBut _ _ ne a3,rfl,_,rfl⟩⟩
  have I2:Inv X pins σ (upd H s.heap.objs.size (.tup [.int i,x])) { s with heap:=h'',toks:=tk+1 }:=I.turnedNew (t':=tk+1) hf up (Nat.le_refl _) new
  refine ⟨.ref s.heap.objs.size,_,I2,rfl,⟨_,x,rfl,I.fresh,rfl,fun xs' q=>by rw [I.seqB_inj q q1]; exact e1⟩,⟨⟨u,by simpa using hz'⟩,a2.1.at fun o q=>hs'.extBut _ _ (Ne.symm hd) q⟩,fun c hc'=>?_⟩
  have hcf:=(hf c hc').1
  rw [a_E]
  ·exact hcf
  ·intro z
   subst z
   simp only [List.mem_cons,List.not_mem_nil,or_false] at hc'
   rcases hc' with z | z
   ·exact ne z
   ·obtain ⟨o,q,_⟩:=h1.lt; exact absurd (Heap.lt_size q) (by rw [← z]; exact Nat.lt_irrefl _)
 done:=by
  intro X hP hw hK hc i pins s σ H E I hf st hg
  subst hP hw hK
  obtain ⟨⟨old,hz⟩,h1⟩:=st
  obtain ⟨xs,q1,e1⟩:=hg
  obtain ⟨its1,r1,p1⟩:=I.seqB q1
  have ne1:∀ f∈[e,it],l≠f:=fun f hff=>I.seq_ne q1 (hf f hff)
  have el:its1.toArray.size=i:=by rw [List.size_toArray,← r1.length,e1]
  refine wpAny_pyNext_enum_endD (k_X b (show X.A.in1.handled=none from I.ok.hd hc) it l (ne1 it (by simp)) its1.toArray) hz ⟨by rw [el]; exact h1,p1⟩ fun h' hx=>⟨rfl,I.turnedL (t':=s.toks) hf fun c o hc' q=>?_⟩
  simp only [List.mem_cons,List.not_mem_nil,or_false,not_or] at hc'
  exact hx c o hc'.2 q
 self:=fun _ _ _ _ _ st h=>let ⟨⟨_,q⟩,_⟩:=st; wpAny_pyIter_enum q h
section
variable {X:Cx}
noncomputable def l_a (K:Frag) (ta:TA):TI:=fun σ H R=>ta σ H fun vs H1=>∃ b l,vs=[.ref l]/\(∃ xs,SqB b K H1 l xs)/\R (Ite K b l) H1
theorem j_v {a:Expr} {ta:TA} {es:List Expr} {k:Nat} {tp p pos:Pos} (hg:Gl X "enumerate") (hm:X.mg "enumerate" = none) (ha:PA X [a] ta) (hv:bootBuiltins "enumerate" = some (.type "enumerate"):=by decide +kernel)
  (hs:starEach [a] X.env=[(false,eval a X.env)]:=by rfl) :
  PI X (.Tuple es k tp) (.Call (.Name "enumerate" p) [a] [] pos) (l_a X.K ta):=by
 intro pins s σ H R I h
 refine Call_ (d_H I hg hm hv (PyProof.Rows.callWith_type1 (thn (ha pos pins s σ H _ I h) fun us s1 ⟨vs,H1,I1,r1,q1⟩=>?_) hs rfl))
 obtain ⟨b,l,e,⟨xs,q1⟩,q⟩:=q1
 subst e
 cases r1 with
 | cons r rr =>
  cases rr
  cases r
  obtain ⟨its1,v1,p1⟩:=I1.seqB q1
  refine i_P p1 fun h' a1 a2 kp=>?_
  refine wpAny_pyIter_enum a1 ?_
  refine ⟨s1.heap.objs.size+1,[s1.heap.objs.size+1,s1.heap.objs.size],_,_,H1,rfl,I1.kept (t':=s1.toks) kp,k_g (b:=b) (l:=l) (by simp),⟨⟨_,a1⟩,a2⟩,fun c hc=>?_,q⟩
  have hle:s1.heap.objs.size<=c:=by
   simp only [List.mem_cons,List.not_mem_nil,or_false] at hc
   rcases hc with e | e <;> subst e <;> first | exact Nat.le_refl _ | exact Nat.le_add_right _ _
  exact I1.fpOk hle (I1.hok.fresh hle)
theorem g_r:∀ {ns:List Int} {its:List Value},Vals (ns.map V.int) its->∃ xs:List (Int × Tok),its=xs.map (fun p=>Value.int p.1 p.2)/\xs.map (·.1)=ns
 | [],_,.nil=>⟨[],rfl,rfl⟩
 | n :: r,_,.cons ⟨t,h⟩ q=>by
  obtain ⟨xs,e1,e2⟩:=g_r (ns:=r) q
  exact ⟨(n,t) :: xs,by rw [h,e1]; rfl,by rw [List.map_cons,e2]⟩
theorem i_b (hc:X.calm=true):c_z X (.builtin "sum") (fun xs H Q=>∃ (p:Addr) (ns:List Int),xs=[.ref p]/\SqL X.K H p (ns.map V.int)/\Q (.int ns.sum) H):=by
 intro pins s σ H xs us Q I r h
 obtain ⟨p,ns,rfl,hq,q⟩:=h
 obtain ⟨u,rfl,rx⟩:=e_y r
 cases rx
 obtain ⟨its,rv,pl,hz⟩:=I.list hq
 obtain ⟨ps,e1,e2⟩:=g_r rv
 have hl:s.heap.IsList p (intItems ps.toArray):=by
  have:=pl.isList
  rw [e1] at this
  simpa [intItems] using this
 refine sum_intListG (I.ok.hd hc) hl fun h' tk t' hk=>⟨.int ns.sum,H,I.kept (t':=tk) hk,⟨t',?_⟩,q⟩
 rw [preSum_eq,List.take_of_length_le (by simp)]
 simp [e2]
end
theorem SqB.or {b:Bool} {K:Frag} {H:Hp} {a:Addr} {xs:List V} (h:SqB b K H a xs):SqL K H a xs\/SqT K H a xs:=by
 cases b
 ·exact .inl h
 ·exact .inr h
theorem SqB.up {b:Bool} {K:Frag} {H H':Hp} {a:Addr} {xs:List V} (h:SqB b K H a xs) (s:Same H H'):SqB b K H' a xs:=by
 cases b
 ·exact s.seq h
 ·exact s.tup h
theorem SqB.lst {K:Frag} {H:Hp} {a:Addr} {xs:List V} (h:H a=some (.lst xs)):SqB false K H a xs:=SqL.of h
theorem SqB.tup {K:Frag} {H:Hp} {a:Addr} {xs:List V} (h:H a=some (.tup xs)):SqB true K H a xs:=SqT.of h
noncomputable def Its (K:Frag) (b:Bool) (a:Addr):It:=match b with | false=>Itl K a | true=>Itt K a
theorem Its.go {K:Frag} {b:Bool} {a:Addr} {xs:List V} {x:V} {i:Nat} {H:Hp} (h:SqB b K H a xs) (e:xs[i]?=some x):(Its K b a).go i H:=by
 cases b
 ·exact ⟨xs,x,h,e⟩
 ·exact ⟨xs,x,h,e⟩
theorem Its.stop {K:Frag} {b:Bool} {a:Addr} {xs:List V} {i:Nat} {H:Hp} (h:SqB b K H a xs) (e:xs.length<=i):(Its K b a).stop i H:=by
 cases b
 ·exact ⟨xs,h,e⟩
 ·exact ⟨xs,h,e⟩
theorem Its.yld {K:Frag} {b:Bool} {a:Addr} {xs:List V} {i:Nat} {H H':Hp} {x:V} (h:SqB b K H a xs) (y:(Its K b a).yld i H x H'):H'=H/\xs[i]?=some x:=by
 cases b
 ·exact ⟨y.1,y.2 xs h⟩
 ·exact ⟨y.1,y.2 xs h⟩
section
variable {X:Cx}
noncomputable def iSeq (K:Frag) (tl:TE):TI:=fun σ H R=>tl σ H fun x H1=>∃ b a,x=.ref a/\(∃ xs,SqB b K H1 a xs)/\R (Its K b a) H1
theorem c_r {tg l:Expr} {tl:TE} (hl:PE X l tl):PI X tg l (iSeq X.K tl):=by
 intro pins s σ H R I h
 refine thn (hl pins s σ H _ I h) fun v s1 ⟨x,H1,I1,r1,q1⟩=>?_
 obtain ⟨b,a,e,⟨xs,hq⟩,q⟩:=q1
 subst e
 cases r1
 cases b
 ·obtain ⟨its,rv,p,hz⟩:=I1.list hq
  refine wpAny_pyIter_list p.isList ?_
  refine ⟨s1.heap.objs.size,[s1.heap.objs.size],_,_,H1,rfl,I1.kept (t':=s1.toks) fun b o e=>Heap.get?_push_of_some _ e,j_V a _,⟨_,Heap.get?_push_size _ rfl,rfl,rfl⟩,fun b hb=>?_,q⟩
  have e:b=s1.heap.objs.size:=by simpa using hb
  subst e
  exact I1.fpOk (Nat.le_refl _) (I1.hok.fresh (Nat.le_refl _))
 ·obtain ⟨its,rv,p,hz⟩:=I1.tuple hq
  refine wpAny_pyIter_tuple (show s1.heap.IsTuple a its.toArray from p) ?_
  refine ⟨s1.heap.objs.size,[s1.heap.objs.size],_,_,H1,rfl,I1.kept (t':=s1.toks) fun b o e=>Heap.get?_push_of_some _ e,i_x a _,⟨_,Heap.get?_push_size _ rfl,rfl,rfl⟩,fun b hb=>?_,q⟩
  have e:b=s1.heap.objs.size:=by simpa using hb
  subst e
  exact I1.fpOk (Nat.le_refl _) (I1.hok.fresh (Nat.le_refl _))
noncomputable def rIxB (K:Frag):R2:=fun x y H Q=>∃ b p xs i v,x=.ref p/\y=.int i/\SqB b K H p xs/\atI xs i=some v/\Q v H
theorem ix_B:IxR X (rIxB X.K):=by
 intro value slice pins s σ H x y v u Q I rx ry h
 obtain ⟨b,p,xs,i,v',e1,e2,hq,ha,q⟩:=h
 cases b
 ·exact m_H value slice pins s σ H x y v u Q I rx ry ⟨p,xs,i,v',e1,e2,hq,ha,q⟩
 ·exact o_n value slice pins s σ H x y v u Q I rx ry ⟨p,xs,i,v',e1,e2,hq,ha,q⟩
noncomputable def l_b (K:Frag):List V->Hp->VK->Prop:=fun xs H Q=>∃ b p ys,xs=[.ref p]/\SqB b K H p ys/\Q (.int ys.length) H
theorem a_U:c_z X (.builtin "len") (l_b X.K):=by
 intro pins s σ H xs us Q I r h
 obtain ⟨b,p,ys,e,hq,q⟩:=h
 exact h_o pins s σ H xs us Q I r ⟨p,ys,e,hq.or,q⟩
noncomputable def e_c (K:Frag):List V->Hp->VK->Prop:=fun xs H Q=>∃ b p ys,xs=[.ref p]/\SqB b K H p ys/\∀ l,H l=none->Q (.ref l) (upd H l (.lst ys))
theorem d_L:c_z X (.type "list") (e_c X.K):=by
 intro pins s σ H xs us Q I r h
 obtain ⟨b,p,ys,e,hq,q⟩:=h
 exact h_p pins s σ H xs us Q I r ⟨p,ys,e,hq.or,q⟩
noncomputable def o_R (K:Frag):List V->Hp->VK->Prop:=fun xs H Q=>∃ p ys,xs=[.ref p]/\((SqL K H p ys/\∀ l,H l=none->Q (.ref l) (upd H l (.tup ys)))\/(SqT K H p ys/\Q (.ref p) H))
theorem e_s:c_z X (.type "tuple") (o_R X.K):=g_I
end
theorem m_Q {K:Frag} {b:Bool} {a:Addr} {xs:List V} {g:TG} {tb:TS} {D:Ends} {σ:St} {H:Hp} (Pv:Nat->St->Hp->Prop) (h0:Pv 0 σ H) (hl:∀ i σ H,i<=xs.length->Pv i σ H->SqB b K H a xs)
  (hs:∀ i x σ H,xs[i]?=some x->Pv i σ H->g x σ H fun σ2 H2=>tb { D with nx:=Pv (i+1),ct:=Pv (i+1),bk:=D.nx } σ2 H2) (hd:∀ σ H,Pv xs.length σ H->D.nx σ H) :
  ∃ W:Nat->Nat->St->Hp->Prop,(∃ m,W 0 m σ H)/\∀ i m σ H,W i m σ H ->
   ((Its K b a).stop i H/\D.nx σ H)\/((Its K b a).go i H/\∃ N:St->Hp->Prop,(∀ σ' H',N σ' H'->∃ m',m' < m/\W (i+1) m' σ' H')/\∀ x H',(Its K b a).yld i H x H'->g x σ H' fun σ2 H2=>tb { D with nx:=N,ct:=N,bk:=D.nx } σ2 H2):=by
 cases b
 ·exact k_x Pv h0 hl hs hd
 ·exact l_Y Pv h0 hl hs hd
theorem l_c {K:Frag} {b:Bool} {a:Addr} {xs:List V} {g:TG} {tb:TS} {D:Ends} {σ:St} {H:Hp} (Pv:Nat->St->Hp->Prop) (h0:Pv 0 σ H) (hl:∀ i σ H,i<=xs.length->Pv i σ H->SqB b K H a xs)
  (hs:∀ i x p σ H,xs[i]?=some x->Pv i σ H->H p=none->g (.ref p) σ (upd H p (.tup [.int i,x])) fun σ2 H2=>tb { D with nx:=Pv (i+1),ct:=Pv (i+1),bk:=D.nx } σ2 H2) (hd:∀ σ H,Pv xs.length σ H->D.nx σ H) :
  ∃ W:Nat->Nat->St->Hp->Prop,(∃ m,W 0 m σ H)/\∀ i m σ H,W i m σ H ->
   ((Ite K b a).stop i H/\D.nx σ H)\/((Ite K b a).go i H/\∃ N:St->Hp->Prop,(∀ σ' H',N σ' H'->∃ m',m' < m/\W (i+1) m' σ' H')/\∀ x H',(Ite K b a).yld i H x H'->g x σ H' fun σ2 H2=>tb { D with nx:=N,ct:=N,bk:=D.nx } σ2 H2):=by
 refine ⟨fun i m σ H=>m=xs.length - i/\i<=xs.length/\Pv i σ H,⟨xs.length,by simp,Nat.zero_le _,h0⟩,?_⟩
 rintro i m σ H ⟨rfl,hi,p⟩
 have q:=hl i σ H hi p
 by_cases hlt:i < xs.length
 ·refine .inr ⟨⟨xs,xs[i],q,by simp [hlt]⟩,Pv (i+1),fun σ' H' p'=>⟨xs.length - (i+1),by omega,rfl,hlt,p'⟩,fun x H' y=>?_⟩
  obtain ⟨r,x,rfl,hr,rfl,hx⟩:=y
  exact hs i x r σ H (hx xs q) p hr
 ·have e:i=xs.length:=by omega
  subst e
  exact .inl ⟨⟨xs,q,rfl⟩,hd σ H p⟩
theorem m_R {K:Frag} {b1 b2:Bool} {a1 a2:Addr} {xs ys:List V} {g:TG} {tb:TS} {D:Ends} {σ:St} {H:Hp} (Pv:Nat->St->Hp->Prop) (h0:Pv 0 σ H) (hlen:xs.length=ys.length) (hl:∀ i σ H,i<=xs.length->Pv i σ H->SqB b1 K H a1 xs/\SqB b2 K H a2 ys)
  (hs:∀ i x y p σ H,xs[i]?=some x->ys[i]?=some y->Pv i σ H->H p=none->g (.ref p) σ (upd H p (.tup [x,y])) fun σ2 H2=>tb { D with nx:=Pv (i+1),ct:=Pv (i+1),bk:=D.nx } σ2 H2) (hd:∀ σ H,Pv xs.length σ H->D.nx σ H) :
  ∃ W:Nat->Nat->St->Hp->Prop,(∃ m,W 0 m σ H)/\∀ i m σ H,W i m σ H ->
   ((Itz K b1 a1 b2 a2).stop i H/\D.nx σ H)\/((Itz K b1 a1 b2 a2).go i H/\∃ N:St->Hp->Prop,(∀ σ' H',N σ' H'->∃ m',m' < m/\W (i+1) m' σ' H')/\∀ x H',(Itz K b1 a1 b2 a2).yld i H x H'->g x σ H' fun σ2 H2=>tb { D with nx:=N,ct:=N,bk:=D.nx } σ2 H2):=by
 refine ⟨fun i m σ H=>m=xs.length - i/\i<=xs.length/\Pv i σ H,⟨xs.length,by simp,Nat.zero_le _,h0⟩,?_⟩
 rintro i m σ H ⟨rfl,hi,p⟩
 obtain ⟨q1,q2⟩:=hl i σ H hi p
 by_cases hlt:i < xs.length
 ·refine .inr ⟨⟨xs,ys,xs[i],ys[i],q1,q2,by simp [hlt],by simp⟩,Pv (i+1),fun σ' H' p'=>⟨xs.length - (i+1),by omega,rfl,hlt,p'⟩,fun x H' y=>?_⟩
  obtain ⟨r,x,z,rfl,hr,rfl,hx,hy⟩:=y
  exact hs i x z r σ H (hx xs q1) (hy ys q2) p hr
 ·have e:i=xs.length:=by omega
  subst e
  exact .inl ⟨⟨xs,ys,q1,q2,.inl (by simp)⟩,hd σ H p⟩
noncomputable def e_d (a:Addr) (H H':Hp):Prop:=∀ b o,b≠a->H b=some o->H' b=some o
theorem Same.x {a:Addr} {H H':Hp} (s:Same H H'):e_d a H H':=fun b o _ e=>s b o e
section
variable {J:It} {g:TG} {tt:TOx} {te:TE} {n:Nat} {fr:List (Str × Nat)} {σ:St} {a:Addr} {H:Hp} {Q:VK} {K:Frag}
theorem h_E (len:Nat) (P:Nat->List V->Hp->Prop) (ha:H a=none) (hz:len<=1000) (h0:P 0 [] (upd H a (.lst [])))
  (hl:∀ i zs H1,P i zs H1->zs.length<=i) (mono:∀ i zs H1 H2,P i zs H1->e_d a H1 H2->P i zs H2)
  (hgo:∀ i H1,i < len->Same H H1->J.go i H1) (hstop:∀ H1,Same H H1->J.stop len H1)
  (he:∀ i H1 zs,i < len->Same H H1->H1 a=some (.lst zs)->P i zs H1->∀ (ys:St) x H3,ys.length=n->J.yld i H1 x H3->∀ C:Option V->Hp->Prop,
   (∀ y H2,Same H1 H2->P (i+1) (zs++[y]) H2->C (some y) H2)->(∀ H2,Same H1 H2->P (i+1) zs H2->C none H2) ->
   g x (ys++b_X fr σ) H3 fun σ4 H4=>(∃ ys':St,ys'.length=n/\σ4=ys'++b_X fr σ)/\tt σ4 H4 C)
  (hd:∀ H1 ys,Same H H1->H1 a=some (.lst ys)->P len ys H1->Q (.ref a) H1):c_w J g tt n fr σ a H Q:=by
 refine ⟨fun i m H1=>m=len - i/\i<=len/\Same H H1/\∃ zs,H1 a=some (.lst zs)/\P i zs H1,⟨len,by simp,Nat.zero_le _,Same.new ha,[],a_F,h0⟩,?_⟩
 rintro i m H1 ⟨rfl,hi,s1,zs,ez,p⟩
 by_cases hlt:i < len
 ·refine .inr ⟨hgo i H1 hlt s1,fun H'=>i+1<=len/\Same H H'/\∃ zs,H' a=some (.lst zs)/\P (i+1) zs H',fun H' q=>⟨len - (i+1),by omega,rfl,q⟩,fun ys x H3 hys hy=>?_⟩
  refine he i H1 zs hlt s1 ez p ys x H3 hys hy _ (fun y H2 s2 p2=>?_) fun H2 s2 p2=>?_
  ·refine ⟨zs,s2 _ _ ez,c_m (by have:=hl i zs H1 p; omega),hlt,Same.over ha (s1.trans s2),_,a_F,mono _ _ _ _ p2 fun b o hb e=>?_⟩
   rw [a_E hb]
   exact e
  ·exact ⟨hlt,s1.trans s2,zs,s2 _ _ ez,p2⟩
 ·have e:i=len:=by omega
  subst e
  exact .inl ⟨hstop H1 s1,hd H1 zs s1 ez p⟩
theorem i_Q (len:Nat) (R:Nat->V->Hp->Prop) (ha:H a=none) (hz:len<=1000) (mono:∀ i y H1 H2,R i y H1->e_d a H1 H2->R i y H2)
  (hgo:∀ i H1,i < len->Same H H1->J.go i H1) (hstop:∀ H1,Same H H1->J.stop len H1)
  (he:∀ i H1 zs,i < len->Same H H1->H1 a=some (.lst zs)->∀ (ys:St) x H3,ys.length=n->J.yld i H1 x H3->∀ Q':VK,(∀ y H2,Same H1 H2->R i y H2->Q' y H2) ->
   g x (ys++b_X fr σ) H3 fun σ4 H4=>(∃ ys':St,ys'.length=n/\σ4=ys'++b_X fr σ)/\te σ4 H4 Q')
  (hd:∀ H1 ys,Same H H1->H1 a=some (.lst ys)->ys.length=len->(∀ j y,ys[j]?=some y->R j y H1)->Q (.ref a) H1):c_w J g (tEl te) n fr σ a H Q:=by
 refine h_E len (fun i zs H1=>zs.length=i/\∀ j y,zs[j]?=some y->R j y H1) ha hz ⟨rfl,fun j y e=>by simp at e⟩ (fun i zs H1 p=>Nat.le_of_eq p.1) (fun i zs H1 H2 p s=>⟨p.1,fun j y e=>mono _ _ _ _ (p.2 j y e) s⟩) hgo hstop ?_ fun H1 ys s e p=>hd H1 ys s e p.1 p.2
 intro i H1 zs hi s1 ez p ys x H3 hys hy C hC _
 refine he i H1 zs hi s1 ez ys x H3 hys hy _ fun y H2 s2 r=>hC y H2 s2 ⟨by simp [p.1],fun j z e=>?_⟩
 by_cases hj:j < zs.length
 ·rw [List.getElem?_append_left hj] at e
  exact mono _ _ _ _ (p.2 j z e) s2.x
 ·rw [List.getElem?_append_right (by omega)] at e
  have e0:j - zs.length=0:=by
   by_cases h0:j - zs.length=0
   ·exact h0
   ·rw [List.getElem?_eq_none (by simp; omega)] at e; cases e
  rw [e0] at e
  cases Option.some.inj e
  have:j=i:=by have:=p.1; omega
  rw [this]
  exact r
theorem c_M {b:Bool} {l:Addr} {xs:List V} (R:Nat->V->Hp->Prop) (ha:H a=none) (hS:SqB b K H l xs) (hz:xs.length<=1000) (mono:∀ i y H1 H2,R i y H1->e_d a H1 H2->R i y H2)
  (he:∀ i x H1 zs,xs[i]?=some x->Same H H1->H1 a=some (.lst zs)->∀ Q':VK,(∀ y H2,Same H1 H2->R i y H2->Q' y H2)->te (some x :: b_X fr σ) H1 Q')
  (hd:∀ H1 ys,Same H H1->H1 a=some (.lst ys)->ys.length=xs.length->(∀ j y,ys[j]?=some y->R j y H1)->Q (.ref a) H1):c_w (Its K b l) (a_R 0) (tEl te) 1 fr σ a H Q:=by
 refine i_Q xs.length R ha hz mono (fun i H1 hi s=>Its.go (hS.up s) (x:=xs[i]) (by simp [hi])) (fun H1 s=>Its.stop (hS.up s) (Nat.le_refl _)) ?_ hd
 intro i H1 zs hi s1 ez ys x H3 hys hy Q' hQ'
 obtain ⟨e1,e2⟩:=Its.yld (hS.up s1) hy
 subst e1
 match ys,hys with
 | [o],_=>exact ⟨⟨[some x],rfl,rfl⟩,he i x H3 zs e2 s1 ez Q' hQ'⟩
theorem e_e {lo:Int} {len:Nat} (R:Nat->V->Hp->Prop) (ha:H a=none) (hz:len<=1000) (mono:∀ i y H1 H2,R i y H1->e_d a H1 H2->R i y H2)
  (he:∀ (i:Nat) H1 zs,i < len->Same H H1->H1 a=some (.lst zs)->∀ Q':VK,(∀ y H2,Same H1 H2->R i y H2->Q' y H2)->te (some (.int (lo+i)) :: b_X fr σ) H1 Q')
  (hd:∀ H1 ys,Same H H1->H1 a=some (.lst ys)->ys.length=len->(∀ j y,ys[j]?=some y->R j y H1)->Q (.ref a) H1):c_w (Itr lo len) (a_R 0) (tEl te) 1 fr σ a H Q:=by
 refine i_Q len R ha hz mono (fun i H1 hi s=>hi) (fun H1 s=>Nat.le_refl _) ?_ hd
 intro i H1 zs hi s1 ez ys x H3 hys hy Q' hQ'
 obtain ⟨e1,e2⟩:=hy
 subst e1 e2
 match ys,hys with
 | [o],_=>exact ⟨⟨[_],rfl,rfl⟩,he i H3 zs hi s1 ez Q' hQ'⟩
theorem g_s {b1 b2:Bool} {l1 l2:Addr} {xs ys:List V} (R:Nat->V->Hp->Prop) (ha:H a=none) (hS1:SqB b1 K H l1 xs) (hS2:SqB b2 K H l2 ys) (hlen:xs.length=ys.length) (hz:xs.length<=1000) (mono:∀ i y H1 H2,R i y H1->e_d a H1 H2->R i y H2)
  (he:∀ i x y H1 zs,xs[i]?=some x->ys[i]?=some y->Same H H1->H1 a=some (.lst zs)->∀ Q':VK,(∀ y H2,Same H1 H2->R i y H2->Q' y H2)->te (some x :: some y :: b_X fr σ) H1 Q')
  (hd:∀ H1 zs,Same H H1->H1 a=some (.lst zs)->zs.length=xs.length->(∀ j y,zs[j]?=some y->R j y H1)->Q (.ref a) H1) :
  c_w (Itz K b1 l1 b2 l2) (gTup K 2 (c_i (a_R 0) (c_i (a_R 1) gNil))) (tEl te) 2 fr σ a H Q:=by
 refine i_Q xs.length R ha hz mono (fun i H1 hi s=>⟨xs,ys,xs[i],ys[i],hS1.up s,hS2.up s,by simp [hi],by simp⟩) (fun H1 s=>⟨xs,ys,hS1.up s,hS2.up s,.inl (by simp)⟩) ?_ hd
 intro i H1 zs hi s1 ez os x H3 hos hy Q' hQ'
 obtain ⟨p,x,y,rfl,hp,rfl,hx,hy⟩:=hy
 refine ⟨p,[x,y],rfl,SqT.of a_F,rfl,x,[y],rfl,y,[],rfl,rfl,?_⟩
 match os,hos with
 | [o,o'],_ =>
  refine ⟨⟨[some x,some y],rfl,rfl⟩,he i x y _ zs (hx xs (hS1.up s1)) (hy ys (hS2.up s1)) (s1.trans (Same.new hp)) (Same.new hp _ _ ez) Q' fun y H2 s2 r=>hQ' y H2 ((Same.new hp).trans s2) r⟩
end
noncomputable def MatB (b1 b2:Bool) (K:Frag) (H:Hp) (a:Addr) (rows:List (List Int)):Prop:=∃ ps:List Addr,SqB b1 K H a (ps.map V.ref)/\ps.length=rows.length/\∀ (i:Nat) (p:Addr) (r:List Int),ps[i]?=some p->rows[i]?=some r->SqB b2 K H p (r.map V.int)
theorem MatB.up {b1 b2:Bool} {K:Frag} {H H':Hp} {a:Addr} {rows:List (List Int)} (h:MatB b1 b2 K H a rows) (s:Same H H'):MatB b1 b2 K H' a rows:=let ⟨ps,h1,h2,h3⟩:=h; ⟨ps,h1.up s,h2,fun i p r e1 e2=>(h3 i p r e1 e2).up s⟩
noncomputable def RowR (a:Addr) (f:Nat->List Int) (j:Nat) (y:V) (H:Hp):Prop:=∃ p,y=.ref p/\p≠a/\H p=some (.lst ((f j).map V.int))
theorem RowR.mono {a:Addr} {f:Nat->List Int} (i:Nat) (y:V) (H1 H2:Hp) (h:RowR a f i y H1) (s:e_d a H1 H2):RowR a f i y H2:=let ⟨p,e,n,q⟩:=h; ⟨p,e,n,s _ _ n q⟩
theorem MatB.of {K:Frag} {H:Hp} {a:Addr} {f:Nat->List Int} {ys:List V} (h:H a=some (.lst ys)) (hr:∀ (j:Nat) y,ys[j]?=some y->RowR a f j y H):MatB false false K H a ((List.range ys.length).map f):=by
 have hp:∃ ps:List Addr,ys=ps.map V.ref:=by
  clear h
  have:∀ (zs:List V) (k:Nat),(∀ (j:Nat) y,zs[j]?=some y->RowR a f (j+k) y H)->∃ ps:List Addr,zs=ps.map V.ref:=by
   intro zs
   induction zs with
   | nil=>intro k _; exact ⟨[],rfl⟩
   | cons z r ih =>
    intro k hz
    obtain ⟨p,e,_⟩:=hz 0 z rfl
    obtain ⟨ps,e2⟩:=ih (k+1) fun j y q=>by
     have:=hz (j+1) y (by simpa using q)
     rwa [Nat.add_assoc,Nat.add_comm 1 k] at this
    exact ⟨p :: ps,by rw [e,e2]; rfl⟩
  exact this ys 0 hr
 obtain ⟨ps,rfl⟩:=hp
 refine ⟨ps,SqB.lst h,by simp,fun i p r e1 e2=>?_⟩
 obtain ⟨p',e,_,q⟩:=hr i (.ref p) (by simp [e1])
 cases e
 have hi:i < ps.length:=(List.getElem?_eq_some_iff.mp e1).1
 have:r=f i:=by
  rw [List.getElem?_map,List.length_map,List.getElem?_range hi] at e2
  exact (Option.some.inj e2).symm
 rw [this]
 exact SqB.lst q
noncomputable def iT:Nat->PyData->Bool
 | _,.int _=>true
 | n+1,.list xs=>xs.all (iT n)
 | n+1,.tuple xs=>xs.all (iT n)
 | _,_=>false
theorem i_R:∀ (n:Nat) (d:PyData),iT n d=true->d.canLay0=true/\d.depth<=n
 | 0,.int _,_=>by simp [PyData.canLay0,PyData.depth]
 | n+1,.int _,_=>by simp [PyData.canLay0,PyData.depth]
 | n+1,.list xs,h=>by
  have all:∀ ys:List PyData,ys.all (iT n)=true->PyData.canLayAll0 ys=true/\PyData.depthAll ys<=n:=by
   intro ys
   induction ys with
   | nil=>intro _; simp [PyData.canLayAll0,PyData.depthAll]
   | cons y r ih =>
    intro hy
    rw [List.all_cons,Bool.and_eq_true] at hy
    have h1:=i_R n y hy.1
    have h2:=ih hy.2
    simp only [PyData.canLayAll0,PyData.depthAll,Bool.and_eq_true]
    exact ⟨⟨h1.1,h2.1⟩,by omega⟩
  have:=all xs (by simpa [iT] using h)
  simp only [PyData.canLay0,PyData.depth]
  exact ⟨this.1,by omega⟩
 | n+1,.tuple xs,h=>by
  have all:∀ ys:List PyData,ys.all (iT n)=true->PyData.canLayAll0 ys=true/\PyData.depthAll ys<=n:=by
   intro ys
   induction ys with
   | nil=>intro _; simp [PyData.canLayAll0,PyData.depthAll]
   | cons y r ih =>
    intro hy
    rw [List.all_cons,Bool.and_eq_true] at hy
    have h1:=i_R n y hy.1
    have h2:=ih hy.2
    simp only [PyData.canLayAll0,PyData.depthAll,Bool.and_eq_true]
    exact ⟨⟨h1.1,h2.1⟩,by omega⟩
  have:=all xs (by simpa [iT] using h)
  simp only [PyData.canLay0,PyData.depth]
  exact ⟨this.1,by omega⟩
theorem l_d:∀ (n:Nat) (d d':PyData),iT n d=true->iT n d'=true->SeqAt.noMix d d'=true:=by
 intro n
 induction n with
 | zero=>intro d d' h h'; cases d <;> simp [iT] at h <;> cases d' <;> simp [iT] at h' <;> simp [SeqAt.noMix]
 | succ n ih =>
  have all:∀ ys zs:List PyData,ys.all (iT n)=true->zs.all (iT n)=true->SeqAt.noMixAll ys zs=true:=by
   intro ys
   induction ys with
   | nil=>intro zs _ _; cases zs <;> simp [SeqAt.noMixAll]
   | cons y r ihr =>
    intro zs hy hz
    cases zs with
    | nil=>simp [SeqAt.noMixAll]
    | cons z t =>
     rw [List.all_cons,Bool.and_eq_true] at hy hz
     simp only [SeqAt.noMixAll,Bool.and_eq_true]
     exact ⟨ih y z hy.1 hz.1,ihr t hy.2 hz.2⟩
  intro d d' h h'
  cases d <;> simp only [iT,Bool.false_eq_true] at h <;> cases d' <;> simp only [iT,Bool.false_eq_true] at h' <;> simp only [SeqAt.noMix]
  ·exact all _ _ h h'
  ·exact all _ _ h h'
theorem j_w:∀ (n:Nat) (d d':PyData),iT n d=true->iT n d'=true->(same d d'=true ↔ d=d'):=by
 intro n
 induction n with
 | zero=>intro d d' h h'; cases d <;> simp [iT] at h <;> cases d' <;> simp [iT] at h' <;> simp [same]
 | succ n ih =>
  have all:∀ ys zs:List PyData,ys.all (iT n)=true->zs.all (iT n)=true->(sameAll ys zs=true ↔ ys=zs):=by
   intro ys
   induction ys with
   | nil=>intro zs _ _; cases zs <;> simp [sameAll]
   | cons y r ihr =>
    intro zs hy hz
    cases zs with
    | nil=>simp [sameAll]
    | cons z t =>
     rw [List.all_cons,Bool.and_eq_true] at hy hz
     simp only [sameAll,Bool.and_eq_true,List.cons.injEq]
     rw [ih y z hy.1 hz.1,ihr t hy.2 hz.2]
  intro d d' h h'
  cases d <;> simp only [iT,Bool.false_eq_true] at h <;> cases d' <;> simp only [iT,Bool.false_eq_true] at h' <;> simp only [same,beq_iff_eq,PyData.int.injEq,PyData.list.injEq,PyData.tuple.injEq,reduceCtorEq,Bool.false_eq_true]
  ·exact all _ _ h h'
  ·exact all _ _ h h'
theorem e_t {n:Nat} {d:PyData} (hn:n<=64) (h:iT n d=true):SeqAt.shaped d=true:=by
 have:=i_R n d h
 unfold SeqAt.shaped
 rw [Bool.and_eq_true]
 exact ⟨this.1,decide_eq_true (by omega)⟩
section
variable {K:Frag} {H:Hp} {x y:V} {d d':PyData} {Q:VK}
theorem o_u (n:Nat) (hn:n<=64) (h1:Dt K H x d) (h2:Dt K H y d') (t1:iT n d=true) (t2:iT n d'=true) {b:Bool} (hb:b=true ↔ d=d') (q:Q (.bl b) H):rEqD K x y H Q:=by
 refine ⟨d,d',h1,h2,e_t hn t1,e_t hn t2,l_d n d d' t1 t2,?_⟩
 have:=j_w n d d' t1 t2
 have e:same d d'=b:=by
  cases hs:same d d' <;> cases b <;> simp_all
 rw [e]
 exact q
theorem l_e (n:Nat) (hn:n<=64) (h1:Dt K H x d) (h2:Dt K H y d') (t1:iT n d=true) (t2:iT n d'=true) {b:Bool} (hb:b=true ↔ d=d') (q:Q (.bl (!b)) H):rNeD K x y H Q:=by
 refine ⟨d,d',h1,h2,e_t hn t1,e_t hn t2,l_d n d d' t1 t2,?_⟩
 have:=j_w n d d' t1 t2
 have e:same d d'=b:=by
  cases hs:same d d' <;> cases b <;> simp_all
 rw [e]
 exact q
end
noncomputable def seqD (b:Bool) (ds:List PyData):PyData:=match b with | false=>.list ds | true=>.tuple ds
noncomputable def i_c (b:Bool) (ns:List Int):PyData:=seqD b (ns.map PyData.int)
noncomputable def matD (b1 b2:Bool) (rows:List (List Int)):PyData:=seqD b1 (rows.map (i_c b2))
theorem m_S (b:Bool) (n:Nat) (ns:List Int):iT (n+1) (i_c b ns)=true:=by
 have:(ns.map PyData.int).all (iT n)=true:=by
  rw [List.all_eq_true]
  intro d hd
  obtain ⟨i,_,rfl⟩:=List.mem_map.mp hd
  cases n <;> rfl
 cases b <;> simpa [i_c,seqD,iT] using this
theorem g_t (b1 b2:Bool) (n:Nat) (rows:List (List Int)):iT (n+2) (matD b1 b2 rows)=true:=by
 have:(rows.map (i_c b2)).all (iT (n+1))=true:=by
  rw [List.all_eq_true]
  intro d hd
  obtain ⟨i,_,rfl⟩:=List.mem_map.mp hd
  exact m_S b2 n i
 cases b1 <;> simpa [matD,seqD,iT] using this
theorem Dt.seqB {b:Bool} {K:Frag} {H:Hp} {a:Addr} {xs:List V} {ds:List PyData} (h:SqB b K H a xs) (hd:Dts K H xs ds):Dt K H (.ref a) (seqD b ds):=by
 cases b
 ·exact .lst h hd
 ·exact .tup h hd
theorem Dt.intsB {b:Bool} {K:Frag} {H:Hp} {a:Addr} {ns:List Int} (h:SqB b K H a (ns.map V.int)):Dt K H (.ref a) (i_c b ns):=Dt.seqB h (Dts.ints ns)
theorem Dt.matB {b1 b2:Bool} {K:Frag} {H:Hp} {a:Addr} {rows:List (List Int)} (h:MatB b1 b2 K H a rows):Dt K H (.ref a) (matD b1 b2 rows):=by
 obtain ⟨ps,h1,h2,h3⟩:=h
 refine Dt.seqB h1 ?_
 clear h1
 induction ps generalizing rows with
 | nil =>
  cases rows with
  | nil=>exact .nil
  | cons r t=>simp at h2
 | cons p ps ih =>
  cases rows with
  | nil=>simp at h2
  | cons r t =>
   refine .cons (Dt.intsB (h3 0 p r rfl rfl)) (ih (by simpa using h2) fun i q z e1 e2=>h3 (i+1) q z (by simpa using e1) (by simpa using e2))
section
variable {wi:TI} {g:TG} {tt:TOx} {te:TE} {tc:TT} {n:Nat} {fr:List (Str × Nat)} {σ:St} {H:Hp} {Q:VK}
theorem a_Y (h:∀ B:TE,B=te->wi σ H fun J H1=>∀ a,H1 a=none->c_w J g (tEl B) n fr σ a H1 Q):c_E wi g (tEl te) n fr σ H Q:=h _ rfl
theorem g_u (h:∀ (C:TT) (B:TE),C=tc->B=te->wi σ H fun J H1=>∀ a,H1 a=none->c_w J g (d_R C B) n fr σ a H1 Q):c_E wi g (d_R tc te) n fr σ H Q:=h _ _ rfl rfl
end
noncomputable def seqO (b:Bool) (xs:List V):HO:=match b with | false=>.lst xs | true=>.tup xs
noncomputable def rSlB (K:Frag):V->Option Int->Option Int->Hp->VK->Prop:=fun x lo hi H Q=>∃ b a xs,x=.ref a/\SqB b K H a xs /\
 (b=true->¬ (HT.sIx xs.length 0 lo=0/\HT.sIx xs.length xs.length hi=xs.length))/\∀ p,H p=none->Q (.ref p) (upd H p (seqO b (cutV xs lo hi)))
theorem sl_B {X:Cx}:SlR X (rSlB X.K):=by
 intro pins s σ H x v vl vu lo hi sl Q I rx hs pl pu h
 obtain ⟨b,a,xs,e,hq,hw,q⟩:=h
 cases b
 ·exact m_I pins s σ H x v vl vu lo hi sl Q I rx hs pl pu ⟨a,xs,e,hq,q⟩
 ·exact o_m pins s σ H x v vl vu lo hi sl Q I rx hs pl pu ⟨a,xs,e,hq,hw rfl,q⟩
noncomputable def MatL (H:Hp) (a:Addr) (rows:List (List Int)):Prop:=∃ ps:List Addr,H a=some (.lst (ps.map V.ref))/\ps.length=rows.length/\∀ (i:Nat) (p:Addr) (r:List Int),ps[i]?=some p->rows[i]?=some r->p≠a/\H p=some (.lst (r.map V.int))
theorem MatL.b {K:Frag} {H:Hp} {a:Addr} {rows:List (List Int)} (h:MatL H a rows):MatB false false K H a rows:=let ⟨ps,h1,h2,h3⟩:=h; ⟨ps,SqB.lst h1,h2,fun i p r e1 e2=>SqB.lst (h3 i p r e1 e2).2⟩
theorem MatL.up {H H':Hp} {a:Addr} {rows:List (List Int)} (h:MatL H a rows) (s:Same H H'):MatL H' a rows:=let ⟨ps,h1,h2,h3⟩:=h; ⟨ps,s _ _ h1,h2,fun i p r e1 e2=>⟨(h3 i p r e1 e2).1,s _ _ (h3 i p r e1 e2).2⟩⟩
theorem MatL.of {H:Hp} {a:Addr} {f:Nat->List Int} {ys:List V} (h:H a=some (.lst ys)) (hr:∀ (j:Nat) y,ys[j]?=some y->RowR a f j y H):MatL H a ((List.range ys.length).map f):=by
 have hp:∃ ps:List Addr,ys=ps.map V.ref:=by
  clear h
  have:∀ (zs:List V) (k:Nat),(∀ (j:Nat) y,zs[j]?=some y->RowR a f (j+k) y H)->∃ ps:List Addr,zs=ps.map V.ref:=by
   intro zs
   induction zs with
   | nil=>intro k _; exact ⟨[],rfl⟩
   | cons z r ih =>
    intro k hz
    obtain ⟨p,e,_⟩:=hz 0 z rfl
    obtain ⟨ps,e2⟩:=ih (k+1) fun j y q=>by
     have:=hz (j+1) y (by simpa using q)
     rwa [Nat.add_assoc,Nat.add_comm 1 k] at this
    exact ⟨p :: ps,by rw [e,e2]; rfl⟩
  exact this ys 0 hr
 obtain ⟨ps,rfl⟩:=hp
 refine ⟨ps,h,by simp,fun i p r e1 e2=>?_⟩
 obtain ⟨p',e,n,q⟩:=hr i (.ref p) (by simp [e1])
 cases e
 have hi:i < ps.length:=(List.getElem?_eq_some_iff.mp e1).1
 have:r=f i:=by
  rw [List.getElem?_map,List.length_map,List.getElem?_range hi] at e2
  exact (Option.some.inj e2).symm
 rw [this]
 exact ⟨n,q⟩
theorem MatL.app {H:Hp} {l p:Addr} {M:List (List Int)} {r:List Int} (h:MatL H l M) (hp:H p=some (.lst (r.map V.int))) (ne:p≠l):∃ xs,H l=some (.lst xs)/\xs.length=M.length/\MatL (upd H l (.lst (xs++[.ref p]))) l (M++[r]):=by
 obtain ⟨ps,h1,h2,h3⟩:=h
 refine ⟨_,h1,by simp [h2],ps++[p],by rw [a_F]; simp,by simp [h2],fun i q z e1 e2=>?_⟩
 by_cases hi:i < ps.length
 ·rw [List.getElem?_append_left hi] at e1
  rw [List.getElem?_append_left (by omega)] at e2
  obtain ⟨n,w⟩:=h3 i q z e1 e2
  exact ⟨n,by rw [a_E n]; exact w⟩
 ·have e0:i=ps.length:=by
   have:=(List.getElem?_eq_some_iff.mp e1).1
   simp at this
   omega
  subst e0
  rw [List.getElem?_append_right (Nat.le_refl _)] at e1
  rw [h2,List.getElem?_append_right (Nat.le_refl _)] at e2
  simp at e1 e2
  subst e1 e2
  exact ⟨ne,by rw [a_E ne]; exact hp⟩
theorem MatB.row {b1 b2:Bool} {K:Frag} {H:Hp} {a:Addr} {rows:List (List Int)} (h:MatB b1 b2 K H a rows) {i:Nat} {r:List Int} (e:rows[i]?=some r):∃ ps:List Addr,∃ p,SqB b1 K H a (ps.map V.ref)/\(ps.map V.ref)[i]?=some (.ref p)/\(ps.map V.ref).length=rows.length/\SqB b2 K H p (r.map V.int):=by
 obtain ⟨ps,h1,h2,h3⟩:=h
 have hi:i < ps.length:=by have:=(List.getElem?_eq_some_iff.mp e).1; omega
 exact ⟨ps,ps[i],h1,by simp [hi],by simp [h2],h3 i _ r (by simp [hi]) e⟩
theorem MatB.walk {b1 b2:Bool} {K:Frag} {H:Hp} {a:Addr} {rows:List (List Int)} (h:MatB b1 b2 K H a rows):∃ xs:List V,SqB b1 K H a xs/\xs.length=rows.length/\∀ (i:Nat) x,xs[i]?=some x->∃ p r,x=.ref p/\rows[i]?=some r/\SqB b2 K H p (r.map V.int):=by
 obtain ⟨ps,h1,h2,h3⟩:=h
 refine ⟨_,h1,by simp [h2],fun i x e=>?_⟩
 rw [List.getElem?_map] at e
 cases q:ps[i]? with
 | none=>rw [q] at e; cases e
 | some p =>
  rw [q] at e
  have hi:i < rows.length:=by have:=(List.getElem?_eq_some_iff.mp q).1; omega
  exact ⟨p,rows[i],(Option.some.inj e).symm,by simp [hi],h3 i p _ q (by simp [hi])⟩
theorem b_H {α:Type} {xs:List α} {k:Nat} {x:α} {i:Int} (h:xs[k]?=some x) (hi:i=k):atI xs i=some x:=by
 subst hi
 exact m_G h
theorem b_Z {ns:List Int} {i:Nat} {x:V} (h:(ns.map V.int)[i]?=some x):∃ n,ns[i]?=some n/\x=.int n:=by
 rw [List.getElem?_map] at h
 cases e:ns[i]? with
 | none=>rw [e] at h; cases h
 | some n=>rw [e] at h; exact ⟨n,rfl,(Option.some.inj h).symm⟩
theorem c_N {ns:List Int} {i:Nat} {n:Int} (h:ns[i]?=some n):(ns.map V.int)[i]?=some (.int n):=by rw [List.getElem?_map,h]; rfl
theorem b_R {ns:List Int} {k:Nat} (h:k < ns.length):ns[k]?=some (ns.getD k 0):=by simp [h]
theorem getD_mem {ns:List Int} {k:Nat} (h:k < ns.length):ns.getD k 0∈ns:=by
 rw [show ns.getD k 0=ns[k] by simp [h]]
 exact List.getElem_mem h
noncomputable def colI (k:Nat) (rows:List (List Int)):List Int:=rows.map fun r=>r.getD k 0
noncomputable def dotI (ms ns:List Int):Int:=(List.zipWith (·*·) ms ns).sum
noncomputable def g_v (w:Nat) (rows:List (List Int)):List (List Int):=(List.range w).map fun k=>colI k rows
noncomputable def mulM (w:Nat) (A B:List (List Int)):List (List Int):=A.map fun r=>(List.range w).map fun k=>dotI r (colI k B)
section
variable {K:Frag} {g:TG} {tb:TS} {σ:St} {H:Hp} {nx:St->Hp->Prop} {rt:VK}
noncomputable abbrev i_d (J:It) (g:TG) (tb:TS) (nx:St->Hp->Prop) (rt:VK) (σ:St) (H:Hp):Prop:=∃ W:Nat->Nat->St->Hp->Prop,(∃ m,W 0 m σ H)/\∀ i m σ H,W i m σ H ->
 (J.stop i H/\nx σ H)\/(J.go i H/\∃ N:St->Hp->Prop,(∀ σ' H',N σ' H'->∃ m',m' < m/\W (i+1) m' σ' H')/\∀ x H',J.yld i H x H'->g x σ H' fun σ2 H2=>tb { nx:=N,rt:=rt,bk:=nx,ct:=N } σ2 H2)
theorem e_f {lo:Int} {n:Nat} (Pv:Nat->St->Hp->Prop) (h0:Pv 0 σ H)
  (hs:∀ i σ H,i < n->Pv i σ H->g (.int (lo+i)) σ H fun σ2 H2=>tb { nx:=Pv (i+1),rt:=rt,bk:=nx,ct:=Pv (i+1) } σ2 H2) (hd:∀ σ H,Pv n σ H->nx σ H):i_d (Itr lo n) g tb nx rt σ H :=
 j_X (D:={ nx:=nx,rt:=rt,bk:=nx,ct:=nx }) Pv h0 hs hd
theorem l_f {b:Bool} {a:Addr} {xs:List V} (Pv:Nat->St->Hp->Prop) (h0:Pv 0 σ H) (hl:∀ i σ H,i<=xs.length->Pv i σ H->SqB b K H a xs)
  (hs:∀ i x σ H,xs[i]?=some x->Pv i σ H->g x σ H fun σ2 H2=>tb { nx:=Pv (i+1),rt:=rt,bk:=nx,ct:=Pv (i+1) } σ2 H2) (hd:∀ σ H,Pv xs.length σ H->nx σ H):i_d (Its K b a) g tb nx rt σ H :=
 m_Q (D:={ nx:=nx,rt:=rt,bk:=nx,ct:=nx }) Pv h0 hl hs hd
theorem m_T {b:Bool} {a:Addr} {xs:List V} (Pv:Nat->St->Hp->Prop) (h0:Pv 0 σ H) (hl:∀ i σ H,i<=xs.length->Pv i σ H->SqB b K H a xs)
  (hs:∀ i x p σ H,xs[i]?=some x->Pv i σ H->H p=none->g (.ref p) σ (upd H p (.tup [.int i,x])) fun σ2 H2=>tb { nx:=Pv (i+1),rt:=rt,bk:=nx,ct:=Pv (i+1) } σ2 H2) (hd:∀ σ H,Pv xs.length σ H->nx σ H):i_d (Ite K b a) g tb nx rt σ H :=
 l_c (D:={ nx:=nx,rt:=rt,bk:=nx,ct:=nx }) Pv h0 hl hs hd
end
theorem e_C {b1 b2:Bool} {K:Frag} {H:Hp} {a:Addr} {rows:List (List Int)} {i k:Nat} {r:List Int} {x:Int} {I J:Int} {Q:VK} (h:MatB b1 b2 K H a rows) (e:rows[i]?=some r) (e2:r[k]?=some x) (hi:I=i) (hk:J=k) (q:Q (.int x) H) :
  rIxB K (.ref a) (.int I) H fun v H1=>rIxB K v (.int J) H1 Q:=by
 obtain ⟨ps,p,k1,k2,k3,k4⟩:=h.row e
 exact ⟨b1,a,_,_,_,rfl,rfl,k1,b_H k2 hi,b2,p,_,_,_,rfl,rfl,k4,b_H (c_N e2) hk,q⟩
theorem d_M {b1 b2:Bool} {K:Frag} {H:Hp} {a:Addr} {rows:List (List Int)} {i:Nat} {r:List Int} {I:Int} {Q:VK} (h:MatB b1 b2 K H a rows) (e:rows[i]?=some r) (hi:I=i) (q:∀ p,SqB b2 K H p (r.map V.int)->Q (.ref p) H) :
  rIxB K (.ref a) (.int I) H Q:=by
 obtain ⟨ps,p,k1,k2,k3,k4⟩:=h.row e
 exact ⟨b1,a,_,_,_,rfl,rfl,k1,b_H k2 hi,q p k4⟩
theorem e_u {b1 b2:Bool} {K:Frag} {H:Hp} {a:Addr} {rows:List (List Int)} {Q:VK} (h:MatB b1 b2 K H a rows) (q:Q (.int rows.length) H):l_b K [.ref a] H Q:=by
 obtain ⟨ps,h1,h2,h3⟩:=h
 refine ⟨b1,a,_,rfl,h1,?_⟩
 rw [List.length_map,h2]
 exact q
theorem c_s {b:Bool} {K:Frag} {H:Hp} {a:Addr} {ns:List Int} {Q:VK} (h:SqB b K H a (ns.map V.int)) (q:Q (.int ns.length) H):l_b K [.ref a] H Q:=by
 refine ⟨b,a,_,rfl,h,?_⟩
 rw [List.length_map]
 exact q
noncomputable def d_N (a:Addr) (H:Hp) (zs:List V) (M:List (List Int)):Prop:=∃ ps:List Addr,zs=ps.map V.ref/\ps.length=M.length/\∀ (j:Nat) (p:Addr) (r:List Int),ps[j]?=some p->M[j]?=some r->p≠a/\H p=some (.lst (r.map V.int))
theorem d_N.nil {a:Addr} {H:Hp}:d_N a H [] []:=⟨[],rfl,rfl,fun j p r e=>by simp at e⟩
theorem d_N.len {a:Addr} {H:Hp} {zs:List V} {M:List (List Int)} (h:d_N a H zs M):zs.length=M.length:=let ⟨ps,e,l,_⟩:=h; by rw [e,List.length_map,l]
theorem d_N.mono {a:Addr} {H H':Hp} {zs:List V} {M:List (List Int)} (h:d_N a H zs M) (s:e_d a H H'):d_N a H' zs M:=let ⟨ps,e,l,q⟩:=h; ⟨ps,e,l,fun j p r e1 e2=>⟨(q j p r e1 e2).1,s _ _ (q j p r e1 e2).1 (q j p r e1 e2).2⟩⟩
theorem g_w (ns:List Int) (lo hi:Option Int):cutV (ns.map V.int) lo hi=((ns.drop (HT.sIx ns.length 0 lo)).take (HT.sIx ns.length ns.length hi - HT.sIx ns.length 0 lo)).map V.int:=by
 unfold cutV
 rw [List.length_map,List.map_take,List.map_drop]
theorem o_v {ns:List Int} {k:Nat} (h:k<=ns.length):cutV (ns.map V.int) none (some (k:Int))=(ns.take k).map V.int:=by
 rw [g_w,HT.sIx_none,HT.sIx_nat,Nat.min_eq_left h]
 simp
theorem l_g {ns:List Int} {k:Nat} (h:k<=ns.length):cutV (ns.map V.int) (some (k:Int)) none=(ns.drop k).map V.int:=by
 rw [g_w,HT.sIx_none,HT.sIx_nat,Nat.min_eq_left h,List.take_of_length_le (by simp)]
section
variable {K:Frag} {H:Hp} {a a1:Addr} {M:List (List Int)} {σ:St} {Q:VK} {b1 b2:Bool}
noncomputable def MatT (H:Hp) (a:Addr) (rows:List (List Int)):Prop:=∃ ps:List Addr,H a=some (.lst (ps.map V.ref))/\ps.length=rows.length/\∀ (i:Nat) (p:Addr) (r:List Int),ps[i]?=some p->rows[i]?=some r->H p=some (.tup (r.map V.int))
theorem MatT.tuple {l:Addr} (h:MatT H a M) (hl:H l=none):∃ zs,H a=some (.lst zs)/\MatB true true K (upd H l (.tup zs)) l M:=by
 obtain ⟨ps,h1,h2,h3⟩:=h
 exact ⟨_,h1,ps,SqB.tup a_F,h2,fun i p r e1 e2=>SqB.tup (Same.new hl _ _ (h3 i p r e1 e2))⟩
end
end L2
namespace L2
open PySem PySem.Spec PyProof.Rows
open PySem.W (Frag)
noncomputable def MkI (te:TE) (n:Int):Prop:=∀ σ H Q,Q (.int n) H->te σ H Q
theorem MkI.pos (n:Int):MkI (tC (.int n)) n:=fun _ _ _ q=>q
theorem MkI.neg (n:Int):MkI (tUn (rU fun i=>.int (-i)) (tC (.int n))) (-n):=fun _ _ _ q=>⟨n,rfl,q⟩
noncomputable def MkIs (ta:TA) (ns:List Int):Prop:=∀ σ H Q,Q (ns.map V.int) H->ta σ H Q
theorem MkIs.nil:MkIs tNil []:=fun _ _ _ q=>q
theorem MkIs.cons {te:TE} {ta:TA} {n:Int} {ns:List Int} (h:MkI te n) (h2:MkIs ta ns):MkIs (b_O te ta) (n :: ns):=fun σ H Q q=>h σ H _ (h2 σ H _ q)
noncomputable def MkR (te:TE) (ns:List Int):Prop:=∀ σ H Q,(∀ p H',Same H H'->H p=none->H' p=some (.lst (ns.map V.int))->Q (.ref p) H')->te σ H Q
theorem MkR.of {ta:TA} {ns:List Int} (h:MkIs ta ns) (hz:ns.length<=1000):MkR (tLst ta) ns:=fun σ H Q q=>h σ H _ ⟨by rw [List.length_map]; exact Nat.le_of_lt (c_m hz),fun l hl=>q l _ (Same.new hl) hl a_F⟩
noncomputable def MkRs (ta:TA) (M:List (List Int)):Prop:=∀ σ H Q,(∀ ps H',Same H H'->RefRowsN H H' ps M->Q (ps.map V.ref) H')->ta σ H Q
where RefRowsN (H H':Hp) (ps:List Addr) (M:List (List Int)):Prop:=ps.length=M.length/\∀ (j:Nat) (p:Addr) (r:List Int),ps[j]?=some p->M[j]?=some r->H' p=some (.lst (r.map V.int))
theorem MkRs.nil:MkRs tNil []:=fun _ H Q q=>q [] H (Same.refl _) ⟨rfl,fun j p r e=>by simp at e⟩
theorem MkRs.cons {te:TE} {ta:TA} {ns:List Int} {M:List (List Int)} (h:MkR te ns) (h2:MkRs ta M):MkRs (b_O te ta) (ns :: M):=fun σ H Q q=>h σ H _ fun p H1 s1 hp e1=>h2 σ H1 _ fun ps H2 s2 r=>q (p :: ps) H2 (s1.trans s2) ⟨by simp [r.1],fun j p' r' e e'=>by
 cases j with
 | zero=>simp at e e'; subst e e'; exact s2 _ _ e1
 | succ j=>exact r.2 j p' r' (by simpa using e) (by simpa using e')⟩
noncomputable def MkM (te:TE) (M:List (List Int)):Prop:=∀ σ H Q,(∀ p H',Same H H'->H p=none->MatL H' p M->Q (.ref p) H')->te σ H Q
theorem MkM.of {ta:TA} {M:List (List Int)} (h:MkRs ta M) (hz:M.length<=1000):MkM (tLst ta) M:=fun σ H Q q=>h σ H _ fun ps H1 s1 r=>⟨by rw [List.length_map,r.1]; exact Nat.le_of_lt (c_m hz),fun l hl=>by
 have hn:H l=none:=by cases e:H l with | none=>rfl | some o=>rw [s1 _ _ e] at hl; cases hl
 exact q l _ (s1.trans (Same.new hl)) hn ⟨ps,a_F,r.1,fun i p z e1 e2=>⟨a_H (r.2 i p z e1 e2) hl,Same.new hl _ _ (r.2 i p z e1 e2)⟩⟩⟩
noncomputable def Mats (H:Hp) (p:Addr) (Ms:List (List (List Int))):Prop:=∃ ps:List Addr,H p=some (.lst (ps.map V.ref))/\ps.length=Ms.length/\∀ (i:Nat) (q:Addr) (M:List (List Int)),ps[i]?=some q->Ms[i]?=some M->MatL H q M
theorem Mats.up {H H':Hp} {p:Addr} {Ms:List (List (List Int))} (h:Mats H p Ms) (s:Same H H'):Mats H' p Ms:=let ⟨ps,h1,h2,h3⟩:=h; ⟨ps,s _ _ h1,h2,fun i q M e1 e2=>(h3 i q M e1 e2).up s⟩
noncomputable def MkMs (ta:TA) (Ms:List (List (List Int))):Prop:=∀ σ H Q,(∀ (ps:List Addr) H',Same H H'->ps.length=Ms.length->(∀ (i:Nat) (q:Addr) (M:List (List Int)),ps[i]?=some q->Ms[i]?=some M->MatL H' q M)->Q (ps.map V.ref) H')->ta σ H Q
theorem MkMs.nil:MkMs tNil []:=fun _ H Q q=>q [] H (Same.refl _) rfl fun j p r e=>by simp at e
theorem MkMs.cons {te:TE} {ta:TA} {M:List (List Int)} {Ms:List (List (List Int))} (h:MkM te M) (h2:MkMs ta Ms):MkMs (b_O te ta) (M :: Ms):=fun σ H Q q=>h σ H _ fun p H1 s1 _ e1=>h2 σ H1 _ fun ps H2 s2 l r=>q (p :: ps) H2 (s1.trans s2) (by simp [l]) fun j p' r' e e'=>by
 cases j with
 | zero=>simp at e e'; subst e e'; exact e1.up s2
 | succ j=>exact r j p' r' (by simpa using e) (by simpa using e')
theorem MkMs.lst {ta:TA} {Ms:List (List (List Int))} (h:MkMs ta Ms) (hz:Ms.length<=1000) {σ:St} {H:Hp} {Q:VK} (q:∀ p H',Same H H'->Mats H' p Ms->Q (.ref p) H'):tLst ta σ H Q:=h σ H _ fun ps H1 s1 l r=>⟨by rw [List.length_map,l]; exact Nat.le_of_lt (c_m hz),fun a ha =>
 q a _ (s1.trans (Same.new ha)) ⟨ps,a_F,l,fun i q M e1 e2=>(r i q M e1 e2).up (Same.new ha)⟩⟩
theorem Mats.at {K:Frag} {H:Hp} {p:Addr} {Ms:List (List (List Int))} {i:Nat} {M:List (List Int)} {I:Int} {Q:VK} (h:Mats H p Ms) (e:Ms[i]?=some M) (hi:I=i) (k:∀ q,MatL H q M->Q (.ref q) H):rIxB K (.ref p) (.int I) H Q:=by
 obtain ⟨ps,h1,h2,h3⟩:=h
 have hlt:i < ps.length:=by have:=(List.getElem?_eq_some_iff.mp e).1; omega
 exact ⟨false,p,_,_,_,rfl,rfl,SqB.lst h1,b_H (show (ps.map V.ref)[i]?=some (.ref ps[i]) by simp [hlt]) hi,k _ (h3 i _ M (by simp [hlt]) e)⟩
noncomputable def MatD (H0 H:Hp) (a:Addr) (rows:List (List Int)):Prop:=∃ ps:List Addr,H a=some (.lst (ps.map V.ref))/\ps.length=rows.length/\ps.Nodup/\∀ (i:Nat) (p:Addr) (r:List Int),ps[i]?=some p->rows[i]?=some r->p≠a/\H0 p=none/\H p=some (.lst (r.map V.int))
theorem MatD.l {H0 H:Hp} {a:Addr} {rows:List (List Int)} (h:MatD H0 H a rows):MatL H a rows:=let ⟨ps,h1,h2,_,h3⟩:=h; ⟨ps,h1,h2,fun i p r e1 e2=>⟨(h3 i p r e1 e2).1,(h3 i p r e1 e2).2.2⟩⟩
theorem MatD.up {H0 H H':Hp} {a:Addr} {rows:List (List Int)} (h:MatD H0 H a rows) (s:Same H H'):MatD H0 H' a rows:=let ⟨ps,h1,h2,n,h3⟩:=h; ⟨ps,s _ _ h1,h2,n,fun i p r e1 e2=>⟨(h3 i p r e1 e2).1,(h3 i p r e1 e2).2.1,s _ _ (h3 i p r e1 e2).2.2⟩⟩
theorem MatD.row {H0 H:Hp} {a:Addr} {rows:List (List Int)} {i:Nat} {r:List Int} (h:MatD H0 H a rows) (e:rows[i]?=some r):∃ zs p,H a=some (.lst zs)/\zs[i]?=some (.ref p)/\zs.length=rows.length/\p≠a/\H0 p=none/\H p=some (.lst (r.map V.int))/\∀ r',MatD H0 (upd H p (.lst (r'.map V.int))) a (rows.set i r'):=by
 obtain ⟨ps,h1,h2,hn,h3⟩:=h
 have hi:i < ps.length:=by have:=(List.getElem?_eq_some_iff.mp e).1; omega
 have hp:=h3 i ps[i] r (by simp [hi]) e
 refine ⟨_,ps[i],h1,by simp [hi],by simp [h2],hp.1,hp.2.1,hp.2.2,fun r'=>⟨ps,by rw [a_E (Ne.symm hp.1)]; exact h1,by simp [h2],hn,fun j q z e1 e2=>?_⟩⟩
 by_cases hj:j=i
 ·subst hj
  have eq:q=ps[j]:=by simp [hi] at e1; exact e1.symm
  subst eq
  rw [List.getElem?_set_self (by omega)] at e2
  cases e2
  exact ⟨hp.1,hp.2.1,a_F⟩
 ·rw [List.getElem?_set_ne (Ne.symm hj)] at e2
  obtain ⟨n1,n3,n2⟩:=h3 j q z e1 e2
  have:q≠ps[i]:=fun w=>by
   have hjl:=(List.getElem?_eq_some_iff.mp e1)
   obtain ⟨hjl,ej⟩:=hjl
   exact hj ((List.getElem_inj hn).mp (ej.trans w))
  exact ⟨n1,n3,by rw [a_E this]; exact n2⟩
section
variable {K:Frag} {H:Hp} {a a1:Addr} {M:List (List Int)} {σ:St} {Q:VK} {b1 b2:Bool}
theorem i_S (hM:MatB b1 b2 K H a M) (hl:M.length<=1000) (ha1:H a1=none) (hQ:∀ H1,Same H H1->MatD H H1 a1 M->Q (.ref a1) H1):c_w (Its K b1 a) (a_R 0) (tEl (tCB (e_c K) (b_O (tVar 0) tNil))) 1 [] σ a1 H Q:=by
 obtain ⟨xs,x1,x2,x3⟩:=hM.walk
 refine h_E xs.length (fun t zs H1=>∃ ps:List Addr,zs=ps.map V.ref/\ps.length=t/\ps.Nodup/\∀ (j:Nat) (p:Addr) (r:List Int),ps[j]?=some p->M[j]?=some r->p≠a1/\H p=none/\H1 p=some (.lst (r.map V.int))) ha1 (by omega) ⟨[],rfl,rfl,List.nodup_nil,fun j p r e=>by simp at e⟩
  (fun i zs H1 ⟨ps,e,l,_⟩=>by rw [e,List.length_map,l]; exact Nat.le_refl _) (fun i zs H1 H2 ⟨ps,e,l,n,q⟩ s=>⟨ps,e,l,n,fun j p r e1 e2=>⟨(q j p r e1 e2).1,(q j p r e1 e2).2.1,s _ _ (q j p r e1 e2).1 (q j p r e1 e2).2.2⟩⟩)
  (fun i H1 hi s=>Its.go (x1.up s) (x:=xs[i]) (by simp [hi])) (fun H1 s=>Its.stop (x1.up s) (Nat.le_refl _)) ?_ ?_
 ·rintro i H1 zs hi s1 ez ⟨ps,rfl,hpl,hnd,hq⟩ ys x H3 hys hy C hC _
  obtain ⟨e1,e2⟩:=Its.yld (x1.up s1) hy
  subst e1
  obtain ⟨p,r,rfl,er,hp⟩:=x3 i x e2
  match ys,hys with
  | [o],_ =>
   refine ⟨⟨[some (.ref p)],rfl,rfl⟩,_,rfl,b2,p,_,rfl,hp.up s1,fun l hl1=>hC _ _ (Same.new hl1) ⟨ps++[l],by simp,by simp [hpl],?_,fun j p' r' e3 e4=>?_⟩⟩
   ·rw [List.nodup_append]
    refine ⟨hnd,by simp,fun z hz w hw=>?_⟩
    rw [List.mem_singleton.mp hw]
    obtain ⟨j,hj,ej⟩:=List.getElem_of_mem hz
    have hjM:j < M.length:=by omega
    exact a_H (hq j z M[j] (by simp [hj,ej]) (by simp [hjM])).2.2 hl1
   ·by_cases hj:j < ps.length
    ·rw [List.getElem?_append_left hj] at e3
     obtain ⟨n1,n3,n2⟩:=hq j p' r' e3 e4
     exact ⟨n1,n3,Same.new hl1 _ _ n2⟩
    ·have ej:j=ps.length:=by have:=(List.getElem?_eq_some_iff.mp e3).1; simp at this; omega
     subst ej
     rw [List.getElem?_append_right (Nat.le_refl _)] at e3
     simp at e3
     subst e3
     rw [hpl,er] at e4
     cases e4
     have hn:H l=none:=by cases w:H l with | none=>rfl | some o=>rw [s1 _ _ w] at hl1; cases hl1
     exact ⟨Ne.symm (a_H ez hl1),hn,a_F⟩
 ·rintro H1 ys s1 e1 ⟨ps,rfl,hpl,hnd,hq⟩
  exact hQ H1 s1 ⟨ps,e1,by omega,hnd,hq⟩
end
noncomputable def isList:Expr->Bool
 | .List _ _=>true
 | _=>false
structure j_x (P:Program) (w:World) (K:Frag) (mg:Str->Option Value) (base:Heap) (k:Nat) (f:Addr) (fd:FuncData) (ps:List Str) (sp:Sp):Prop where
 len:∀ vs H Q E,sp vs H Q E->vs.length=ps.length
 run:∀ (A:Around) (outer:List Env) (s:Shared) (H:Hp) (args:Args) (us:List Value) (vs:List V) (Q:VK) (E:XK) (e:Addr) (C:Value),c_G k A->A.handled=some (.ref e)->H e=some (c_T e C)->Env0 P w K mg base A outer s H->BindsTo s fd args (ps.zip us)->Vals vs us->sp vs H Q E ->
  codeAny (model P w) A (.call (.ref f) args) (CR CX0 outer P w H s Q E) s
section
variable {P:Program} {w:World} {K:Frag} {mg:Str->Option Value} {base:Heap}
theorem Fun.okH {x qual:Str} {st:Stmt} {f:Addr} {fd:FuncData} {N ps:List Str} {k:Nat} {sp:Sp} (F:Fun K x qual st f fd) (S:a_Q N ps (a_G st)) (len:∀ vs H Q E,sp vs H Q E->vs.length=ps.length)
  (hbody:∀ (cdv:Value) (A:Around) (outer:List Env) (s:Shared) (H:Hp) (vs:List V) (Q:VK) (E:XK) (e:Addr) (C:Value),A.handled=some (.ref e)->H e=some (c_T e C)->c_G k (A.deeper (envOfC qual (a_G st) s.heap.objs.size f cdv))->sp vs H Q E ->
   ∃ t,PSs (cxA P w K mg base N qual (a_G st) f cdv A outer s H E) (c_j st) t/\t { nx:=fun _ H'=>Q .non H',rt:=Q } (start N vs) H):j_x P w K mg base (k+1) f fd ps sp:=by
 obtain ⟨oc,od,kV,doc,pm,an,cdv,ct,osl,rfl,lk,hcd⟩:=F.ex
 refine ⟨len,fun A outer s H args us vs Q E e C hr hh he e0 hb r hsp=>?_⟩
 have hl:=len _ _ _ _ hsp
 have kp:∀ b o,base.get? b=some o->s.heap.get? b=some o:=fun b o e=>(e0.bs b o e).1
 have hkind:∀ y∈ps.zip us,(a_G st).names.lookup y.1=some .local\/((a_G st).names.lookup y.1=some .cell/\((cellsFrom (s.heap.objs.size+1) (a_G st).names []).lookup y.1).isSome=true):=fun ⟨n,v⟩ hy=>by
  rcases S.par n (List.of_mem_zip hy).1 with q | q
  ·exact .inl q
  ·exact .inr ⟨q,PySem.W.cellsFrom_some _ _ _ (.inl q)⟩
 refine codeAny_call_function (by have:=hr.dp; omega) (e0.mod.kin.keeps kp _ _ lk) rfl S.co S.gen rfl (PySem.W.codeRec_of (e0.mod.kin.keeps kp) hcd) (hb _ _ _ _ ?_)
 refine wpAny_newFunctionEnv_cells S.kind hkind fun env henv s1 x=>?_
 subst henv
 refine ⟨(e0.mod.nolimit.keeps kp).keeps x.toInCall.keep,codeAny_func ?_⟩
 obtain ⟨t,ht,hq⟩:=hbody cdv A outer s H vs Q E e C hh he (hr.deeper _) hsp
 have I0:Inv (cxOf CX0 P w K mg base N qual (a_G st) f cdv { A with handled:=none } outer s H E) [] (start N vs) H s1 :=
  g_T S rfl (⟨e0.frames,e0.mod,e0.bs,e0.bsz,e0.funs,e0.frf,e0.hok,e0.bare⟩:Env0 P w K mg base { A with handled:=none } outer s H) hl r x
 have I:Inv (cxA P w K mg base N qual (a_G st) f cdv A outer s H E) [] (start N vs) H s1 :=
  ⟨⟨I0.ok.mod,I0.ok.kind,I0.ok.glob,I0.ok.blt,I0.ok.above,I0.ok.inj,I0.ok.has,I0.ok.cab,(fun z=>by cases z),Around.frames_deeper e0.frames,I0.ok.stk,I0.ok.exf,I0.ok.bs,I0.ok.bsz,I0.ok.noex,I0.ok.exfs,I0.ok.funs,I0.ok.frf⟩,
   I0.os,I0.bare,I0.base,I0.loc,I0.cell,I0.free,I0.freeC,I0.pin,I0.hok,I0.len⟩
 refine wpAny_mono (ht [] s1 (start N vs) H _ I hq) (fun fl s' hs=>?_) fun _ _ z=>z.elim
 cases fl with
 | ret u=>obtain ⟨v,σ',H',J,rv,q⟩:=hs; exact ⟨v,H',J.os,J.bare,J.base,J.hok,rv,q⟩
 | next=>obtain ⟨σ',H',J,q⟩:=hs; exact ⟨.non,H',J.os,J.bare,J.base,J.hok,rfl,q⟩
 | brk=>obtain ⟨_,_,_,q⟩:=hs; exact q.elim
 | cont=>obtain ⟨_,_,_,q⟩:=hs; exact q.elim
end
section
variable {X:Cx} {k:Nat} {f:Addr} {fd:FuncData} {ps:List Str} {sp:Sp} {dvs:List V} {ds:List Value} {x:Str} {p pos:Pos} {e:Expr} {es:List Expr} {t:TA} {ea:Addr}
noncomputable def i_T (ea:Addr) (sp:Sp) (dvs:List V) (t:TA):TE:=fun σ H Q=>t σ H fun vs H1=>(∃ C,H1 ea=some (c_T ea C))/\sp (vs++dvs) H1 Q E0
theorem l_h (F:j_x X.prog X.w X.K X.mg X.base k f fd ps sp) (hr:c_G k X.A) (hh:X.A.handled=some (.ref ea)) (hg:Gl X x) (hm:X.mg x=some (.ref f)) (hk:PySem.W.keepIn X.K (.ref f)=true) (hb:a_Z X.K fd ps ds) (hd:Vals dvs ds)
  (ha:PA X (e :: es) t) (hdb:(x == ("__debug__" : Str))=false:=by decide) (he:starEach (e :: es) X.env=(false,eval e X.env) :: starEach es X.env:=by rfl) (hpl:(backTo pos (starEach es X.env)).any (·.1)=false:=by rfl) :
  PE X (.Call (.Name x p) (e :: es) [] pos) (i_T ea sp dvs t):=by
 intro pins s σ H Q I h
 refine wpAny_Call_Name_kw (c_R I hg hm ?_ hdb)
 refine PySem.W.callWith_K (h₀:=X.base) I.ok.mod.kin hk (thn (ha pos pins s σ H _ I h) fun us s1 ⟨vs,H1,I1,r,⟨C,hC⟩,q⟩=>⟨I1.kIn,?_⟩) he hpl
 have r2:Vals (vs++dvs) (us++ds):=r.append hd
 have hl:(us++ds).length=ps.length:=by rw [← r2.length]; exact F.len _ _ _ _ q
 refine wpAny_call (codeAny_mono (F.run X.A X.stack s1 H1 ⟨us,[]⟩ (us++ds) (vs++dvs) Q E0 ea C hr hh hC I1.env0 (hb s1 us I1.kIn hl) r2 q) fun r s' hq=>?_)
 cases r with
 | error e=>exact False.elim hq
 | ok fl =>
  cases fl with
  | ret u=>exact I1.after hq
  | next=>exact False.elim hq
  | brk=>exact False.elim hq
  | cont=>exact False.elim hq
end
noncomputable def j_y (K:Frag) (ea:Addr) (tl:TE) (g:TG) (tb:TS):TS:=fun D σ H=>tl σ H fun v H1=>∃ a,v=.ref a/\(∃ xs,SqL K H1 a xs)/\∃ W:Nat->Nat->St->Hp->Prop,(∃ m,W 0 m σ H1)/\∀ i m σ H,W i m σ H ->
 ((Itl K a).stop i H/\(∃ C,H ea=some (c_T ea C))/\D.nx σ H)\/((Itl K a).go i H/\∃ N:St->Hp->Prop,(∀ σ' H',N σ' H'->∃ m',m' < m/\W (i+1) m' σ' H')/\∀ x H',(Itl K a).yld i H x H'->g x σ H' fun σ2 H2=>tb { D with nx:=N,ct:=N,bk:=D.nx } σ2 H2)
section
variable {X:Cx} {tg:Expr} {ea:Addr}
theorem h_F {iter:Expr} {body:List Stmt} {tl:TE} {g:TG} {tb:TS} {pos:Pos} (hp:PassesOwn (model X.prog X.w) X.A X.env X.xe) (hh:X.A.handled=some (.ref ea)) (hi:PE X iter tl) (hg:PG X tg g) (hb:PSs X body tb)
  (hs:∀ x,foldedSetIterable iter X.env x=pure x:=by intro _; rfl):PS X (.For tg iter body [] pos) (j_y X.K ea tl g tb):=by
 intro pins s σ H D I h
 refine wpAny_For (thn (hi pins s σ H _ I h) fun v s1 ⟨v1,H1,I1,r1,q1⟩=>?_) hs
 obtain ⟨a,e,⟨xs,hq⟩,W,⟨m0,w0⟩,turn⟩:=q1
 subst e
 cases r1
 obtain ⟨its,rv,p,hz⟩:=I1.list hq
 refine wpAny_pyIter_list p.isList ?_
 generalize hit:s1.heap.objs.size=it
 have I2:Inv X pins σ H1 { s1 with heap:=s1.heap.push { cls:=.type "list_iterator",data:=.fields #[.ref a,.int 0 0] } }:=I1.kept (t':=s1.toks) fun b o e=>Heap.get?_push_of_some _ e
 have st2:(s1.heap.push { cls:=.type "list_iterator",data:=.fields #[.ref a,.int 0 0] }).IsListIter it a 0:=⟨_,by rw [← hit]; exact Heap.get?_push_size _ rfl,rfl,rfl⟩
 have f2:FpOk X pins H1 it:=by rw [← hit]; exact I1.fpOk (Nat.le_refl _) (I1.hok.fresh (Nat.le_refl _))
 have stat:∀ {H':Hp},H' it=none->FpOk X pins H' it:=fun hn=>⟨hn,f2.2⟩
 refine codeAny_forLoop_any (fun n s'=>∃ i σ' H',Inv X pins σ' H' s'/\s'.heap.IsListIter it a i/\H' it=none/\W i n σ' H') ?_ m0 ⟨0,σ,H1,I2,st2,f2.1,w0⟩
 rintro n s3 ⟨i,σ3,H3,I3,st3,fr3,w3⟩
 obtain ⟨f0,f1,_,f3,f4,f5⟩:=stat fr3
 rcases turn i n σ3 H3 w3 with ⟨⟨ys,hy,hlen⟩,⟨C,hC⟩,qn⟩ | ⟨⟨ys,y,hy,hyi⟩,N,hN,step⟩
 ·obtain ⟨it3,rv3,p3,_⟩:=I3.list hy
  obtain ⟨⟨oe,g1,_,vs,gd,g2⟩,_,_⟩:=(show b_B X.prog X.w H3 s3.heap _ (c_T _ _) from I3.hok _ _ hC)
  have hl:=rv3.length
  have ne:ea≠it:=fun z=>by rw [z,fr3] at hC; cases hC
  refine wpAny_passesOwn hp (g_K hh g1 gd g2 ne st3 p3.isList (by simp; omega) fun h' eb=>?_)
  exact wpAny_execs_nil ⟨σ3,H3,I3.turned (t':=s3.toks) (fun b o hb e=>eb b o hb e) f0 f1 f3 f4 f5,qn⟩
 ·obtain ⟨it3,rv3,p3,_⟩:=I3.list hy
  obtain ⟨u,hu,ru⟩:=rv3.get hyi
  refine wpAny_passesOwn hp (wpAny_pyNext_list_item st3 p3.isList (x:=u) (by simpa using hu) fun h' st4 sb=>?_)
  have I4:Inv X pins σ3 H3 { s3 with heap:=h' }:=I3.turned (t':=s3.toks) (fun b o hb e=>(sb.2 b hb).trans e) f0 f1 f3 f4 f5
  obtain ⟨o4,e4,c4,d4⟩:=id st4
  refine wpAny_passesOwn hp (h_T (s:={ s3 with heap:=h' }) e4 c4 d4 (by decide) ?_)
  have I5:Inv X (pins++[(it,o4)]) σ3 H3 { s3 with heap:=h' }:=I4.pins_of fun p hp=>(List.mem_append.mp hp).elim (fun z=>I4.pin p (List.mem_append_right _ z)) fun z=>by
   have z':p=(it,o4):=by simpa using z
   subst z'
   obtain ⟨q0,q1,q2,_⟩:=stat fr3
   exact ⟨e4,q0,q1,q2,fun v z=>by rw [d4] at z; cases z⟩
  refine wpAny_passesOwn hp (thn (hg _ _ σ3 H3 y u _ I5 ru (step y H3 ⟨rfl,fun zs hz=>by rw [I3.list_inj hz hy]; exact hyi⟩)) fun _ s6 ⟨σ6,H6,I6,q6⟩=>?_)
  refine wpAny_passesOwn hp (thn (hb _ s6 σ6 H6 _ I6 q6) fun f s7 q7=>?_)
  have again:∀ {σ7:St} {H7:Hp},Inv X (pins++[(it,o4)]) σ7 H7 s7->N σ7 H7->∃ m,m < n/\∃ i σ' H',Inv X pins σ' H' s7/\s7.heap.IsListIter it a i/\H' it=none/\W i m σ' H':=fun {σ7 H7} I7 n7=>by
   obtain ⟨m',hm,w7⟩:=hN σ7 H7 n7
   have pn:=I7.pin (it,o4) (List.mem_append_right _ (List.mem_append_right _ (by simp)))
   exact ⟨m',hm,i+1,σ7,H7,I7.unpinned,⟨o4,pn.1,c4,d4⟩,pn.2.1,w7⟩
  cases f with
  | next=>obtain ⟨σ7,H7,I7,n7⟩:=q7; exact again I7 n7
  | cont=>obtain ⟨σ7,H7,I7,n7⟩:=q7; exact again I7 n7
  | brk=>obtain ⟨σ7,H7,I7,q7⟩:=q7; exact ⟨σ7,H7,I7.unpinned,q7⟩
  | ret v=>obtain ⟨x7,σ7,H7,I7,r7,q7⟩:=q7; exact ⟨x7,σ7,H7,I7.unpinned,r7,q7⟩
end
open Builtin Builtin.Str
noncomputable def j_z (K:Frag) (f:Addr):Option (Addr × Addr):=match K.lookup f with
 | some ⟨_,_,.func fd,_⟩=>(match fd.code with
  | .ref c=>(match K.lookup c with
   | some ⟨_,_,.fields vs,_⟩=>(match (vs[11]?:Option Value) with
    | some (.ref P)=>some (c,P)
    | _=>none)
   | _=>none)
  | _=>none)
 | _=>none
noncomputable def tabC (K:Frag) (f:Addr):Addr:=match j_z K f with
 | some q=>q.1
 | none=>0
noncomputable def tabP (K:Frag) (f:Addr):Addr:=match j_z K f with
 | some q=>q.2
 | none=>0
noncomputable def tabOk (K:Frag) (f:Addr):Bool:=(j_z K f).isSome && PySem.W.codeHdIn K (tabC K f) (tabP K f) && (K.lookup (tabP K f)).isNone
theorem i_e {K:Frag} {f:Addr} {oc:Value} {od:Option Addr} {fd:FuncData} {osl:Array (Option Value)} (h:tabOk K f=true) (l:K.lookup f=some ⟨oc,od,.func fd,osl⟩):fd.code=.ref (tabC K f):=by
 unfold tabOk at h
 simp only [Bool.and_eq_true] at h
 have h1:=h.1.1
 unfold tabC
 unfold j_z at h1 ⊢
 rw [l] at h1 ⊢
 dsimp only at h1 ⊢
 split at h1
 ·rename_i c hc
  rw [hc]
  try dsimp only
  split at h1
  ·rename_i vs _ hv
   try rw [hv]
   try dsimp only
   split at h1
   ·rename_i P hP
    try rw [hP]
    rfl
   ·simp at h1
  ·simp at h1
 ·simp at h1
theorem l_i {K:Frag} {f:Addr} {h:Heap} (e:tabOk K f=true) (X:K.In h):PySem.W.CodeHd h (tabC K f) (tabP K f):=by
 unfold tabOk at e
 simp only [Bool.and_eq_true] at e
 exact PySem.W.codeHd_of_K X e.1.2
theorem l_j {K:Frag} {f:Addr} (e:tabOk K f=true):K.lookup (tabP K f)=none:=by
 unfold tabOk at e
 simp only [Bool.and_eq_true] at e
 exact Option.isNone_iff_eq_none.mp e.2
noncomputable def f_R (mg:Str->Option Value) (h:Heap):Prop:=∃ bm ob,mg "__builtins__" = some (.ref bm)/\bm≠builtinsNs/\h.get? bm=some ob/\ob.cls=.type "module" /\ ob.dict=some builtinsNs/\ob.data=.plain
noncomputable def c_a (c:Addr) (qual:Str):HO:=.ext fun h=>h.CodeRec (.ref c) qual
noncomputable def lamO (f c:Addr) (qual:Str) (params:Arguments) (body:Expr) (scope:Scope) (cl:List (Str × Addr)) (pm ctv:Value):HO :=
 .ext fun h=>h.get? f=some (PySem.W.kla_obj "<lambda>" qual params body scope cl pm c ctv)
noncomputable def c_t (H:Hp) (P:Addr) (pos:Pos) (qual:Str):Prop:=H P=some (.tbl #[])\/∃ c,H P=some (.tbl #[rawInt pos.line,rawInt pos.col,.ref c])/\H c=some (c_a c qual)
noncomputable def d_C (P:Addr) (H H':Hp):Prop:=∀ b o,b≠P->H b=some o->H' b=some o
section
variable {X:Cx} {scope:Scope} {x:Str} {fr:List (Str × Nat)}
noncomputable def tLam (P:Addr) (pos:Pos) (qual:Str) (params:Arguments) (body:Expr) (scope:Scope) (cl:List (Str × Addr)):TE:=fun _ H Q=>c_t H P pos qual /\
 ∀ f c pm ctv H',d_C P H H'->H f=none->H' f=some (lamO f c qual params body scope cl pm ctv)->H' c=some (c_a c qual)->H' P=some (.tbl #[rawInt pos.line,rawInt pos.col,.ref c])->Q (.ref f) H'
theorem l_k {P:Program} {w:World} {H:Hp} {h:Heap} {c:Addr} {q:Str} (r:h.CodeRec (.ref c) q):b_B P w H h c (c_a c q):=by
 refine ⟨r,?_,fun h1 h2 r1 k=>?_⟩
 ·obtain ⟨c',o,_,_,e,ho,_⟩:=r
  cases e
  exact ⟨o,ho⟩
 ·obtain ⟨c',o,vs,t,e,ho,r'⟩:=r1
  cases e
  exact ⟨c,o,vs,t,rfl,k o ho,r'⟩
theorem f_C {P:Program} {w:World} {H:Hp} {h:Heap} {c:Addr} {q:Str} (r:b_B P w H h c (c_a c q)):h.CodeRec (.ref c) q:=r.1
theorem j_A {P:Program} {w:World} {H:Hp} {h:Heap} {f c:Addr} {qual:Str} {params:Arguments} {body:Expr} {scope:Scope} {cl:List (Str × Addr)} {pm ctv:Value} (r:h.get? f=some (PySem.W.kla_obj "<lambda>" qual params body scope cl pm c ctv)) :
  b_B P w H h f (lamO f c qual params body scope cl pm ctv):=⟨r,⟨_,r⟩,fun _ _ r1 k=>k _ r1⟩
theorem i_U {params:Arguments} {body:Expr} {pos:Pos} {f0:Addr} {qual:Str} (k:d_y X scope x fr) (tb:tabOk X.K f0=true) (hcode:X.env.code=.ref (tabC X.K f0)) (hB:f_R X.mg X.base)
  (hdef:defaultsOf params X.env=([],[]):=by rfl) (hq:X.env.qual ++ "<lambda>" = qual:=by rfl) :
  PE X (.Lambda params body scope pos) (tLam (tabP X.K f0) pos qual params body scope (clOf X.env scope.names [])):=by
 subst hq
 rintro pins s σ H Q I ⟨ht,h⟩
 have hC:PySem.W.CodeHd X.base (tabC X.K f0) (tabP X.K f0):=l_i tb I.ok.mod.kin
 generalize tabC X.K f0=c at *
 generalize tabP X.K f0=P at *
 refine PySem.W.kla_eval hdef ?_
 have hcl:=e_B (k.cells I)
 have hg:s.heap.Ns mainGlobals X.mg:=by
  obtain ⟨o,es,ep,e,r⟩:=I.mod.glob
  exact ⟨o,es,ep,I.bk _ _ e,r⟩
 have hC':=hC.keeps I.bk
 have free_of:∀ {b:Addr} {o:Obj},X.base.get? b=some o->H b=none:=fun e=>(I.bs _ _ e).2
 have tab:∀ {ps:Array Value},H P=some (.tbl ps)->s.heap.get? P=some (PySem.W.tabObj ps):=fun e=>I.hok P _ e
 have neP:∀ {ps:Array Value} {b:Addr} {o:Obj},H P=some (.tbl ps)->X.base.get? b=some o->b≠P:=fun e eb z=>by
  have:=free_of eb
  rw [z,e] at this; cases this
 have hbm:∀ {ps:Array Value},H P=some (.tbl ps)->s.heap.BuiltinsAt X.mg P:=fun e=>by
  obtain ⟨bm,ob,b1,b2,b3,b4,b5,b6⟩:=hB
  refine ⟨bm,ob,b1,b2,fun z=>?_,neP e b3,I.bk _ _ b3,b4,b5,b6⟩
  obtain ⟨o,es,ep,e',hd,_⟩:=I.mod.glob
  rw [z,e'] at b3; cases b3; rw [hd] at b6; cases b6
 rcases ht with e | ⟨c',e,ec⟩
 ·obtain ⟨om,es,ep,em,_⟩:=I.mod.glob
  refine PySem.W.kla_makeFunction (mg:=X.mg) hcl I.ok.glob hg hcode hC' (tab e) trivial rfl (neP e em) (hbm e) fun c' ctv h' tk hx hge hlt hrec htb=>?_
  have htb':h'.get? P=some (PySem.W.tabObj #[rawInt pos.line,rawInt pos.col,.ref c']):=by simpa using htb
  have hPs:P < s.heap.objs.size:=Heap.lt_size (tab e)
  have hle:s.heap.objs.size<=h'.objs.size:=Nat.le_trans hge (Nat.le_of_lt hlt)
  have ecP:c'≠P:=Nat.ne_of_gt (Nat.lt_of_lt_of_le hPs hge)
  have efP:h'.objs.size≠P:=Nat.ne_of_gt (Nat.lt_of_lt_of_le hPs hle)
  have efc:h'.objs.size≠c':=Nat.ne_of_gt hlt
  have hfc:H c'=none:=I.hok.fresh hge
  have hff:H h'.objs.size=none:=I.hok.fresh hle
  generalize hfo:PySem.W.kla_obj "<lambda>" (X.env.qual ++ "<lambda>") params body scope (clOf X.env scope.names []) ((X.mg "__name__").getD .none) c' ctv=fo
  have keep:∀ b o,b≠P->s.heap.get? b=some o->(h'.push fo).get? b=some o:=fun b o hb q=>Heap.get?_push_of_some _ (hx b o hb q)
  have e1:(h'.push fo).get? P=some (PySem.W.tabObj #[rawInt pos.line,rawInt pos.col,.ref c']):=Heap.get?_push_of_some _ htb'
  refine ⟨.ref h'.objs.size,upd (upd (upd H P (.tbl #[rawInt pos.line,rawInt pos.col,.ref c'])) c' (c_a c' (X.env.qual ++ "<lambda>"))) h'.objs.size
   (lamO h'.objs.size c' (X.env.qual ++ "<lambda>") params body scope (clOf X.env scope.names []) ((X.mg "__name__").getD .none) ctv),?_,rfl,h _ c' _ _ _ ?_ hff a_F ?_ ?_⟩
  ·refine I.un (h':=h'.push fo) (t':=tk) ⟨fun b o q n _ _=>keep b o (fun z=>by rw [z,e] at n; cases n) q,fun b o q n _ _=>⟨o.slots,keep b o (fun z=>by rw [z,e] at n; cases n) q⟩,fun b o q n _=>?_,fun b o q _=>?_,fun b xs q=>?_,fun b o u q=>?_,fun b ps q=>?_⟩ fun b o q=>?_
   ·have l:=Heap.lt_size q
    rw [a_E (Nat.ne_of_lt (Nat.lt_of_lt_of_le l hle)),a_E (Nat.ne_of_lt (Nat.lt_of_lt_of_le l hge)),a_E (fun z=>by rw [z,e] at n; cases n)]
    exact n
   ·by_cases hb:b=P
    ·rw [hb]; exact ⟨_,e1⟩
    ·exact ⟨o,keep b o hb q⟩
   ·rw [a_E (a_H q hff),a_E (a_H q hfc),a_E (fun z=>by rw [z,e] at q; cases q)]; exact q
   ·rw [a_E (a_H q hff),a_E (a_H q hfc),a_E (fun z=>by rw [z,e] at q; cases q)]; exact q
   ·rw [a_E (a_H q hff),a_E (a_H q hfc)]
    by_cases hb:b=P
    ·rw [hb,a_F]
     rw [hb,e] at q
     cases q
     exact ⟨#[rawInt pos.line,rawInt pos.col,.ref c'],by simp⟩
    ·rw [a_E hb,q]; exact ⟨#[],by simp⟩
   ·by_cases b1:b=h'.objs.size
    ·subst b1
     rw [a_F] at q
     cases q
     exact j_A (pm:=(X.mg "__name__").getD .none) (ctv:=ctv) (by rw [hfo]; exact Heap.get?_push_size _ (by rw [← hfo]; rfl))
    ·rw [a_E b1] at q
     by_cases b2:b=c'
     ·subst b2
      rw [a_F] at q
      cases q
      exact l_k (hrec.push _)
     ·rw [a_E b2] at q
      by_cases b3:b=P
      ·subst b3
       rw [a_F] at q
       cases q
       exact e1
      ·rw [a_E b3] at q
       refine (I.hok b o q).stay (fun c2 v hc2 q2=>keep c2 v (fun z=>?_) q2) (fun c2 q2=>?_) (fun c2 xs q2=>?_)
       ·rcases hc2 with z2 | z2
        ·exact b3 (z2.symm.trans z)
        ·rw [z,e] at z2; cases z2
       all_goals (rw [a_E (a_H q2 hff),a_E (a_H q2 hfc),a_E (fun z=>by rw [z,e] at q2; cases q2)]; exact q2)
  ·intro b o hb q
   rw [a_E (a_H q hff),a_E (a_H q hfc),a_E hb]; exact q
  ·rw [a_E (Ne.symm efc),a_F]
  ·rw [a_E (Ne.symm efP),a_E (Ne.symm ecP),a_F]
 ·have hrec:=f_C (I.hok c' _ ec)
  refine PySem.W.kla_makeFunctionHit (mg:=X.mg) (cv:=.ref c') hcl I.ok.glob hg hcode hC' (tab e) (by unfold rawInt; exact trivial) (by simp [codeAmong,rawInt]) (hbm e) fun ctv h' tk hk hsz=>?_
  have hff:H h'.objs.size=none:=I.hok.fresh hsz
  refine ⟨.ref h'.objs.size,upd H h'.objs.size (lamO h'.objs.size c' (X.env.qual ++ "<lambda>") params body scope (clOf X.env scope.names []) ((X.mg "__name__").getD .none) ctv),?_,rfl,h _ c' _ _ _ (fun b o _ q=>?_) hff a_F ?_ ?_⟩
  ·exact I.laid (fun b o q=>Heap.get?_push_of_some _ (hk b o q)) hsz (j_A (Heap.get?_push_size _ rfl))
  ·rw [a_E (a_H q hff)]; exact q
  ·rw [a_E (a_H ec hff)]; exact ec
  ·rw [a_E (a_H e hff)]; exact e
end
noncomputable def i_f (X:Cx) (A:Around) (qual:Str) (scope:Scope) (N:List Str) (f:Addr) (cd:Value) (s:Shared) (H:Hp):Cx :=
 { X with
  A:=A.deeper (PySem.W.envX qual scope s.heap.objs.size f cd (clOf X.env scope.names []))
  N:=N
  s₀:=s
  H₀:=H
  env:=PySem.W.envX qual scope s.heap.objs.size f cd (clOf X.env scope.names [])
  outer:=X.stack
  stack:=PySem.W.envX qual scope s.heap.objs.size f cd (clOf X.env scope.names []) :: X.stack
  ex:=[]
  fn:=fun _=>false
  pn:=[]
  xe:=fun _ _=>False }
section
variable {X:Cx} {scope:Scope} {x:Str} {fr:List (Str × Nat)}
theorem k_h {pins:List (Addr × Obj)} {σ:St} {H:Hp} {s:Shared} {h₁:Heap} {tk:Nat} {A:Around} {qual:Str} {f:Addr} {cd:Value} {v:V} {u:Value} (c:d_y X scope x fr) (I:Inv X pins σ H s)
  (hA:A.handled=X.A.handled) (hF:A.frames=some X.stack) (r:RelV v u)
  (hn:h₁.Ns s.heap.objs.size (fun y=>[(x,u)].lookup y)) (k:∀ b o,s.heap.get? b=some o->h₁.get? b=some o) :
  Inv (i_f X A qual scope (x :: fr.map (·.1)) f cd s H) [] (some v :: b_X fr σ) H { s with heap:=h₁,toks:=tk }:=by
 have I4:Inv X pins σ H { s with heap:=h₁,toks:=tk }:=I.kept k
 have noA:∀ b:Addr,b ∉ (i_f X A qual scope (x :: fr.map (·.1)) f cd s H).ex:=fun b z=>absurd (show b∈([]:List Addr) from z) (by simp)
 have hmem:∀ y,(scope.names.lookup y=some NameKind.cell\/scope.names.lookup y=some NameKind.free)->(y,NameKind.free)∈scope.names:=fun y hy=>by
  rcases hy with hy | hy
  ·exact absurd rfl (c.cell _ (PySem.mem_of_lookup hy))
  ·exact PySem.mem_of_lookup hy
 refine ⟨⟨I.ok.mod,c.kind,rfl,rfl,Nat.le_refl _,fun y z b h1 h2=>?_,fun y hy=>?_,fun y b h0=>(by cases h0),fun hc=>?_,Around.frames_deeper hF,.inr ⟨rfl,rfl⟩,fun b z=>absurd z (noA b),fun b o e=>?_,?_,fun b _ _=>noA b,fun b z=>absurd z (noA b),?_,fun b hb=>?_⟩,
  rfl,I.bare,Un.kept k,⟨_,hn,fun i y v' h1 h2 h3=>?_⟩,fun y b h=>?_,?_,fun y b h=>?_,fun p hp=>absurd (show p∈([]:List (Addr × Obj)) from hp) (by simp),I4.hok,?_⟩
 ·exact I.ok.inj y z b (c.was I h1) (c.was I h2)
 ·exact d_Y (.inl (hmem y hy))
 ·have:=I.ok.hd hc
  rw [← hA] at this
  exact this
 ·exact I.bs b o e
 ·exact Nat.le_trans I.ok.bsz I.sz
 ·exact I.stack
 ·exact I.stkFree b hb
 ·cases i with
  | zero =>
   have h1':some x=some y:=h1
   cases h1'
   have h2':some (some v)=some (some v'):=h2
   cases h2'
   exact ⟨u,r,.inl ⟨c.name,by show [(x,u)].lookup x=some u; simp⟩⟩
  | succ j =>
   have h1':(fr.map (·.1))[j]?=some y:=h1
   have h2':(b_X fr σ)[j]?=some (some v'):=h2
   rw [List.getElem?_map] at h1'
   unfold b_X at h2'
   rw [List.getElem?_map] at h2'
   cases e:fr[j]? with
   | none=>rw [e] at h1'; cases h1'
   | some p =>
    rw [e] at h1' h2'
    have e1:p.1=y:=Option.some.inj h1'
    have e2:σ.getD p.2 none=some v':=Option.some.inj h2'
    obtain ⟨n1,n2⟩:=c.fr p (List.mem_of_getElem? e)
    have e3:σ[p.2]?=some (some v'):=by
     rw [List.getD_eq_getElem?_getD] at e2
     cases q:σ[p.2]? with
     | none=>rw [q] at e2; cases e2
     | some o=>rw [q] at e2; have e2':o=some v':=e2; rw [e2']
    subst e1
    have hm:(p.1,NameKind.free)∈scope.names:=PySem.mem_of_lookup n2
    have kd:=c.free _ hm rfl
    obtain ⟨m',_,hl⟩:=I4.loc
    obtain ⟨u',ru,lk⟩:=hl p.2 p.1 v' n1 e3 (.inr kd)
    refine ⟨u',ru,.inr ⟨.inr n2,?_⟩⟩
    rcases lk with ⟨k1,_⟩ | ⟨_,b,q,z⟩
    ·rcases kd with kd | kd <;> (rw [kd] at k1; cases k1)
    ·obtain ⟨b',q'⟩:=d_Y (env:=X.env) (l:=scope.names) (cs:=[]) (.inl hm)
     have e4:=c.was I q'
     rw [q] at e4
     cases e4
     exact ⟨b,q',z⟩
 ·exact I4.cell y b (c.was I h)
 ·exact I.hok.fresh (Nat.le_refl _)
 ·exact I4.freeC y b (c.was I h)
 ·show (some v :: b_X fr σ).length=(x :: fr.map (·.1)).length
  simp [b_X]
structure i_g (params:Arguments) (scope:Scope) (x:Str):Prop where
 co:scope.isCoroutine=false
 gen:scope.isGenerator=false
 bind:∀ (name qual:Str) (body:Expr) (cl:List (Str × Addr)) (pm cdv ct u:Value),bindArgs (PySem.W.kla_fn name qual params body scope cl pm cdv ct) ⟨[u],[]⟩=pure [(x,u)]
theorem j_B {pins:List (Addr × Obj)} {σ:St} {H:Hp} {s:Shared} {A:Around} {qual:Str} {params:Arguments} {body:Expr} {f c':Addr} {v:V} {u:Value} {te:TE} {Q:VK} {pm ctv:Value} {E:Value->Shared->Prop} (c:d_y X scope x fr) (L:i_g params scope x)
  (I:Inv X pins σ H s) (hA:A.handled=X.A.handled) (hF:A.frames=some X.stack) (hd:A.depth < recursionLimit) (r:RelV v u)
  (ef:H f=some (lamO f c' qual params body scope (clOf X.env scope.names []) pm ctv)) (ec:H c'=some (c_a c' qual))
  (he:∀ (s:Shared) (H:Hp),PE (i_f X A qual scope (x :: fr.map (·.1)) f (.ref c') s H) body te) (h:te (some v :: b_X fr σ) H Q) :
  wpAny (model X.prog X.w) A (call (.ref f) [u]) (EP X pins σ Q) E s:=by
 obtain ⟨lf,_⟩:=(show b_B X.prog X.w H s.heap f (lamO f c' qual params body scope (clOf X.env scope.names []) pm ctv) from I.hok f _ ef)
 have hrec:=f_C (I.hok c' _ ec)
 refine wpAny_call ?_
 refine PySem.W.kla_callFunE (fd:=PySem.W.kla_fn "<lambda>" qual params body scope (clOf X.env scope.names []) pm (.ref c') ctv) hd lf rfl L.co L.gen rfl hrec ?_
 rw [L.bind]
 refine wpAny_pure (wpAny_newFunctionEnv c.cell (fun y hy=>?_) (fun h₁ hns hsb=>⟨?_,?_⟩) c.kind)
 ·rw [List.mem_singleton.mp hy]; exact c.name
 ·exact (I.nolimit).fresh _ hsb
 ·have hk₁:∀ b o,s.heap.get? b=some o->h₁.get? b=some o:=fun b o e=>hsb.extBut b o (Nat.ne_of_lt (Heap.lt_size e)) (Heap.get?_push_of_some _ e)
  have J:=k_h (A:=A) (qual:=qual) (f:=f) (cd:=.ref c') (tk:=s.toks+[(x,u)].length) c I hA hF r hns hk₁
  refine PySem.W.kla_codeExpr (wpAny_mono (he s H [] _ _ _ Q J h) (fun v1 s' hq=>?_) fun e s' z=>z.elim)
  obtain ⟨v2,H2,J2,r2,q2⟩:=hq
  exact I.after ⟨v2,H2,J2.os,J2.bare,J2.base,J2.hok,r2,q2⟩
end
theorem i_V {g:Int->Int} {vs:List Value} {ns:List Int} (hi:IntsAre vs ns) {out:List Value} (ko:KskOut false (ns.map g) vs out):∃ ns':List Int,IntsAre out ns'/\ns'.Perm ns/\ns'.Pairwise (fun a b=>g a<=g b):=by
 have hlen:=hi.length
 obtain ⟨ps,hp,ho,hs⟩:=ko
 have hrel:∀ p,p∈(ns.map g).zip vs->p.1=g (numOf p.2)/\p.2∈vs:=by
  rw [← hi.nums,List.map_map,List.zip_map_left]
  intro p hp
  obtain ⟨⟨u,v⟩,hq,rfl⟩:=List.mem_map.mp hp
  have h1:u=v/\u∈vs:=mem_zip_self hq
  refine ⟨?_,?_⟩
  ·show g (numOf u)=g (numOf v)
   rw [h1.1]
  ·show v∈vs
   rw [← h1.1]
   exact h1.2
 have hI:IntsAre (ps.map Prod.snd) ((ps.map Prod.snd).map numOf):=intsAre_map _ fun v hv=>by
  obtain ⟨p,hp',rfl⟩:=List.mem_map.mp hv
  exact hi.all _ (hrel p (hp.mem_iff.mp hp')).2
 have hP:((ps.map Prod.snd).map numOf).Perm ns:=by
  have h1:=(hp.map Prod.snd).map numOf
  rw [List.map_snd_zip (by rw [List.length_map]; omega),hi.nums] at h1
  exact h1
 have hO:((ps.map Prod.snd).map numOf).Pairwise (fun x y=>g x<=g y):=by
  rw [List.pairwise_map,List.pairwise_map]
  refine hs.imp_of_mem fun {p q} hp' hq' hr=>?_
  have hr':p.1<=q.1:=hr
  rw [(hrel p (hp.mem_iff.mp hp')).1,(hrel q (hp.mem_iff.mp hq')).1] at hr'
  exact hr'
 rw [← ho] at hI hP hO
 exact ⟨_,hI,hP,hO⟩
section
variable {X:Cx} {pins:List (Addr × Obj)} {σ:St} {H:Hp} {s:Shared} {a:Addr} {A:Around} {E:Value->Shared->Prop} {vs:List Value} {ns:List Int} {g:Int->Int} {f:Value} {n0:Nat} {R:Value->Shared->Prop}
theorem k_i (I:Inv X pins σ H s) (fa:FpOk X pins H a) (ho:s.heap.get? a=some (seqObj "list" vs.toArray n0)) (hi:IntsAre vs ns) (h64:ns.length < 64)
  (key:∀ n∈ns,∀ (t:Tok) (pins':List (Addr × Obj)) (H2:Hp) (s2:Shared),Inv X pins' σ H2 s2->Same H H2->wpAny (model X.prog X.w) A (call f [.int n t]) (EP X pins' σ fun v H3=>v=.int (g n)/\H3=H2) (fun _ _=>False) s2)
  (h:∀ (ns':List Int) H' s',Inv X pins σ H' s'->Same H H'->H' a=some (.lst (ns'.map V.int))->ns'.Perm ns->ns'.Pairwise (fun a b=>g a<=g b)->R .none s') :
  wpAny (model X.prog X.w) A (ksk_tree a f false) (fun fin s'=>∃ v,fin=.done (.ret v)/\R v s') E s:=by
 have hlen:=hi.length
 have hvz:vs.length<=sizeLine:=by rw [sizeLine_eq]; omega
 obtain ⟨f0,f1,f2,f3,f4,f5⟩:=fa
 unfold ksk_tree
 refine wpAny_bind (listItems_at ho rfl ?_)
 refine wpAny_bind (listUpdate_at ho rfl ?_ (by rw [List.size_toArray]; exact hvz) (Nat.zero_le _))
 have s1:=Heap.SameBut.update s.heap a (Obj.mapSeq fun _=>(#[]:Array Value))
 obtain ⟨e1,ho1⟩:∃ e1,(s.heap.update a (Obj.mapSeq fun _=>(#[]:Array Value))).get? a=some (seqObj "list" #[] e1):=⟨_,get?_update_seq ho fun _=>#[]⟩
 have I1:Inv X pins σ H { s with heap:=s.heap.update a (Obj.mapSeq fun _=>(#[]:Array Value)),toks:=s.toks }:=I.turned (fun b o hb q=>(s1.2 b hb).trans q) f0 f1 f3 f4 f5
 refine wpAny_bind (seqEpoch_at ho1 rfl ?_)
 refine wpAny_bind (wpAny_newTuple ?_ hvz)
 have I2:Inv X pins σ H { s with heap:=(s.heap.update a (Obj.mapSeq fun _=>(#[]:Array Value))).push (seqObj "tuple" vs.toArray 0),toks:=s.toks }:=I1.kept fun b o q=>Heap.get?_push_of_some _ q
 have ho2:((s.heap.update a (Obj.mapSeq fun _=>(#[]:Array Value))).push (seqObj "tuple" vs.toArray 0)).get? a=some (seqObj "list" #[] e1):=Heap.get?_push_of_some _ ho1
 refine wpAny_bind (wpAny_newList ?_ (Nat.zero_le _))
 have I3:=I2.lnew (ys:=[]) (its:=[]) (t':=s.toks) .nil (Nat.zero_le _)
 have hkn:=I2.fresh
 generalize hh2:(s.heap.update a (Obj.mapSeq fun _=>(#[]:Array Value))).push (seqObj "tuple" vs.toArray 0)=h2 at *
 have ho3:(h2.push (seqObj "list" #[] 0)).get? a=some (seqObj "list" #[] e1):=Heap.get?_push_of_some _ ho2
 have hak:a≠h2.objs.size:=Nat.ne_of_lt (Heap.lt_size ho2)
 have I4:Inv X (pins++[(a,seqObj "list" #[] e1)]) σ (upd H h2.objs.size (.lst [])) { s with heap:=h2.push (seqObj "list" #[] 0),toks:=s.toks }:=I3.pins_of fun p hp=>by
  rcases List.mem_append.mp hp with hp | hp
  ·exact I3.pin p (List.mem_append_right _ hp)
  ·rw [List.mem_singleton.mp hp]
   exact ⟨ho3,by rw [a_E hak]; exact f0,f1,f2,fun v z=>by cases z⟩
 refine wpAny_holding ?_
 unfold ksk_rest
 refine wpAny_bind (wpAny_rule ?_)
 rw [List.forIn_toArray]
 refine wpAny_bind (ksk_fold (fun i s'=>∃ H',Inv X (pins++[(a,seqObj "list" #[] e1)]) σ H' s'/\Same H H'/\H' h2.objs.size=some (.lst (((ns.take i).map g).map V.int))) vs 0 _
  ⟨_,I4,Same.new hkn,by rw [a_F]; rfl⟩ ?step ?done)
 case step =>
  rintro j x s' hx ⟨H',J,sm,hk⟩
  simp only [Nat.zero_add] at hk ⊢
  have hj:j < vs.length:=(List.getElem?_eq_some_iff.mp hx).1
  obtain ⟨n,hn⟩:∃ n,ns[j]?=some n:=⟨_,List.getElem?_eq_getElem (by omega)⟩
  obtain ⟨t,ht⟩:=hi.get j n hn
  rw [ht] at hx
  cases hx
  refine wpAny_bind (wpAny_attempt (wpAny_mono (key n (List.mem_of_getElem? hn) t _ H' s' J sm) (fun v s'' he=>?_) fun _ _ hF=>hF.elim))
  obtain ⟨v',H3,J3,rv,rfl,rfl⟩:=he
  obtain ⟨t2,rfl⟩:=(show ∃ t2,v=Value.int (g n) t2 from rv)
  try dsimp only
  obtain ⟨z3,its,n3,rv3,l3,e3⟩:=J3.lstM hk
  have hz3:its.length<=j:=by rw [← l3,List.length_map,List.length_map,List.length_take]; omega
  refine wpAny_bind (listUpdate_at e3 rfl ?_ (by rw [List.size_toArray,sizeLine_eq]; omega) (by rw [Array.size_push,List.size_toArray,sizeLine_eq]; omega))
  refine wpAny_pure ⟨rfl,_,J3.lset (f:=(·.push (.int (g n) t2))) (its':=its++[.int (g n) t2]) (ys:=((ns.take j).map g).map V.int++[.int (g n)]) hk e3 (by simp) (rv3.append (.cons (show RelV (.int (g n)) (Value.int (g n) t2) from ⟨t2,rfl⟩) .nil)) (by rw [List.length_append,l3,sizeLine_eq]; simp; omega),?_,?_⟩
  ·intro b u q
   by_cases hb:b=h2.objs.size
   ·rw [hb,hkn] at q; cases q
   ·rw [a_E hb]; exact sm b u q
  ·rw [a_F,List.take_add_one,hn]; simp
 case done =>
  rintro s' ⟨H',J,sm,hk⟩
  have ht:ns.take (0+vs.length)=ns:=List.take_of_length_le (by omega)
  rw [ht] at hk
  obtain ⟨z3,its,n3,rv3,l3,e3⟩:=J.lstM hk
  have hK:IntsAre its (ns.map g):=g_j rv3
  have hitl:its.length=vs.length:=by rw [← l3,List.length_map,List.length_map]; omega
  try dsimp only
  refine wpAny_bind (listItems_at e3 rfl ?_)
  have pa:s'.heap.get? a=some (seqObj "list" #[] e1)/\H' a=none:=by
   have:=J.pin (a,seqObj "list" #[] e1) (List.mem_append_right _ (List.mem_append_right _ (.head _)))
   exact ⟨this.1,this.2.1⟩
  have tail:∀ st:SortSt,(arrOf st).Perm (its.toArray.zip vs.toArray)->SortedTo (arrOf st) (arrOf st).size->failedOf st=none ->
    wpAny (model X.prog X.w) A (ksk_tail a false e1 (.ref h2.objs.size) st) (fun fin s'=>∃ v,fin=.done (.ret v)/\R v s') E s':=fun st hp hs hf=>by
   have ko:KskOut false (ns.map g) vs ((arrOf st).map (·.2)).toList:=ksk_out (b:=false) hK hp hs
   obtain ⟨ns',i',p',o'⟩:=i_V hi ko
   have hsz2:((arrOf st).map (·.2)).size=vs.length:=by rw [Array.size_map,hp.size_eq,Array.size_zip,List.size_toArray,List.size_toArray,hitl,Nat.min_self]
   unfold ksk_tail
   try dsimp only
   refine wpAny_bind (listUpdate_at e3 rfl ?_ (by rw [List.size_toArray,hitl]; exact hvz) (Nat.zero_le _))
   have J2:=J.lset (f:=fun _=>#[]) (its':=[]) (ys:=[]) (t':=s'.toks) hk e3 rfl .nil (Nat.zero_le _)
   have sb:=Heap.SameBut.update s'.heap h2.objs.size (Obj.mapSeq fun _=>(#[]:Array Value))
   have pa2:(s'.heap.update h2.objs.size (Obj.mapSeq fun _=>(#[]:Array Value))).get? a=some (seqObj "list" #[] e1):=(sb.2 a hak).trans pa.1
   generalize s'.heap.update h2.objs.size (Obj.mapSeq fun _=>(#[]:Array Value))=h5 at *
   have J3:Inv X pins σ (upd H' h2.objs.size (.lst [])) { s' with heap:=h5,toks:=s'.toks }:=J2.pins_of fun p hp=>J2.pin p (List.mem_append_right _ (List.mem_append_left _ hp))
   have hna:upd H' h2.objs.size (.lst []) a=none:=by rw [a_E hak]; exact pa.2
   have sm2:Same H (upd H' h2.objs.size (.lst [])):=fun b u q=>by
    by_cases hb:b=h2.objs.size
    ·rw [hb,hkn] at q; cases q
    ·rw [a_E hb]; exact sm b u q
   generalize upd H' h2.objs.size (.lst [])=H5 at *
   refine wpAny_bind (wpAny_letGo ?_)
   refine wpAny_bind (seqEpoch_at pa2 rfl ?_)
   refine wpAny_bind (listUpdate_at pa2 rfl ?_ (Nat.zero_le _) (by simp only [Bool.false_eq_true,if_false]; rw [hsz2]; exact Nat.le_succ_of_le hvz))
   rw [hf]
   simp only [bne_self_eq_false,Bool.false_eq_true,if_false]
   have sb2:=Heap.SameBut.update h5 a (Obj.mapSeq fun _=>(arrOf st).map (·.2))
   obtain ⟨c2,hc2⟩:∃ c2,(h5.update a (Obj.mapSeq fun _=>(arrOf st).map (·.2))).get? a=some (seqObj "list" ((arrOf st).map (·.2)) c2):=⟨_,get?_update_seq pa2 fun _=>(arrOf st).map (·.2)⟩
   refine wpAny_pure ⟨_,rfl,h ns' (upd H5 a (.lst (ns'.map V.int))) _ ?_ ?_ a_F p' o'⟩
   ·have nit:∀ b u,H5 b=some u->b≠a:=fun b u e z=>by rw [z,hna] at e; cases e
    refine Inv.step (s:={ s' with heap:=h5,toks:=s'.toks }) (h':=h5.update a (Obj.mapSeq fun _=>(arrOf st).map (·.2))) (H':=upd H5 a (.lst (ns'.map V.int))) (I:=J3) (g':=s'.gens) (d':=s'.drawn) (t':=s'.toks) (ch:=[a]) (fun b hb=>?_) (fun b o _ _ hc e _=>(sb2.2 b (fun z=>hc (by simp [z]))).trans e) (fun b o _ _ hc e _=>⟨o.slots,(sb2.2 b (fun z=>hc (by simp [z]))).trans e⟩)
     (fun b o hc e q=>by rw [a_E (fun z=>hc (by simp [z]))]; exact q) (fun b o hc e=>⟨o,(sb2.2 b (fun z=>hc (by simp [z]))).trans e⟩) (fun b xs e=>by rw [a_E (nit _ _ e)]; exact e) (fun b o u e=>by rw [a_E (nit _ _ e)]; exact e)
     (fun b ps e=>⟨#[],by rw [a_E (nit _ _ e),e]; simp⟩) (fun m hm=>?_) (fun b u e=>?_) J3.bare
    ·have e:b=a:=by simpa using hb
     subst e
     exact ⟨f3,f1,f4,f5⟩
    ·obtain ⟨o,es,ep,ho,r⟩:=hm
     exact ⟨o,es,ep,(sb2.2 _ (Ne.symm f1)).trans ho,r⟩
    ·by_cases hb:b=a
     ·subst hb
      rw [a_F] at e
      cases e
      refine ⟨?_,((arrOf st).map (·.2)).toList,c2,e_q i',by rw [hc2]⟩
      rw [List.length_map,p'.length_eq,sizeLine_eq]; omega
     ·rw [a_E hb] at e
      refine (J3.hok b u e).stay (fun c v hc q=>(sb2.2 c ?_).trans q) (fun c q=>by rw [a_E (nit _ _ q)]; exact q) fun c xs q=>by rw [a_E (nit _ _ q)]; exact q
      rcases hc with z | z
      ·rw [z]; exact hb
      ·exact nit c _ z
   ·intro b u q
    rw [a_E (fun z=>by rw [z,f0] at q; cases q)]
    exact sm2 b u q
  have hzs:(its.toArray.zip vs.toArray).size=vs.length:=by rw [Array.size_zip,List.size_toArray,List.size_toArray,hitl,Nat.min_self]
  unfold ksk_end
  simp only [Bool.false_eq_true,if_false]
  by_cases h2':vs.toArray.size < 2
  ·rw [if_pos h2',if_pos h2']
   refine wpAny_bind (wpAny_pure ?_)
   rw [StateT.run_pure]
   refine wpAny_bind (wpAny_pure ?_)
   try dsimp only
   refine tail _ (Array.Perm.refl _) ?_ rfl
   intro i j hij hj
   have hj2:j < (its.toArray.zip vs.toArray).size:=hj
   rw [hzs] at hj2
   rw [List.size_toArray] at h2'
   have:i=j:=by omega
   subst this
   exact Int.le_refl _
  ·rw [if_neg h2',if_neg h2']
   rw [List.size_toArray] at h2'
   rw [ksk_kind (keys:=its.toArray) (by simpa using hK) (by rw [List.size_toArray]; omega)]
   refine wpAny_bind (wpAny_pure ?_)
   refine wpAny_bind (wpAny_mono (wpS_sortRuns (a₀:=its.toArray.zip vs.toArray) (st:=SortSt.mk' oneType' (its.toArray.zip vs.toArray) #[] 7 none)
    (Q:=fun _ st'=>(arrOf st').Perm (its.toArray.zip vs.toArray)/\failedOf st'=none/\SortedTo (arrOf st') (its.toArray.zip vs.toArray).size)
    (ksk_intKeys (by simpa using hK)) ⟨Array.Perm.refl _,rfl,rfl,rfl⟩ (by rw [hzs]; omega) (by rw [hzs]; omega) fun st' a1 a2 a3=>⟨a1,a2,a3⟩) ?_ fun _ _ e=>e)
   rintro ⟨⟨⟩,st'⟩ s'' ⟨rfl,hp,hf,hs⟩
   try dsimp only
   exact tail st' hp (by rw [hp.size_eq]; exact hs) hf
theorem k_j {l:Addr} {fv:Addr} {Q:VK} (I:Inv X pins σ H s) (hl:SqL X.K H l (ns.map V.int)) (h64:ns.length < 64)
  (key:∀ n∈ns,∀ (t:Tok) (pins':List (Addr × Obj)) (H2:Hp) (s2:Shared),Inv X pins' σ H2 s2->Same H H2->wpAny (model X.prog X.w) X.A.in1.in1 (call (.ref fv) [.int n t]) (EP X pins' σ fun v H3=>v=.int (g n)/\H3=H2) (fun _ _=>False) s2)
  (h:∀ q (ns':List Int) H',Same H H'->H q=none->H' q=some (.lst (ns'.map V.int))->ns'.Perm ns->ns'.Pairwise (fun a b=>g a<=g b)->Q (.ref q) H') :
  wpAny (model X.prog X.w) X.A (call (.builtin "sorted") [.ref l] [(Str.ofString "key",.ref fv)]) (EP X pins σ Q) X.xe s:=by
 obtain ⟨its,rv,⟨o,n0,e,c,_,dd⟩,_⟩:=I.list hl
 have hi:=g_j rv
 have hlen:=hi.length
 have hL:s.heap.IsList l its.toArray:=⟨o,e,c,n0,dd⟩
 refine call_function_entry_kw kind_sorted plain_sorted entry_sorted (ksk_s1 _ _) ?_
 unfold Builtin.«sorted»
 refine wpAny_bind (m:=checkCount "sorted" 1 1 _) (wpAny_pure ?_)
 refine wpAny_bind (collect_list hL ?_ (by rw [sizeLine_eq]; omega))
 refine wpAny_bind (wpAny_newList ?_ (by rw [sizeLine_eq]; omega))
 have hsz:((s.heap.push (seqObj "list" #[] 0)).update s.heap.objs.size (Obj.mapSeq (·++its.toArray))).objs.size=s.heap.objs.size+1:=by
  rw [Heap.size_update,size_push']
 have hoL:(((s.heap.push (seqObj "list" #[] 0)).update s.heap.objs.size (Obj.mapSeq (·++its.toArray))).push (seqObj "list" its.toArray 0)).get? (s.heap.objs.size+1)=some (seqObj "list" its.toArray 0):=by
  rw [← hsz]; exact Heap.get?_push_size _ rfl
 have keep:∀ b o,s.heap.get? b=some o->(((s.heap.push (seqObj "list" #[] 0)).update s.heap.objs.size (Obj.mapSeq (·++its.toArray))).push (seqObj "list" its.toArray 0)).get? b=some o:=fun b o q=>by
  have hlt:b < s.heap.objs.size:=Heap.lt_size q
  rw [Heap.get?_push_ne _ _ _ (by rw [hsz]; exact Nat.ne_of_lt (Nat.lt_succ_of_lt hlt)),Heap.get?_update_ne _ _ _ _ (Nat.ne_of_lt hlt),Heap.get?_push_ne _ _ _ (Nat.ne_of_lt hlt)]
  exact q
 show wpAny _ _ _ _ _ { s with heap:=((s.heap.push (seqObj "list" #[] 0)).update s.heap.objs.size (Obj.mapSeq (·++its.toArray))).push (seqObj "list" its.toArray 0) }
 rw [hsz]
 have I2:Inv X pins σ H { s with heap:=((s.heap.push (seqObj "list" #[] 0)).update s.heap.objs.size (Obj.mapSeq (·++its.toArray))).push (seqObj "list" its.toArray 0),toks:=s.toks }:=I.kept keep
 have hfa:H (s.heap.objs.size+1)=none:=I.hok.fresh (Nat.le_succ _)
 refine wpAny_bind (wpAny_holding (wpAny_call_entry_kw slot_list_sort ⟨_,hoL,rfl⟩ entry_list_sort ?body (ksk_l1 _ _)))
 show wpAny (model X.prog X.w) X.A.in1.in1 (Builtin.«list.sort» ⟨[.ref (s.heap.objs.size+1)],[(Str.ofString "key",.ref fv)]⟩) _ _ _
 rw [ksk_t1]
 refine k_i I2 (I.fpOk (Nat.le_succ _) hfa) hoL hi h64 key fun ns' H' s' J sm e p o=>?_
 exact wpAny_pure ⟨_,rfl,.ref (s.heap.objs.size+1),H',J,rfl,h _ ns' H' sm hfa e p o⟩
end
noncomputable def l_l (K:Frag) (P:Addr) (pos:Pos) (qual:Str) (te:TE) (fr:List (Str × Nat)) (σ:St) (Q:VK) (x:V) (H1:Hp):Prop:=c_t H1 P pos qual/\∃ (p:Addr) (ns:List Int) (g:Int->Int),x=.ref p/\SqL K H1 p (ns.map V.int)/\ns.length < 64 /\
 (∀ n∈ns,∀ H2,d_C P H1 H2->∀ Q':VK,Q' (.int (g n)) H2->te (some (.int n) :: b_X fr σ) H2 Q') /\
 ∀ q (ns':List Int) H2,d_C P H1 H2->c_t H2 P pos qual->H1 q=none->H2 q=some (.lst (ns'.map V.int))->ns'.Perm ns->ns'.Pairwise (fun a b=>g a<=g b)->Q (.ref q) H2
noncomputable def o_w (K:Frag) (P:Addr) (pos:Pos) (qual:Str) (ta te:TE) (fr:List (Str × Nat)):TE:=fun σ H Q=>ta σ H (l_l K P pos qual te fr σ Q)
noncomputable def oneV (R:V->Hp->Prop) (vs:List V) (H:Hp):Prop:=match vs with
 | [v]=>R v H
 | _=>False
theorem d_C.seq {K:Frag} {P p:Addr} {H H':Hp} {ps:Array Value} {xs:List V} (s:d_C P H H') (e:H P=some (.tbl ps)) (h:SqL K H p xs):SqL K H' p xs:=by
 rcases h with (h | ⟨o,h⟩) | h
 ·exact .inl (.inl (s _ _ (fun z=>by rw [z,e] at h; cases h) h))
 ·exact .inl (.inr ⟨o,s _ _ (fun z=>by rw [z,e] at h; cases h) h⟩)
 ·exact .inr h
theorem c_t.tbl {H:Hp} {P:Addr} {pos:Pos} {q:Str} (h:c_t H P pos q):∃ ps,H P=some (.tbl ps):=by
 rcases h with h | ⟨c,h,_⟩
 ·exact ⟨_,h⟩
 ·exact ⟨_,h⟩
section
variable {X:Cx} {scope:Scope} {x:Str} {fr:List (Str × Nat)}
theorem l_m {params:Arguments} {a body:Expr} {lpos kpos pos p:Pos} {f0:Addr} {qual:Str} {ta te:TE} (k:d_y X scope x fr) (L:i_g params scope x) (tb:tabOk X.K f0=true) (hcode:X.env.code=.ref (tabC X.K f0)) (hB:f_R X.mg X.base)
  (hd:X.A.depth < recursionLimit) (hg:Gl X "sorted") (hm:X.mg "sorted" = none) (ha:PE X a ta)
  (he:∀ (f c:Addr) (s:Shared) (H:Hp),PE (i_f X X.A.in1.in1 qual scope (x :: fr.map (·.1)) f (.ref c) s H) body te)
  (hs:starEach [a] X.env=(false,eval a X.env) :: starEach [] X.env:=by rfl) (hpl:(backTo pos (starEach [a] X.env)).any (·.1)=false:=by rfl)
  (hdef:defaultsOf params X.env=([],[]):=by rfl) (hq:X.env.qual ++ "<lambda>" = qual:=by rfl) :
  PE X (.Call (.Name "sorted" p) [a] [⟨some "key",.Lambda params body scope lpos,kpos⟩] pos) (o_w X.K (tabP X.K f0) lpos qual ta te fr):=by
 intro pins s σ H Q I h
 refine wpAny_Call_Name_kw (d_H I hg hm (u:=.builtin "sorted") (by decide +kernel) ?_ (by decide) (by decide))
 have hP:=a_A ha (a_B (X:=X)) hs
 refine callWith_kw (thn (hP pos pins s σ H (oneV (l_l X.K (tabP X.K f0) lpos qual te fr σ Q)) I h) fun us s1 h1=>?_) (by rw [hs]; rfl) hpl rfl rfl
 obtain ⟨vs,H1,I1,r1,q1⟩:=h1
 match vs,r1,q1 with
 | [v],r1,q1 =>
  obtain ⟨u,rfl,ru⟩:=e_y r1
  obtain ⟨ht,l,ns,g,rfl,hl,h64,hkey,hend⟩:=(show l_l X.K (tabP X.K f0) lpos qual te fr σ Q v H1 from q1)
  cases (show u=Value.ref l from ru)
  have hK:=m_F (nm:=some "key") (kpos:=kpos) (i_U (params:=params) (body:=body) (pos:=lpos) k tb hcode hB hdef hq) (o_k (X:=X))
  obtain ⟨ps,et⟩:=ht.tbl
  refine thn (hK pos pins s1 σ H1 (oneV fun v H2=>∃ f c pm ctv,v=.ref f/\d_C (tabP X.K f0) H1 H2/\H2 f=some (lamO f c qual params body scope (clOf X.env scope.names []) pm ctv)/\H2 c=some (c_a c qual)/\c_t H2 (tabP X.K f0) lpos qual) I1
   ⟨ht,fun f c pm ctv H2 sp _ e1 e2 e3=>⟨f,c,pm,ctv,rfl,sp,e1,e2,.inr ⟨c,e3,e2⟩⟩⟩) fun ws s2 h2=>?_
  obtain ⟨zs,H2,I2,r2,q2⟩:=h2
  match zs,r2,q2 with
  | [z],r2,q2 =>
   obtain ⟨u2,rfl,ru2⟩:=e_y r2
   obtain ⟨f,c,pm,ctv,rfl,sp,e1,e2,ht2⟩:=(show ∃ f c pm ctv,z=.ref f/\d_C (tabP X.K f0) H1 H2/\H2 f=some (lamO f c qual params body scope (clOf X.env scope.names []) pm ctv)/\H2 c=some (c_a c qual)/\c_t H2 (tabP X.K f0) lpos qual from q2)
   cases (show u2=Value.ref f from ru2)
   refine k_j (g:=g) I2 (sp.seq et hl) h64 (fun n hn t pins' H3 s3 J sm=>?_) fun q ns' H3 sm hq0 e p o=>?_
   ·refine j_B (A:=X.A.in1.in1) k L J rfl J.ok.frames hd (show RelV (.int n) (Value.int n t) from ⟨t,rfl⟩) (sm _ _ e1) (sm _ _ e2) (fun s H=>he f c s H) (hkey n hn H3 (fun b o hb q=>sm _ _ (sp b o hb q)) _ ⟨rfl,rfl⟩)
   ·refine hend q ns' H3 (fun b o hb q=>sm _ _ (sp b o hb q)) ?_ ?_ e p o
    ·rcases ht2 with z | ⟨c2,z,z2⟩
     ·exact .inl (sm _ _ z)
     ·exact .inr ⟨c2,sm _ _ z,sm _ _ z2⟩
    ·cases w:H1 q with
     | none=>rfl
     | some o =>
      by_cases hb:q=tabP X.K f0
      ·obtain ⟨ps2,et2⟩:=ht2.tbl
       rw [hb,et2] at hq0; cases hq0
      ·rw [sp q o hb w] at hq0; cases hq0
noncomputable def l_n (qual:Str) (params:Arguments) (body:Expr) (scope:Scope) (i:Nat) (ta te:TE):TE:=fun σ H Q=>∃ f c pm ctv,σ[i]?=some (some (.ref f)) /\
 ta σ H fun v H1=>H1 f=some (lamO f c qual params body scope [] pm ctv)/\H1 c=some (c_a c qual)/\te [some v] H1 Q
theorem l_o {params:Arguments} {a body:Expr} {pos p:Pos} {i:Nat} {y qual:Str} {ta te:TE} (k:d_y X scope x []) (hcl:clOf X.env scope.names []=[]) (L:i_g params scope x) (hd:X.A.depth < recursionLimit)
  (hN:X.N[i]?=some y) (hv:Vis X.env.scope y) (ha:PE X a ta)
  (he:∀ (f c:Addr) (s:Shared) (H:Hp),PE (i_f X X.A qual scope [x] f (.ref c) s H) body te)
  (hdb:(y == ("__debug__" : Str))=false:=by decide) (hcd:(y == ("__classdict__" : Str))=false:=by decide)
  (hs:starEach [a] X.env=(false,eval a X.env) :: starEach [] X.env:=by rfl) :
  PE X (.Call (.Name y p) [a] [] pos) (l_n qual params body scope i ta te):=by
 rintro pins s σ H Q I ⟨f,c,pm,ctv,ev,h⟩
 have hP:=a_A ha (a_B (X:=X)) hs
 have hV:PE X (.Name y p) (tVar i):=i_v hN hv hdb hcd
 refine wpAny_Call_Name_kw (thn (hV pins s σ H (fun v H1=>v=.ref f/\H1=H) I ⟨_,ev,rfl,rfl⟩) fun u s0 h0=>?_)
 obtain ⟨v0,H0,I0,r0,rfl,rfl⟩:=h0
 cases (show u=Value.ref f from r0)
 refine callWith_def (o:=PySem.W.kla_obj "<lambda>" qual params body scope [] pm c ctv) rfl (thn (hP pos pins s0 σ H0 (oneV fun v H1=>H1 f=some (lamO f c qual params body scope [] pm ctv)/\H1 c=some (c_a c qual)/\te [some v] H1 Q) I0 h) fun us s1 h1=>?_) hs
 obtain ⟨vs,H1,I1,r1,q1⟩:=h1
 match vs,r1,q1 with
 | [v],r1,q1 =>
  obtain ⟨u,rfl,ru⟩:=e_y r1
  obtain ⟨ef1,ec1,q⟩:=(show H1 f=some (lamO f c qual params body scope [] pm ctv)/\H1 c=some (c_a c qual)/\te [some v] H1 Q from q1)
  obtain ⟨lf,_⟩:=(show b_B X.prog X.w H1 s1.heap f (lamO f c qual params body scope [] pm ctv) from I1.hok f _ ef1)
  exact ⟨lf,j_B (A:=X.A) (fr:=[]) k L I1 rfl I1.ok.frames hd ru (by rw [hcl]; exact ef1) ec1 (fun s H=>he f c s H) q⟩
end
section
variable {P:Program} {w:World} {K:Frag} {mg:Str->Option Value} {base:Heap}
theorem Fun.okL {x qual:Str} {st:Stmt} {f:Addr} {fd:FuncData} {N ps:List Str} {k:Nat} {sp:Sp} (F:Fun K x qual st f fd) (tb:tabOk K f=true) (S:a_Q N ps (a_G st)) (len:∀ vs H Q E,sp vs H Q E->vs.length=ps.length)
  (hbody:∀ (A:Around) (outer:List Env) (s:Shared) (H:Hp) (vs:List V) (Q:VK) (E:XK),Room k (A.deeper (envOfC qual (a_G st) s.heap.objs.size f (.ref (tabC K f))))->sp vs H Q E ->
   ∃ t,PSs (cxOf CX0 P w K mg base N qual (a_G st) f (.ref (tabC K f)) A outer s H E).nox (c_j st) t/\t { nx:=fun _ H'=>Q .non H',rt:=Q } (start N vs) H):FnOk P w K mg base CX0 (k+1) f fd ps sp:=by
 obtain ⟨oc,od,kV,doc,pm,an,cdv,ct,osl,rfl,lk,hcd⟩:=F.ex
 have hc:cdv=.ref (tabC K f):=i_e tb lk
 subst hc
 refine j_k lk hcd S len fun A outer s H vs Q E hr hsp=>?_
 obtain ⟨t,h,q⟩:=hbody A outer s H vs Q E hr hsp
 exact ⟨t,h.nox,q⟩
end
theorem k_k {P:Program} {w:World} {K:Frag} {mg mb:Str->Option Value} {CX:CXT} {k:Nat} {fa a:Addr} {fd:FuncData} {x:Str} {sp:Sp} {s₁:Shared} {vs:List Value} {ns:List Int} {fl:List Addr}
  (KX:K.In s₁.heap) (hns:s₁.heap.Ns mainGlobals mg) (hb:s₁.heap.Ns builtinsNs mb) (hbb:∀ x:Str,x ≠ "__name__" -> mb x=bootBuiltins x) (hlim:s₁.heap.NoLimit) (hg:s₁.gens=#[]) (hBM:f_R mg s₁.heap) (hSe:s₁.heap.NoSeer)
  (hT:∀ f∈fl,tabOk K f=true/\s₁.heap.get? (tabP K f)=some (PySem.W.tabObj #[]))
  (ha:s₁.heap.get? a=some { cls:=.type "list",data:=.seq vs.toArray }) (hi:IntsAre vs ns) (hl:ns.length<=sizeLine) (hr:Room k callerA)
  (F:∀ base:Heap,K.In base->base.Ns mainGlobals mg->f_R mg base->base.NoSeer->FnOk P w K mg base CX k fa fd [x] sp) (hbind:∀ (s:Shared) (u:Value),BindsTo s fd ⟨[u],[]⟩ [(x,u)])
  (hsp:∀ H:Hp,SqL K H a (ns.map V.int)->(∀ f∈fl,H (tabP K f)=some (.tbl #[]))->sp [.ref a] H (fun v _=>v=.bl true) fun _ _ _=>False)
  (hCX:∀ H e s',CX [] H s₁ (fun _ _ _=>False) e s'->False) :
  codeAny (model P w) callerA (.call (.ref fa) ⟨[.ref a],[]⟩) (fun r s'=>r=.ok (.ret (.bool true))/\OldK s₁.heap s'.heap/\s'.os=s₁.os/\AllBare s'.gens) s₁:=by
 have rv:=e_q hi
 have lenV:=hi.length
 have tabAt:∀ b∈fl.map (tabP K),s₁.heap.get? b=some (PySem.W.tabObj #[])/\K.lookup b=none/\isCodeTable s₁.heap b:=fun b hb=>by
  obtain ⟨f,hf,rfl⟩:=List.mem_map.mp hb
  obtain ⟨t1,t2⟩:=hT f hf
  exact ⟨t2,l_j t1,((l_i t1 KX).tab t2).isCodeTable⟩
 have core:∀ H:Hp,(∀ b,H b=none\/(∃ o xs,H b=some (.frz o (.lst xs)))\/(b∈fl.map (tabP K)/\H b=some (.tbl #[])))->(∀ f∈fl,H (tabP K f)=some (.tbl #[]))->SqL K H a (ns.map V.int)->HOk P w H s₁.heap ->
   (∀ b,H b≠none->b=a\/b∈fl.map (tabP K))->(H a≠none->K.lookup a=none) ->
   codeAny (model P w) callerA (.call (.ref fa) ⟨[.ref a],[]⟩) (fun r s'=>r=.ok (.ret (.bool true))/\OldK s₁.heap s'.heap/\s'.os=s₁.os/\AllBare s'.gens) s₁:=by
  intro H hO hTb hS hok hA hK
  have base_of:∀ {b:Addr} {o:Obj},s₁.heap.get? b=some o->H b=none->(hidT s₁.heap H).get? b=some o:=fun e n=>h_P e n
  have noA:∀ {b:Addr} {o:Obj},s₁.heap.get? b=some o->(∀ xs n,o.data≠.seq xs n)->(∀ xs,o.data≠.fields xs)->H b=none:=fun {b o} e d1 d2=>by
   cases q:H b with
   | none=>rfl
   | some u =>
    rcases hA b (by rw [q]; simp) with e' | e'
    ·subst e'
     rw [ha] at e; cases e
     exact absurd rfl (d1 _ _)
    ·rw [(tabAt b e').1] at e; cases e
     exact absurd rfl (d2 _)
  have nsK:∀ {b:Addr} {m:Str->Option Value},s₁.heap.Ns b m->(hidT s₁.heap H).Ns b m:=fun {b m} ⟨o,es,ep,e,d,r⟩=>⟨o,es,ep,base_of e (noA e (fun _ _ z=>by rw [d] at z; cases z) fun _ z=>by rw [d] at z; cases z),d,r⟩
  have hKb:K.In (hidT s₁.heap H):=fun b o e=>base_of (KX b o e) (by
   cases q:H b with
   | none=>rfl
   | some u =>
    rcases hA b (by rw [q]; simp) with e' | e'
    ·subst e'
     rw [hK (by rw [q]; simp)] at e; cases e
    ·rw [(tabAt b e').2.1] at e; cases e)
  have hM:Mod K mg (hidT s₁.heap H):=⟨hKb,nsK hns,⟨mb,nsK hb,hbb⟩,let ⟨mc,h1,h2⟩:=hlim; ⟨mc,nsK h1,h2⟩⟩
  have hB':f_R mg (hidT s₁.heap H):=by
   obtain ⟨bm,ob,b1,b2,b3,b4,b5,b6⟩:=hBM
   exact ⟨bm,ob,b1,b2,base_of b3 (noA b3 (fun _ _ z=>by rw [b6] at z; cases z) fun _ z=>by rw [b6] at z; cases z),b4,b5,b6⟩
  have hSe':(hidT s₁.heap H).NoSeer:=⟨let ⟨mc,a,b⟩:=hSe.statics; ⟨mc,nsK a,b⟩,let ⟨mc,a,b⟩:=hSe.mods; ⟨mc,nsK a,b⟩,let ⟨mc,a,b⟩:=hSe.imp; ⟨mc,nsK a,b⟩,
   let ⟨bm,ob,b1,_,b3,b4,b5,_⟩:=hB'; ⟨mg,bm,ob,nsK hns,b1,b3,b4,b5⟩⟩
  have e0:Env0 P w K mg (hidT s₁.heap H) callerA [] s₁ H:=⟨rfl,hM,fun b o e=>j_h e,Nat.le_of_eq (g_M _ _),trivial,fun b hb=>absurd (show b∈([]:List Addr) from hb) (by simp),hok,.of_eq hg⟩
  refine codeAny_mono ((F _ hKb (nsK hns) hB' hSe').run callerA [] s₁ H ⟨[.ref a],[]⟩ [.ref a] [.ref a] _ _ hr e0 (hbind s₁ (.ref a)) (.cons rfl .nil) (hsp H hS hTb)) fun r s' h=>?_
  cases r with
  | error e=>exact (hCX H e s' h).elim
  | ok fl' =>
   cases fl' with
   | next=>exact False.elim h
   | brk=>exact False.elim h
   | cont=>exact False.elim h
   | ret u =>
    obtain ⟨v,H',os,bare,un,hok',r',q⟩:=h
    have q':v=.bl true:=q
    subst q'
    obtain rfl:u=Value.bool true:=r'
    have all:∀ b o,s₁.heap.get? b=some o->s'.heap.get? b=some o\/(isCodeTable s₁.heap b/\o=PySem.W.tabObj #[]/\∃ ps,s'.heap.get? b=some (PySem.W.tabObj ps)):=fun b o e=>by
     cases q:H b with
     | none=>exact .inl (un.keep b o e q (by intro z; exact absurd (show b∈([]:List Addr) from z) (by simp)) (by simp))
     | some u =>
      rcases hO b with z | ⟨ob,xs,z⟩ | ⟨z1,z⟩
      ·rw [q] at z; cases z
      ·have z2:=un.frzs b ob _ z
       obtain ⟨e1,_⟩:=hok b _ z
       obtain ⟨e2,_⟩:=hok' b _ z2
       rw [e] at e1; cases e1
       exact .inl e2
      ·obtain ⟨more,z2⟩:=un.tbls b _ z
       have e1:=(tabAt b z1).1
       rw [e] at e1
       exact .inr ⟨(tabAt b z1).2.2,Option.some.inj e1,_,hok' b _ z2⟩
    refine ⟨rfl,⟨fun b o e=>?_,fun b o e=>?_⟩,os,bare⟩
    ·rcases all b o e with z | ⟨z1,rfl,ps,z3⟩
     ·exact .inl z
     ·exact .inr (.inl ⟨z1,rfl,#[],ps,rfl,by rw [Array.empty_append]; exact z3⟩)
    ·rcases all b o e with z | ⟨_,_,ps,z3⟩
     ·exact ⟨o,z⟩
     ·exact ⟨_,z3⟩
 have naT:a ∉ fl.map (tabP K):=fun z=>by
  have:=(tabAt a z).1
  rw [ha] at this; cases this
 cases hk:K.lookup a with
 | some o =>
  have e:=KX a o hk
  rw [ha] at e
  cases e
  refine core (fun b=>if b∈fl.map (tabP K) then some (.tbl #[]) else none) (fun b=>?_) (fun f hf=>if_pos (List.mem_map_of_mem hf)) (.inr ⟨_,vs.toArray,_,hk,rfl,rfl,rfl,by rw [List.size_toArray,lenV]; exact hl,by simpa using rv⟩) (fun b u z=>?_) (fun b z=>?_) fun z=>absurd (if_neg naT) z
  ·by_cases hb:b∈fl.map (tabP K)
   ·exact .inr (.inr ⟨hb,if_pos hb⟩)
   ·exact .inl (if_neg hb)
  ·by_cases hb:b∈fl.map (tabP K)
   ·cases (if_pos hb).symm.trans z
    exact (tabAt b hb).1
   ·cases (if_neg hb).symm.trans z
  ·by_cases hb:b∈fl.map (tabP K)
   ·exact .inr hb
   ·exact absurd (if_neg hb) z
 | none =>
  refine core (fun b=>if b∈fl.map (tabP K) then some (.tbl #[]) else if b=a then some (.frz { cls:=.type "list",data:=.seq vs.toArray } (.lst (ns.map V.int))) else none) (fun b=>?_) (fun f hf=>if_pos (List.mem_map_of_mem hf))
   (.inl (.inr ⟨{ cls:=.type "list",data:=.seq vs.toArray },by dsimp only; rw [if_neg naT,if_pos rfl]⟩)) (fun b u z=>?_) (fun b z=>?_) fun _=>hk
  ·by_cases hb:b∈fl.map (tabP K)
   ·exact .inr (.inr ⟨hb,if_pos hb⟩)
   ·by_cases hb2:b=a
    ·exact .inr (.inl ⟨_,_,by rw [if_neg hb,if_pos hb2]⟩)
    ·exact .inl (by rw [if_neg hb,if_neg hb2])
  ·by_cases hb:b∈fl.map (tabP K)
   ·cases (if_pos hb).symm.trans z
    exact (tabAt b hb).1
   ·by_cases hb2:b=a
    ·dsimp only at z
     rw [if_neg hb,if_pos hb2] at z
     cases z
     subst hb2
     exact ⟨ha,by rw [List.length_map]; exact hl,vs,_,rv,ha⟩
    ·dsimp only at z
     rw [if_neg hb,if_neg hb2] at z; cases z
  ·by_cases hb:b∈fl.map (tabP K)
   ·exact .inr hb
   ·by_cases hb2:b=a
    ·exact .inl hb2
    ·exact absurd (by rw [if_neg hb,if_neg hb2]) z
noncomputable def i_W (K:Frag) (fl:List Addr):Sp:=fun vs H Q _=>∃ (a:Addr) (ns:List Int),vs=[.ref a]/\SqL K H a (ns.map V.int)/\ns.length<=63/\(∀ m∈ns,Builtin.Int.intBits m<=1048576)/\(∀ f∈fl,H (tabP K f)=some (.tbl #[]))/\∀ H',Q (.bl true) H'
theorem walkT {l:PySem.W.OpenLaw} {k:Nat} {q:Program} {loose:List Str} {XP:(Str->Option Value)->Heap->Prop} {YP:World->Heap->Prop} {d:DefRec} {K:Params->Frag} {x:Str} {ts:List Addr}
  (hn:l.most=some 63) (hdf:d.params.defaults=[]) (hi:importsNone q=true) (hr:Room k callerA) (hY:∀ (w:World) (h:Heap),YP w h->(K w.params).In h/\∀ P∈ts,h.get? P=some (PySem.W.tabObj #[]))
  (F:∀ (w:World) (mg:Str->Option Value) (fa:Addr) (h:Heap),(K w.params).In h->h.Ns mainGlobals mg->mg d.name=some (.ref fa) ->
   ∃ (fd:FuncData) (fl:List Addr),(∀ f∈fl,tabOk (K w.params) f=true/\tabP (K w.params) f∈ts)/\(∀ (s:Shared) (u:Value),BindsTo s fd ⟨[u],[]⟩ [(x,u)]) /\
    ∀ base:Heap,(K w.params).In base->base.Ns mainGlobals mg->f_R mg base->base.NoSeer->FnOk l.prog w (K w.params) mg base CX0 k fa fd [x] (i_W (K w.params) fl)) :
  PySem.W.WalkO q loose XP YP l.row.toRowW d [] (fun f vs=>PySem.call f vs):=by
 refine Att.attach_callB hn hdf fun w s₀ s₁ mg mb fa a vs ns G Y hmg hobj hints hlen hb hg=>?_
 obtain ⟨KX,hT⟩:=hY w _ Y
 obtain ⟨fd,fl,hfl,hbn,hF⟩:=F w mg fa _ KX G.T.g hmg
 exact k_k (fl:=fl) KX G.T.g G.T.b G.T.builtins G.T.nolimit hg G.T.bmain (G.T.seer hi) (fun f hf=>⟨(hfl f hf).1,hT _ (hfl f hf).2⟩) hobj hints (Nat.le_trans hlen (by decide)) hr hF hbn (fun H hS hH=>⟨a,ns,rfl,hS,hlen,hb,hH,fun _=>rfl⟩) fun H e s' z=>z
section
variable {X:Cx}
theorem px {a b:Expr} {ta tb:TE} {pos:Pos} (ha:PE X a ta) (hb:PE X b tb) (hs:j_q b:=by exact fun _ _=>rfl):PE X (.Subscript a b pos) (tOp (rIxB X.K) ta tb):=o_N ix_B ha hb hs
end
structure Gd (P:Program) (mg:Str->Option Value) (base:Heap):Prop where
 bm:f_R mg base
 se:base.NoSeer
 tr:P.given.tree=none
section
variable {X:Cx}
theorem e_g {k:Nat} {A:Around} (h:Room k A) (hk:32<=k):A.depth+Builtin.pylongFrames < recursionLimit:=by
 have:=h.dp
 have e:Builtin.pylongFrames=100:=rfl
 omega
theorem m_U (g:Gd X.prog X.mg X.base) (hk:X.stack=X.env :: X.outer) (hg:X.env.scope.isGenerator=false) (hc:X.env.scope.isCoroutine=false) {pins:List (Addr × Obj)} {σ:St} {H:Hp} {s:Shared} (I:Inv X pins σ H s):SeerAt (model X.prog X.w) X.A s.heap :=
 SeerAt.of (g.se.keeps I.bk) g.tr (by rw [I.ok.frames,hk]) hg hc I.ok.blt I.ok.glob
theorem e_J (g:Gd X.prog X.mg X.base) (hd:X.A.depth+Builtin.pylongFrames < recursionLimit) (hk:X.stack=X.env :: X.outer:=by rfl) (hg:X.env.scope.isGenerator=false:=by rfl) (hc:X.env.scope.isCoroutine=false:=by rfl) :
  OpR X (binaryOp .FloorDiv) (rI (fun _ j=>j≠0) fun i j=>.int (i.fdiv j)):=by
 intro pins s σ H x y v u Q I rx ry h
 obtain ⟨i,j,rfl,rfl,hc',q⟩:=h
 obtain ⟨t,rfl⟩:=rx
 obtain ⟨t',rfl⟩:=ry
 exact floordiv_int hc' ⟨.int (i.fdiv j),H,I.tok _,⟨_,rfl⟩,q⟩ (.inr (PylongRoom.of I.nolimit hd (m_U g hk hg hc I)))
theorem l_p {env:Env} {l:List Env} (g:Gd X.prog X.mg X.base) (hd:X.A.depth+Builtin.pylongFrames < recursionLimit) (hk:X.stack=env :: l) (hg:env.scope.isGenerator=false) (hc:env.scope.isCoroutine=false) (hb:env.builtins=builtinsNs) (hgl:env.globals=mainGlobals) :
  OpR X (binaryOp .FloorDiv) (rI (fun _ j=>j≠0) fun i j=>.int (i.fdiv j)):=by
 intro pins s σ H x y v u Q I rx ry h
 obtain ⟨i,j,rfl,rfl,hc',q⟩:=h
 obtain ⟨t,rfl⟩:=rx
 obtain ⟨t',rfl⟩:=ry
 exact floordiv_int hc' ⟨.int (i.fdiv j),H,I.tok _,⟨_,rfl⟩,q⟩ (.inr (PylongRoom.of I.nolimit hd (SeerAt.of (g.se.keeps I.bk) g.tr (by rw [I.ok.frames,hk]) hg hc hb hgl)))
end
noncomputable def Itv (K:Frag) (l:Addr) (n:Nat):It :=
 ⟨fun i H=>∃ xs,SqL K H l xs/\xs.length=n/\i < n,fun i H x H'=>H'=H/\∀ xs,SqL K H l xs->xs[n - 1 - i]?=some x,fun i _=>n<=i⟩
theorem l_q {P:Program} {w:World} {K:Frag} {tg:Expr} (a it:Addr) (n:Nat):Turn P w K tg (Itv K a n) [it] it (fun i h=>i<=n/\h.IsRevIter it a ((n:Int) - 1 - (i:Int))) where
 mem:=by simp
 obj:=fun i h st b hb=>by
  have e:b=it:=by simpa using hb
  subst e
  obtain ⟨_,o,e,c,d⟩:=st
  exact ⟨o,e,fun v z=>by rw [d] at z; cases z⟩
 keep:=fun i h h' st k=>⟨st.1,st.2.at fun o e=>k it (by simp) o e⟩
 item:=by
  intro X hP hw hK hc i pins s σ H E I hf st hg
  subst hP hw hK
  obtain ⟨xs,hq,hl,hi⟩:=hg
  have hx:xs[n - 1 - i]?=some xs[n - 1 - i]:=by rw [List.getElem?_eq_getElem]
  obtain ⟨its,rv,p,hz⟩:=I.list hq
  obtain ⟨u,hu,ru⟩:=rv.get hx
  obtain ⟨f0,f1,f2,f3,f4,f5⟩:=hf it (by simp)
  have e:(n:Int) - 1 - (i:Int)=((n - 1 - i:Nat):Int):=by omega
  have st2:=st.2
  rw [e] at st2
  refine wpAny_pyNext_rev_item st2 p.isList (x:=u) (by simpa using hu) fun h' st' sb=>?_
  have I1:Inv X pins σ H { s with heap:=h' }:=I.turned (t':=s.toks) (fun b o hb e=>(sb.2 b hb).trans e) f0 f1 f3 f4 f5
  obtain ⟨o,e1,c,d⟩:=id st'
  have e2:((n - 1 - i:Nat):Int) - 1=(n:Int) - 1 - ((i+1:Nat):Int):=by omega
  exact ⟨u,rfl,h_T (s:={ s with heap:=h' }) e1 c d (by decide) ⟨_,H,I1,ru,⟨rfl,fun ys hy=>by rw [I.list_inj hy hq]; exact hx⟩,⟨hi,e2 ▸ st'⟩,fun b hb=>(hf b hb).1⟩⟩
 done:=by
  intro X hP hw hK hc i pins s σ H E I hf st hg
  subst hP hw hK
  have hg':n<=i:=hg
  obtain ⟨f0,f1,f2,f3,f4,f5⟩:=hf it (by simp)
  have e:(n:Int) - 1 - (i:Int)=-1:=by have:=st.1; omega
  have st2:=st.2
  rw [e] at st2
  exact wpAny_pyNext_rev_end (I.ok.hd hc) st2 fun h' eb=>⟨rfl,I.turned (t':=s.toks) (fun b o hb e=>eb b o hb e) f0 f1 f3 f4 f5⟩
 self:=fun _ _ _ _ _ st h=>wpAny_pyIter_revIter st.2 h
section
variable {X:Cx}
noncomputable def iRev (K:Frag) (ta:TA):TI:=fun σ H R=>ta σ H fun vs H1=>∃ l xs,vs=[.ref l]/\SqL K H1 l xs/\R (Itv K l xs.length) H1
theorem o_x {a tg:Expr} {ta:TA} {p pos:Pos} (hg:Gl X "reversed") (hm:X.mg "reversed" = none) (ha:PA X [a] ta) (hv:bootBuiltins "reversed" = some (.type "reversed"):=by decide +kernel)
  (hs:starEach [a] X.env=[(false,eval a X.env)]:=by rfl) :
  PI X tg (.Call (.Name "reversed" p) [a] [] pos) (iRev X.K ta):=by
 intro pins s σ H R I h
 refine Call_ (d_H I hg hm hv (PyProof.Rows.callWith_type1 (thn (ha pos pins s σ H _ I h) fun us s1 ⟨vs,H1,I1,r1,q1⟩=>?_) (by rw [hs]; rfl) (by rfl)))
 obtain ⟨l,xs,e,hq,q⟩:=q1
 subst e
 obtain ⟨u,rfl,rx⟩:=e_y r1
 cases rx
 obtain ⟨its,rv,p,hz⟩:=I1.list hq
 have hl:=rv.length
 refine call_reversed_list p.isList ?_
 refine wpAny_pyIter_revIter (l:=l) (i:=(its.toArray.size:Int) - 1) ⟨_,Heap.get?_push_size _ rfl,rfl,rfl⟩ ?_
 refine ⟨s1.heap.objs.size,[s1.heap.objs.size],_,_,H1,rfl,I1.kept (t':=s1.toks) fun b o e=>Heap.get?_push_of_some _ e,l_q l _ xs.length,⟨Nat.zero_le _,⟨_,Heap.get?_push_size _ rfl,rfl,?_⟩⟩,fun b hb=>?_,q⟩
 ·have e:(its.toArray.size:Int) - 1=(xs.length:Int) - 1 - ((0:Nat):Int):=by simp; omega
  rw [← e]
  rfl
 ·have e:b=s1.heap.objs.size:=by simpa using hb
  subst e
  exact I1.fpOk (Nat.le_refl _) (I1.hok.fresh (Nat.le_refl _))
end
theorem o_y {K:Frag} {l:Addr} {n:Nat} {xs:List V} {g:TG} {tb:TS} {nx:St->Hp->Prop} {rt:VK} {σ:St} {H:Hp} (Pv:Nat->St->Hp->Prop) (h0:Pv 0 σ H) (hn:xs.length=n) (hl:∀ i σ H,i<=n->Pv i σ H->SqL K H l xs)
  (hs:∀ i x σ H,xs[n - 1 - i]?=some x->i < n->Pv i σ H->g x σ H fun σ2 H2=>tb { nx:=Pv (i+1),rt:=rt,bk:=nx,ct:=Pv (i+1) } σ2 H2) (hd:∀ σ H,Pv n σ H->nx σ H):i_d (Itv K l n) g tb nx rt σ H:=by
 refine ⟨fun i m σ H=>m=n - i/\i<=n/\Pv i σ H,⟨n,by simp,Nat.zero_le _,h0⟩,?_⟩
 rintro i m σ H ⟨rfl,hi,p⟩
 by_cases hlt:i < n
 ·refine .inr ⟨⟨xs,hl i σ H hi p,hn,hlt⟩,Pv (i+1),fun σ' H' p'=>⟨n - (i+1),by omega,rfl,hlt,p'⟩,fun x H' y=>?_⟩
  obtain ⟨e,hx⟩:=y
  subst e
  exact hs i x σ _ (hx xs (hl i σ _ hi p)) hlt p
 ·have e:i=n:=by omega
  subst e
  exact .inl ⟨Nat.le_refl _,hd σ H p⟩
end L2
namespace L2
open PySem PySem.Spec PyProof.Rows
open PySem.W (Frag)
noncomputable def b_D (c:Addr) (ob:Obj):HO:=.frz ob (.own c)
noncomputable def offC (H:Hp) (c:Addr):Hp:=fun b=>if b=c then none else H b
theorem d_D {H:Hp} {c:Addr}:offC H c c=none:=by unfold offC; rw [if_pos rfl]
theorem b_E {H:Hp} {b c:Addr} (h:b≠c):offC H c b=H b:=by unfold offC; rw [if_neg h]
theorem l_r {H:Hp} {c:Addr} {o:HO} (h:H c=some o):upd (offC H c) c o=H:=funext fun b=>by
 by_cases z:b=c
 ·rw [z,a_F,h]
 ·rw [a_E z,b_E z]
section
variable {P:Program} {w:World} {H H' H2:Hp} {h h':Heap} {c:Addr} {ob:Obj} {fs:List Addr}
theorem l_s (e:h.get? c=some ob):b_B P w H h c (b_D c ob):=⟨e,⟨_,e⟩⟩
theorem HOk.cellOn (x:HOk P w H h) (n:H c=none) (e:h.get? c=some ob):HOk P w (upd H c (b_D c ob)) h:=fun b u q=>by
 by_cases hb:b=c
 ·subst hb; rw [a_F] at q; cases q; exact l_s e
 ·rw [a_E hb] at q
  exact (x b u q).stay (fun _ _ _ r=>r) (fun d r=>by rw [a_E (a_H r n)]; exact r) fun d xs r=>by rw [a_E (a_H r n)]; exact r
theorem HOk.cellOff (x:HOk P w H h) (n:H c=some (b_D c ob)):HOk P w (offC H c) h:=fun b u q=>by
 have hb:b≠c:=fun z=>by rw [z,d_D] at q; cases q
 rw [b_E hb] at q
 refine (x b u q).stay (fun _ _ _ r=>r) (fun d r=>?_) fun d xs r=>?_
 ·rw [b_E (fun z=>by rw [z,n] at r; unfold b_D at r; cases r)]; exact r
 ·rw [b_E (fun z=>by rw [z,n] at r; unfold b_D at r; cases r)]; exact r
theorem Un.cellOff (un:Un fs [] (upd H c (b_D c ob)) H' h h') (h0:h.get? c=some ob) (h1:h'.get? c=some ob) (n:H c=none) (nf:c ∉ fs):Un fs [] H (offC H' c) h h' where
 keep:=fun b o g nb hb hx=>by
  by_cases z:b=c
  ·subst z; rw [h0] at g; cases g; exact h1
  ·exact un.keep b o g (by rw [a_E z]; exact nb) hb hx
 slot:=fun b o g nb hb hx=>un.slot b o g (by rw [a_E (show b≠c from fun z=>nf (by rw [← z]; exact hb))]; exact nb) hb hx
 free:=fun b o g nb hx=>by
  by_cases z:b=c
  ·rw [z]; exact d_D
  ·rw [b_E z]; exact un.free b o g (by rw [a_E z]; exact nb) hx
 there:=fun b o g hx=>un.there b o g hx
 tups:=fun b xs g=>by
  have z:b≠c:=a_H g n
  rw [b_E z]; exact un.tups b xs (by rw [a_E z]; exact g)
 frzs:=fun b o u g=>by
  have z:b≠c:=a_H g n
  rw [b_E z]; exact un.frzs b o u (by rw [a_E z]; exact g)
 tbls:=fun b ps g=>by
  have z:b≠c:=a_H g n
  obtain ⟨more,e⟩:=un.tbls b ps (by rw [a_E z]; exact g)
  exact ⟨more,by rw [b_E z]; exact e⟩
theorem Un.cellOn (un:Un fs [] (offC H c) H2 h h') (n:H c=some (b_D c ob)) (nf:c ∉ fs):Un fs [] H (upd H2 c (b_D c ob)) h h' where
 keep:=fun b o g nb hb hx=>un.keep b o g (by rw [b_E (fun z=>by rw [z,n] at nb; cases nb)]; exact nb) hb hx
 slot:=fun b o g nb hb hx=>un.slot b o g (by rw [b_E (show b≠c from fun z=>nf (by rw [← z]; exact hb))]; exact nb) hb hx
 free:=fun b o g nb hx=>by
  have z:b≠c:=fun z=>by rw [z,n] at nb; cases nb
  rw [a_E z]; exact un.free b o g (by rw [b_E z]; exact nb) hx
 there:=fun b o g hx=>un.there b o g hx
 tups:=fun b xs g=>by
  have z:b≠c:=fun z=>by rw [z,n] at g; unfold b_D at g; cases g
  rw [a_E z]; exact un.tups b xs (by rw [b_E z]; exact g)
 frzs:=fun b o u g=>by
  by_cases z:b=c
  ·rw [z,a_F,← n,← z]; exact g
  ·rw [a_E z]; exact un.frzs b o u (by rw [b_E z]; exact g)
 tbls:=fun b ps g=>by
  have z:b≠c:=fun z=>by rw [z,n] at g; unfold b_D at g; cases g
  obtain ⟨more,e⟩:=un.tbls b ps (by rw [b_E z]; exact g)
  exact ⟨more,by rw [a_E z]; exact e⟩
end
section
variable {X:Cx}
theorem Inv.cellNf {pins:List (Addr × Obj)} {σ:St} {H:Hp} {s:Shared} {y:Str} {c:Addr} (I:Inv X pins σ H s) (hc:X.env.cells.lookup y=some c) (hfn:X.fn y=true):c ∉ frs X.stack:=fun z=>by
 rcases List.mem_cons.mp (I.stkSub c z) with e | hb
 ·exact I.cne y c hc e
 ·obtain ⟨_,o,ho,_⟩:=I.ok.funs.mem hb
  exact absurd (Nat.lt_of_lt_of_le (Heap.lt_size ho) (I.ok.cab y c hfn hc)) (Nat.lt_irrefl _)
theorem Inv.env0C {pins:List (Addr × Obj)} {σ:St} {H:Hp} {s:Shared} {y:Str} {c:Addr} {ob:Obj} (I:Inv X pins σ H s) (hc:X.env.cells.lookup y=some c) (hfn:X.fn y=true) (e:s.heap.get? c=some ob) :
  Env0 X.prog X.w X.K X.mg X.base X.A X.stack s (upd H c (b_D c ob)) :=
 ⟨I.ok.frames,I.ok.mod,fun b o g=>⟨(I.bs b o g).1,by
  rw [a_E (fun z=>?_)]
  ·exact (I.bs b o g).2
  ·have h1:=I.ok.cab y c hfn hc
   have h2:=Heap.lt_size g
   have h3:=I.ok.bsz
   rw [z] at h2
   exact absurd (Nat.lt_of_lt_of_le h2 (Nat.le_trans h3 h1)) (Nat.lt_irrefl _)⟩,Nat.le_trans I.ok.bsz I.sz,I.stack,fun b hb=>by
  rw [a_E (show b≠c from fun z=>I.cellNf hc hfn (by rw [← z]; exact hb))]; exact I.stkFree b hb,I.hok.cellOn (I.freeC y c hc) e,I.bare⟩
noncomputable def l_t (env:Env) (names:List (Str × NameKind)) (i:Nat) (y:Str) (sp:Sp) (E:XK) (t:TA):TE:=fun σ H Q=>t σ H fun vs H1=>∃ p,σ[i]?=some (some (.ref p)) /\
 ∀ c ob,ob.data=.cell (some (.ref p))->clOf env names []=[(y,c)]->H1 c=none->sp vs (upd H1 c (b_D c ob)) (fun v H2=>H2 c=some (b_D c ob)/\Q v (offC H2 c)) E
theorem l_u {k:Nat} {f:Addr} {fd:FuncData} {ps:List Str} {sp:Sp} {E:XK} {x y:Str} {p pos:Pos} {e:Expr} {es:List Expr} {t:TA} {i:Nat} {names:List (Str × NameKind)}
  (hN:X.N[i]?=some y) (hv:Vis X.env.scope y) (hk0:X.env.kindOf y=some .cell) (hfn:X.fn y=true) (hnm:clOf X.env names []=[(y,(X.env.cells.lookup y).getD 0)])
  (F:FnOk X.prog X.w X.K X.mg X.base CX0 k f fd ps sp) (hr:Room k X.A) (hg:Gl X x) (hm:X.mg x=some (.ref f)) (hk:PySem.W.keepIn X.K (.ref f)=true) (hb:a_Z X.K fd ps [])
  (ha:PA X (e :: es) t) (hdb:(x == ("__debug__" : Str))=false:=by decide) (he:starEach (e :: es) X.env=(false,eval e X.env) :: starEach es X.env:=by rfl) (hpl:(backTo pos (starEach es X.env)).any (·.1)=false:=by rfl) :
  PE X (.Call (.Name x p) (e :: es) [] pos) (l_t X.env names i y sp E t):=by
 intro pins s σ H Q I h
 refine wpAny_Call_Name_kw (c_R I hg hm ?_ hdb)
 refine PySem.W.callWith_K (h₀:=X.base) I.ok.mod.kin hk (thn (ha pos pins s σ H _ I h) fun us s1 ⟨vs,H1,I1,r,q⟩=>⟨I1.kIn,?_⟩) he hpl
 obtain ⟨p,ep,q⟩:=q
 obtain ⟨m,_,hl⟩:=I1.loc
 obtain ⟨u,ru,lk⟩:=hl i y (.ref p) hN ep hv
 rcases lk with ⟨k1,_⟩ | ⟨_,c,hc,ob,hob,hd⟩
 ·rw [hk0] at k1; cases k1
 ·cases (show u=Value.ref p from ru)
  have nc:=I1.freeC y c hc
  have q2:=q c ob hd (by rw [hnm,hc]; rfl) nc
  have hl2:(us++[]).length=ps.length:=by rw [List.append_nil,← r.length]; exact F.len _ _ _ _ q2
  refine wpAny_call (codeAny_mono (F.run X.A X.stack s1 _ ⟨us,[]⟩ (us++[]) vs _ E hr (I1.env0C hc hfn hob) (hb s1 us I1.kIn hl2) (by rw [List.append_nil]; exact r) q2) fun r' s' hq=>?_)
  cases r' with
  | error e=>exact hq.elim
  | ok fl =>
   cases fl with
   | ret u =>
    obtain ⟨v,H',os,bare,un,hok,rv,e2,q3⟩:=hq
    exact I1.after ⟨v,offC H' c,os,bare,un.cellOff hob (hok c _ e2).1 nc (I1.cellNf hc hfn),hok.cellOff e2,rv,q3⟩
   | next=>exact hq.elim
   | brk=>exact hq.elim
   | cont=>exact hq.elim
noncomputable def h_G (X:Cx) (A:Around) (qual:Str) (scope:Scope) (N:List Str) (f:Addr) (cd:Value) (cl:List (Str × Addr)) (s:Shared) (H:Hp):Cx :=
 { X with
  A:=A.deeper (PySem.W.envX qual scope s.heap.objs.size f cd cl)
  N:=N
  s₀:=s
  H₀:=H
  env:=PySem.W.envX qual scope s.heap.objs.size f cd cl
  outer:=X.stack
  stack:=PySem.W.envX qual scope s.heap.objs.size f cd cl :: X.stack
  ex:=[]
  fn:=fun _=>false
  pn:=[]
  xe:=fun _ _=>False }
structure LamC (scope:Scope) (x y:Str):Prop where
 kind:scope.kind=.function
 nx:scope.names.lookup x=some .local
 ny:scope.names.lookup y=some .free
 all:∀ z∈scope.names,(z.1=x/\z.2=.local)\/(z.1=y/\z.2=.free)
theorem LamC.only {scope:Scope} {x y z:Str} (L:LamC scope x y) (h:scope.names.lookup z=some .cell\/scope.names.lookup z=some .free):z=y:=by
 rcases h with h | h
 ·rcases L.all _ (PySem.mem_of_lookup h) with ⟨_,e⟩ | ⟨_,e⟩ <;> cases e
 ·rcases L.all _ (PySem.mem_of_lookup h) with ⟨_,e⟩ | ⟨e,_⟩
  ·cases e
  ·exact e
theorem i_X {scope:Scope} {x y:Str} {pins:List (Addr × Obj)} {σ:St} {H:Hp} {s:Shared} {h₁:Heap} {tk:Nat} {A:Around} {qual:Str} {f cc p:Addr} {ob:Obj} {cd:Value} {v:V} {u:Value} (L:LamC scope x y) (I:Inv X pins σ H s)
  (hA:A.handled=X.A.handled) (hF:A.frames=some X.stack) (r:RelV v u) (ec:H cc=some (b_D cc ob)) (hd:ob.data=.cell (some (.ref p)))
  (hn:h₁.Ns s.heap.objs.size (fun y=>[(x,u)].lookup y)) (k:∀ b o,s.heap.get? b=some o->h₁.get? b=some o) :
  Inv (h_G X A qual scope [x,y] f cd [(y,cc)] s (offC H cc)) [] [some v,some (.ref p)] (offC H cc) { s with heap:=h₁,toks:=tk }:=by
 have I4:Inv X pins σ H { s with heap:=h₁,toks:=tk }:=I.kept k
 have hob:h₁.get? cc=some ob:=k _ _ (I.hok cc _ ec).1
 have noA:∀ b:Addr,b ∉ (h_G X A qual scope [x,y] f cd [(y,cc)] s (offC H cc)).ex:=fun b z=>absurd (show b∈([]:List Addr) from z) (by simp)
 have look:∀ {z:Str} {b:Addr},[(y,cc)].lookup z=some b->z=y/\b=cc:=fun {z b} e=>by
  by_cases hz:z=y
  ·subst hz; simp at e; exact ⟨rfl,e.symm⟩
  ·have:(z == y)=false:=by simpa using hz
   simp [List.lookup,this] at e
 refine ⟨⟨I.ok.mod,L.kind,rfl,rfl,Nat.le_refl _,fun y1 z b h1 h2=>(look h1).1.trans (look h2).1.symm,fun z hz=>⟨cc,?_⟩,fun y b h0=>(by cases h0),fun hc=>?_,Around.frames_deeper hF,.inr ⟨rfl,rfl⟩,fun b z=>absurd z (noA b),fun b o e=>⟨(I.bs b o e).1,?_⟩,Nat.le_trans I.ok.bsz I.sz,fun b _ _=>noA b,fun b z=>absurd z (noA b),I.stack,fun b hb=>?_⟩,
  rfl,I.bare,Un.kept k,⟨_,hn,fun i y' v' h1 h2 h3=>?_⟩,fun z b h=>?_,?_,fun z b h=>?_,fun p hp=>absurd (show p∈([]:List (Addr × Obj)) from hp) (by simp),I4.hok.cellOff ec,rfl⟩
 ·have:=L.only hz
  subst this
  show [(z,cc)].lookup z=some cc
  simp
 ·have:=I.ok.hd hc
  rw [← hA] at this
  exact this
 ·show offC H cc b=none
  rw [b_E (show b≠cc from fun z=>by rw [z] at e; have:=(I.bs cc o e).2; rw [ec] at this; cases this)]
  exact (I.bs b o e).2
 ·show offC H cc b=none
  rw [b_E (show b≠cc from fun z=>by rw [z] at hb; have:=I.stkFree cc hb; rw [ec] at this; cases this)]
  exact I.stkFree b hb
 ·match i,h1,h2 with
  | 0,h1,h2 =>
   cases (show some x=some y' from h1)
   cases (show some (some v)=some (some v') from h2)
   exact ⟨u,r,.inl ⟨L.nx,by show [(x,u)].lookup x=some u; simp⟩⟩
  | 1,h1,h2 =>
   cases (show some y=some y' from h1)
   cases (show some (some (V.ref p))=some (some v') from h2)
   exact ⟨.ref p,rfl,.inr ⟨.inr L.ny,cc,by show [(y,cc)].lookup y=some cc; simp,ob,hob,hd⟩⟩
  | i+2,h1,h2=>cases (show (none:Option Str)=some y' from h1)
 ·obtain ⟨rfl,rfl⟩:=look h
  exact ⟨_,ob,hob,hd⟩
 ·show offC H cc s.heap.objs.size=none
  have:=I.hok.fresh (Nat.le_refl s.heap.objs.size)
  rw [b_E (show s.heap.objs.size≠cc from fun z=>by rw [z,ec] at this; cases this)]
  exact this
 ·obtain ⟨rfl,rfl⟩:=look h
  exact d_D
theorem l_v {scope:Scope} {x y:Str} {pins:List (Addr × Obj)} {σ:St} {H:Hp} {s:Shared} {A:Around} {qual:Str} {params:Arguments} {body:Expr} {f c' cc p:Addr} {ob:Obj} {v:V} {u:Value} {te:TE} {Q:VK} {pm ctv:Value} {E:Value->Shared->Prop} (L:LamC scope x y) (T:i_g params scope x)
  (I:Inv X pins σ H s) (hA:A.handled=X.A.handled) (hF:A.frames=some X.stack) (hd:A.depth < recursionLimit) (r:RelV v u)
  (ef:H f=some (lamO f c' qual params body scope [(y,cc)] pm ctv)) (ec:H c'=some (c_a c' qual)) (eo:H cc=some (b_D cc ob)) (ed:ob.data=.cell (some (.ref p)))
  (he:∀ (s:Shared) (H:Hp),PE (h_G X A qual scope [x,y] f (.ref c') [(y,cc)] s H) body te) (h:te [some v,some (.ref p)] (offC H cc) fun v2 H2=>Q v2 (upd H2 cc (b_D cc ob))) :
  wpAny (model X.prog X.w) A (call (.ref f) [u]) (EP X pins σ Q) E s:=by
 obtain ⟨lf,_⟩:=(show b_B X.prog X.w H s.heap f (lamO f c' qual params body scope [(y,cc)] pm ctv) from I.hok f _ ef)
 have hrec:=f_C (I.hok c' _ ec)
 have hob:s.heap.get? cc=some ob:=(I.hok cc _ eo).1
 have nf:cc ∉ frs X.stack:=fun z=>by have:=I.stkFree cc z; rw [eo] at this; cases this
 refine wpAny_call ?_
 refine PySem.W.kla_callFunE (fd:=PySem.W.kla_fn "<lambda>" qual params body scope [(y,cc)] pm (.ref c') ctv) hd lf rfl T.co T.gen rfl hrec ?_
 rw [T.bind]
 refine wpAny_pure (wpAny_newFunctionEnv (fun z hz=>?_) (fun z hz=>?_) (fun h₁ hns hsb=>⟨?_,?_⟩) L.kind)
 ·rcases L.all z hz with ⟨_,e⟩ | ⟨_,e⟩ <;> (rw [e]; intro q; cases q)
 ·rw [List.mem_singleton.mp hz]; exact L.nx
 ·exact (I.nolimit).fresh _ hsb
 ·have hk₁:∀ b o,s.heap.get? b=some o->h₁.get? b=some o:=fun b o e=>hsb.extBut b o (Nat.ne_of_lt (Heap.lt_size e)) (Heap.get?_push_of_some _ e)
  have J:=i_X (A:=A) (qual:=qual) (f:=f) (cd:=.ref c') (tk:=s.toks+[(x,u)].length) L I hA hF r eo ed hns hk₁
  refine PySem.W.kla_codeExpr (wpAny_mono (he s (offC H cc) [] _ _ _ _ J h) (fun v1 s' hq=>?_) fun e s' z=>z.elim)
  obtain ⟨v2,H2,J2,r2,q2⟩:=hq
  have un:Un (frs X.stack) [] (offC H cc) H2 s.heap s'.heap:=J2.base
  exact I.after ⟨v2,_,J2.os,J2.bare,un.cellOn eo nf,J2.hok.cellOn (un.free cc ob hob d_D (by simp)) (un.keep cc ob hob d_D nf (by simp)),r2,q2⟩
noncomputable def j_C (qual:Str) (params:Arguments) (body:Expr) (scope:Scope) (y:Str) (i:Nat) (ta te:TE):TE:=fun σ H Q=>∃ f c pm ctv cc ob p,σ[i]?=some (some (.ref f))/\ob.data=.cell (some (.ref p)) /\
 ta σ H fun v H1=>H1 f=some (lamO f c qual params body scope [(y,cc)] pm ctv)/\H1 c=some (c_a c qual)/\H1 cc=some (b_D cc ob)/\te [some v,some (.ref p)] (offC H1 cc) fun v2 H2=>Q v2 (upd H2 cc (b_D cc ob))
theorem k_l {scope:Scope} {x:Str} {params:Arguments} {a body:Expr} {pos p:Pos} {i:Nat} {y z qual:Str} {ta te:TE} (L:LamC scope x z) (T:i_g params scope x) (hd:X.A.depth < recursionLimit)
  (hN:X.N[i]?=some y) (hv:Vis X.env.scope y) (ha:PE X a ta)
  (he:∀ (f c cc:Addr) (s:Shared) (H:Hp),PE (h_G X X.A qual scope [x,z] f (.ref c) [(z,cc)] s H) body te)
  (hdb:(y == ("__debug__" : Str))=false:=by decide) (hcd:(y == ("__classdict__" : Str))=false:=by decide)
  (hs:starEach [a] X.env=(false,eval a X.env) :: starEach [] X.env:=by rfl) :
  PE X (.Call (.Name y p) [a] [] pos) (j_C qual params body scope z i ta te):=by
 rintro pins s σ H Q I ⟨f,c,pm,ctv,cc,ob,pp,ev,ed,h⟩
 have hP:=a_A ha (a_B (X:=X)) hs
 have hV:PE X (.Name y p) (tVar i):=i_v hN hv hdb hcd
 refine wpAny_Call_Name_kw (thn (hV pins s σ H (fun v H1=>v=.ref f/\H1=H) I ⟨_,ev,rfl,rfl⟩) fun u s0 h0=>?_)
 obtain ⟨v0,H0,I0,r0,rfl,rfl⟩:=h0
 cases (show u=Value.ref f from r0)
 refine callWith_def (o:=PySem.W.kla_obj "<lambda>" qual params body scope [(z,cc)] pm c ctv) rfl (thn (hP pos pins s0 σ H0 (oneV fun v H1=>H1 f=some (lamO f c qual params body scope [(z,cc)] pm ctv)/\H1 c=some (c_a c qual)/\H1 cc=some (b_D cc ob)/\te [some v,some (.ref pp)] (offC H1 cc) fun v2 H2=>Q v2 (upd H2 cc (b_D cc ob))) I0 h) fun us s1 h1=>?_) hs
 obtain ⟨vs,H1,I1,r1,q1⟩:=h1
 match vs,r1,q1 with
 | [v],r1,q1 =>
  obtain ⟨u,rfl,ru⟩:=e_y r1
  obtain ⟨ef1,ec1,eo1,q⟩:=(show H1 f=some (lamO f c qual params body scope [(z,cc)] pm ctv)/\H1 c=some (c_a c qual)/\H1 cc=some (b_D cc ob)/\te [some v,some (.ref pp)] (offC H1 cc) fun v2 H2=>Q v2 (upd H2 cc (b_D cc ob)) from q1)
  obtain ⟨lf,_⟩:=(show b_B X.prog X.w H1 s1.heap f (lamO f c qual params body scope [(z,cc)] pm ctv) from I1.hok f _ ef1)
  exact ⟨lf,l_v (A:=X.A) L T I1 rfl I1.ok.frames hd ru ef1 ec1 eo1 ed (fun s H=>he f c cc s H) q⟩
end
theorem o_z {X:Cx}:OpR X (compareOp .Is) (fun x y H Q=>∃ a b,x=.bl a/\y=.bl b/\Q (.bl (a == b)) H):=by
 intro pins s σ H x y v u Q I rx ry h
 obtain ⟨a,b,rfl,rfl,q⟩:=h
 cases rx
 cases ry
 refine wpAny_is_plain rfl (c_h I q ?_)
 cases a <;> cases b <;> rfl
theorem Fun.okLX {P:Program} {w:World} {K:Frag} {mg:Str->Option Value} {base:Heap} {x qual:Str} {st:Stmt} {f:Addr} {fd:FuncData} {N ps:List Str} {k:Nat} {sp:Sp} (F:Fun K x qual st f fd) (tb:tabOk K f=true) (S:a_Q N ps (a_G st)) (len:∀ vs H Q E,sp vs H Q E->vs.length=ps.length)
  (hbody:∀ (A:Around) (outer:List Env) (s:Shared) (H:Hp) (vs:List V) (Q:VK) (E:XK),Room k (A.deeper (envOfC qual (a_G st) s.heap.objs.size f (.ref (tabC K f))))->sp vs H Q E ->
   ∃ t,PSs (cxOf (CX1 P w) P w K mg base N qual (a_G st) f (.ref (tabC K f)) A outer s H E) (c_j st) t/\t { nx:=fun _ H'=>Q .non H',rt:=Q } (start N vs) H):FnOk P w K mg base (CX1 P w) (k+1) f fd ps sp:=by
 obtain ⟨oc,od,kV,doc,pm,an,cdv,ct,osl,rfl,lk,hcd⟩:=F.ex
 have hc:cdv=.ref (tabC K f):=i_e tb lk
 subst hc
 exact j_k lk hcd S len fun A outer s H vs Q E hr hsp=>hbody A outer s H vs Q E hr hsp
end L2
namespace Cw
open PySem L2
open PySem.W (nsIn keepIn codeIn findIn fnOf mg_of kitOne)
open PyProof.Rows (mulOk_of_bits)
theorem zqe {α β:Type} {l:List α} {f:α->β}:(l.map f).length=l.length:=List.length_map ..
theorem zqa {α:Type} {l:List α} {i:Nat} {a:α} (h:l[i]?=some a):∃ h:i < l.length,l[i]=a:=List.getElem?_eq_some_iff.mp h
theorem zqb {α:Type} {l:List α} {i:Nat} {a:α} (h:l[i]?=some a):a∈l:=List.mem_of_getElem? h
theorem zqc {α:Type} {l:List α} {i:Nat} {a:α}:l.getD i a=l[i]?.getD a:=List.getD_eq_getElem?_getD
theorem zqd {α:Type} {l:List α} {i:Nat} (h:i < l.length):l[i]?=some l[i]:=List.getElem?_eq_getElem h
open PySem.W (Frag)
abbrev LM:=List (List Int)
noncomputable def top (i:Nat):Stmt:=PySem.Challenge.pw_crystalwords_k27_kept_and_refused.main.body.getD i (.Pass ⟨0,0,0,0⟩)
noncomputable abbrev s_r:Stmt:=top 19
noncomputable abbrev N_r:List Str:=["one","other","greater","lesser","remainder"]
noncomputable abbrev s_s:Stmt:=top 20
noncomputable abbrev N_s:List Str:=["one","other"]
noncomputable abbrev s_q:Stmt:=top 22
noncomputable abbrev N_q:List Str:=["tops","under","common","top"]
noncomputable abbrev s_j:Stmt:=top 23
noncomputable abbrev N_j:List Str:=["one","under"]
noncomputable abbrev s_d:Stmt:=top 25
noncomputable abbrev N_d:List Str:=["size"]
noncomputable abbrev s_w:Stmt:=top 26
noncomputable abbrev N_w:List Str:=["one","other"]
noncomputable abbrev s_t:Stmt:=top 27
noncomputable abbrev N_t:List Str:=["rows"]
noncomputable abbrev s_v:Stmt:=top 29
noncomputable abbrev N_v:List Str:=["one","other","count"]
noncomputable abbrev s_p:Stmt:=top 30
noncomputable abbrev N_p:List Str:=["table","i","j","held"]
noncomputable abbrev s_c:Stmt:=top 31
noncomputable abbrev N_c:List Str:=["table","i"]
noncomputable abbrev s_5:Stmt:=e_E (top 32) 0
noncomputable abbrev N_5:List Str:=["self","rows","units"]
noncomputable abbrev s_g:Stmt:=e_E (top 32) 1
noncomputable abbrev N_g:List Str:=["self","i","j","count"]
noncomputable abbrev s_0:Stmt:=e_E (top 32) 2
noncomputable abbrev N_0:List Str:=["self","top","k","lines","standing"]
noncomputable abbrev s_4:Stmt:=e_E (top 32) 3
noncomputable abbrev N_4:List Str:=["self","top","k","standing","i","j"]
noncomputable abbrev s_2:Stmt:=e_E (top 32) 4
noncomputable abbrev N_2:List Str:=["self","top","k","i"]
noncomputable abbrev s_f:Stmt:=top 33
noncomputable abbrev N_f:List Str:=["rows","width","steps","top","k","form","record"]
noncomputable abbrev s_k:Stmt:=top 35
noncomputable abbrev N_k:List Str:=["form","leads","i","row","standing"]
noncomputable abbrev s_l:Stmt:=top 36
noncomputable abbrev N_l:List Str:=["form","leads","tops","under","scale","lead","numbers","row","left"]
noncomputable abbrev s_a:Stmt:=top 37
noncomputable abbrev N_a:List Str:=["rows","spot","fits","steps","form","record","leads","tops","i"]
noncomputable abbrev s_u:Stmt:=top 38
noncomputable abbrev N_u:List Str:=["rows","tops","under"]
noncomputable abbrev s_1:Stmt:=top 39
noncomputable abbrev N_1:List Str:=["rows","tops","under","spot","told"]
noncomputable abbrev s_o:Stmt:=top 41
noncomputable abbrev N_o:List Str:=["_law_script","_law_k"]
noncomputable abbrev s_i:Stmt:=top 43
noncomputable abbrev N_i:List Str:=["_law_cell_here","_law_way","_law_most","_law_number_here"]
noncomputable abbrev s_h:Stmt:=top 44
noncomputable abbrev N_h:List Str:=["_law_script","_law_start","_law_many","_law_way","_law_most","_law_cells","_law_rows_here","_law_i","_law_row","_law_by"]
noncomputable abbrev s_7:Stmt:=top 45
noncomputable abbrev N_7:List Str:=["_law_script","_law_k"]
noncomputable abbrev s_9:Stmt:=top 46
noncomputable abbrev N_9:List Str:=["_law_e","_law_other"]
noncomputable abbrev s_6:Stmt:=top 47
noncomputable abbrev N_6:List Str:=["_law_rows_here","_law_tops","_law_whole","_law_refused_here","_law_e"]
noncomputable abbrev s_n:Stmt:=top 48
noncomputable abbrev N_n:List Str:=["_law_one","_law_other"]
noncomputable abbrev s_3:Stmt:=top 49
noncomputable abbrev N_3:List Str:=["_law_found","_law_rows_here"]
noncomputable abbrev s_b:Stmt:=top 50
noncomputable abbrev N_b:List Str:=["_law_found","_law_rows_here","_law_tops","_law_low","_law_whole","_law_by","_law_here","_law_row","_law_top"]
noncomputable abbrev s_e:Stmt:=top 51
noncomputable abbrev N_e:List Str:=["_law_told"]
noncomputable abbrev s_x:Stmt:=top 52
noncomputable abbrev N_x:List Str:=["_law_script","_law_rows_here","_law_n","_law_tops","_law_low","_law_handed","_law_told","_law_kept","_law_first","_law_second"]
local macro_rules | `(tactic| walk_at "s")=>`(tactic| exact ⟨rfl,rfl,rfl,by decide +kernel,rfl,by decide +kernel,by decide +kernel⟩)
local macro_rules | `(tactic| walk_at "v")=>`(tactic| (intro _ _ _ _ h; first | (obtain ⟨_,hh,_⟩:=h; subst hh; rfl) | (obtain ⟨_,_,hh,_⟩:=h; subst hh; rfl) | (obtain ⟨_,_,_,hh,_⟩:=h; subst hh; rfl) | (obtain ⟨_,_,_,_,hh,_⟩:=h; subst hh; rfl) | (obtain ⟨_,_,_,_,_,hh,_⟩:=h; subst hh; rfl) | (obtain ⟨_,_,_,_,_,_,hh,_⟩:=h; subst hh; rfl) | (obtain ⟨_,_,_,_,_,_,_,hh,_⟩:=h; subst hh; rfl) | (obtain ⟨_,_,_,_,_,_,_,_,hh,_⟩:=h; subst hh; rfl) | (obtain ⟨_,_,_,_,_,_,_,_,_,_,hh,_⟩:=h; subst hh; rfl) | (obtain ⟨_,_,_,_,_,_,_,_,_,_,_,_,hh,_⟩:=h; subst hh; rfl) | (obtain ⟨_,_,_,_,_,_,_,_,_,_,_,_,_,hh,_⟩:=h; subst hh; rfl) | (obtain ⟨_,_,_,_,_,_,_,_,_,_,_,_,_,_,hh,_⟩:=h; subst hh; rfl) | (obtain ⟨_,_,_,_,_,_,_,_,_,_,_,_,_,_,_,_,hh,_⟩:=h; subst hh; rfl)))
theorem sc_r:a_Q N_r ["one","other"] (a_G s_r):=by walk_at "s"
theorem sc_s:a_Q N_s ["one","other"] (a_G s_s):=by walk_at "s"
theorem sc_q:a_Q N_q ["tops","under"] (a_G s_q):=by walk_at "s"
theorem sc_j:a_Q N_j ["one"] (a_G s_j):=by walk_at "s"
theorem sc_d:a_Q N_d ["size"] (a_G s_d):=by walk_at "s"
theorem sc_w:a_Q N_w ["one","other"] (a_G s_w):=by walk_at "s"
theorem sc_t:a_Q N_t ["rows"] (a_G s_t):=by walk_at "s"
theorem sc_v:a_Q N_v ["one","other","count"] (a_G s_v):=by walk_at "s"
theorem sc_p:a_Q N_p ["table","i","j"] (a_G s_p):=by walk_at "s"
theorem sc_c:a_Q N_c ["table","i"] (a_G s_c):=by walk_at "s"
theorem sc_5:a_Q N_5 ["self","rows"] (a_G s_5):=by walk_at "s"
theorem sc_g:a_Q N_g ["self","i","j","count"] (a_G s_g):=by walk_at "s"
theorem sc_0:a_Q N_0 ["self","top","k"] (a_G s_0):=by walk_at "s"
theorem sc_4:a_Q N_4 ["self","top","k"] (a_G s_4):=by walk_at "s"
theorem sc_2:a_Q N_2 ["self","top","k"] (a_G s_2):=by walk_at "s"
theorem sc_f:a_Q N_f ["rows"] (a_G s_f):=by walk_at "s"
theorem sc_k:a_Q N_k ["form"] (a_G s_k):=by walk_at "s"
theorem sc_l:a_Q N_l ["form","leads","tops","under"] (a_G s_l):=by walk_at "s"
theorem sc_a:a_Q N_a ["rows","spot","fits"] (a_G s_a):=by walk_at "s"
theorem sc_u:a_Q N_u ["rows","tops","under"] (a_G s_u):=by walk_at "s"
theorem sc_1:a_Q N_1 ["rows","tops","under"] (a_G s_1):=by walk_at "s"
theorem sc_o:a_Q N_o ["_law_script","_law_k"] (a_G s_o):=by walk_at "s"
theorem sc_i:a_Q N_i ["_law_cell_here","_law_way"] (a_G s_i):=by walk_at "s"
theorem sc_h:a_Q N_h ["_law_script"] (a_G s_h):=by walk_at "s"
theorem sc_7:a_Q N_7 ["_law_script","_law_k"] (a_G s_7):=by walk_at "s"
theorem sc_9:a_Q N_9 ["_law_e"] (a_G s_9):=by walk_at "s"
theorem sc_6:a_Q N_6 ["_law_rows_here","_law_tops","_law_whole"] (a_G s_6):=by walk_at "s"
theorem sc_n:a_Q N_n ["_law_one","_law_other"] (a_G s_n):=by walk_at "s"
theorem sc_3:a_Q N_3 ["_law_found","_law_rows_here"] (a_G s_3):=by walk_at "s"
theorem sc_b:a_Q N_b ["_law_found","_law_rows_here","_law_tops","_law_low","_law_whole"] (a_G s_b):=by walk_at "s"
theorem sc_e:a_Q N_e ["_law_told"] (a_G s_e):=by walk_at "s"
theorem sc_x:a_Q N_x ["_law_script"] (a_G s_x):=by walk_at "s"
structure Adr where
 a_r:Addr
 d_r:FuncData
 a_s:Addr
 d_s:FuncData
 a_q:Addr
 d_q:FuncData
 a_j:Addr
 d_j:FuncData
 a_d:Addr
 d_d:FuncData
 a_w:Addr
 d_w:FuncData
 a_t:Addr
 d_t:FuncData
 a_v:Addr
 d_v:FuncData
 a_p:Addr
 d_p:FuncData
 a_c:Addr
 d_c:FuncData
 a_5:Addr
 d_5:FuncData
 a_g:Addr
 d_g:FuncData
 a_0:Addr
 d_0:FuncData
 a_4:Addr
 d_4:FuncData
 a_2:Addr
 d_2:FuncData
 a_f:Addr
 d_f:FuncData
 a_k:Addr
 d_k:FuncData
 a_l:Addr
 d_l:FuncData
 a_a:Addr
 d_a:FuncData
 a_u:Addr
 d_u:FuncData
 a_1:Addr
 d_1:FuncData
 a_o:Addr
 d_o:FuncData
 a_i:Addr
 d_i:FuncData
 a_h:Addr
 d_h:FuncData
 a_7:Addr
 d_7:FuncData
 a_9:Addr
 d_9:FuncData
 a_6:Addr
 d_6:FuncData
 a_n:Addr
 d_n:FuncData
 a_3:Addr
 d_3:FuncData
 a_b:Addr
 d_b:FuncData
 a_e:Addr
 d_e:FuncData
 a_x:Addr
 d_x:FuncData
 a_y:Addr
 a_8:Addr
 a_m:Addr
 a_13:Addr
 a_1a:Addr
 a_10:Addr
 a_1b:Addr
 a_18:Addr
 a_11:Addr
 a_1c:Addr
 a_15:Addr
 a_19:Addr
 a_16:Addr
 a_12:Addr
 a_z:Addr
 a_14:Addr
 a_17:Addr
structure Txt (K:Frag) (mg:Str->Option Value) (t:Adr):Prop where
 F_r:Fun K "divisor" "divisor" s_r t.a_r t.d_r
 m_r:mg "divisor" = some (.ref t.a_r)
 b_r:a_Z K t.d_r ["one","other"] []
 F_s:Fun K "nearest" "nearest" s_s t.a_s t.d_s
 m_s:mg "nearest" = some (.ref t.a_s)
 b_s:a_Z K t.d_s ["one","other"] []
 F_q:Fun K "place" "place" s_q t.a_q t.d_q
 m_q:mg "place" = some (.ref t.a_q)
 b_q:a_Z K t.d_q ["tops","under"] []
 F_j:Fun K "rest_place" "rest_place" s_j t.a_j t.d_j
 m_j:mg "rest_place" = some (.ref t.a_j)
 b_j:a_Z K t.d_j ["one"] []
 F_d:Fun K "still_rows" "still_rows" s_d t.a_d t.d_d
 m_d:mg "still_rows" = some (.ref t.a_d)
 b_d:a_Z K t.d_d ["size"] []
 F_w:Fun K "dot" "dot" s_w t.a_w t.d_w
 m_w:mg "dot" = some (.ref t.a_w)
 b_w:a_Z K t.d_w ["one","other"] []
 F_t:Fun K "turned" "turned" s_t t.a_t t.d_t
 m_t:mg "turned" = some (.ref t.a_t)
 b_t:a_Z K t.d_t ["rows"] []
 F_v:Fun K "less" "less" s_v t.a_v t.d_v
 m_v:mg "less" = some (.ref t.a_v)
 b_v:a_Z K t.d_v ["one","other","count"] []
 F_p:Fun K "exchange" "exchange" s_p t.a_p t.d_p
 m_p:mg "exchange" = some (.ref t.a_p)
 b_p:a_Z K t.d_p ["table","i","j"] []
 F_c:Fun K "turn_signs" "turn_signs" s_c t.a_c t.d_c
 m_c:mg "turn_signs" = some (.ref t.a_c)
 b_c:a_Z K t.d_c ["table","i"] []
 F_5:Fun K "__init__" "Steps.__init__" s_5 t.a_5 t.d_5
 b_5:a_Z K t.d_5 ["self","rows"] []
 F_g:Fun K "take" "Steps.take" s_g t.a_g t.d_g
 b_g:a_Z K t.d_g ["self","i","j","count"] []
 F_0:Fun K "rising" "Steps.rising" s_0 t.a_0 t.d_0
 b_0:a_Z K t.d_0 ["self","top","k"] []
 F_4:Fun K "gather" "Steps.gather" s_4 t.a_4 t.d_4
 b_4:a_Z K t.d_4 ["self","top","k"] []
 F_2:Fun K "set_lead" "Steps.set_lead" s_2 t.a_2 t.d_2
 b_2:a_Z K t.d_2 ["self","top","k"] []
 F_f:Fun K "stairs" "stairs" s_f t.a_f t.d_f
 m_f:mg "stairs" = some (.ref t.a_f)
 b_f:a_Z K t.d_f ["rows"] []
 F_k:Fun K "leads_of" "leads_of" s_k t.a_k t.d_k
 m_k:mg "leads_of" = some (.ref t.a_k)
 b_k:a_Z K t.d_k ["form"] []
 F_l:Fun K "climbed" "climbed" s_l t.a_l t.d_l
 m_l:mg "climbed" = some (.ref t.a_l)
 b_l:a_Z K t.d_l ["form","leads","tops","under"] []
 F_a:Fun K "meeting" "meeting" s_a t.a_a t.d_a
 m_a:mg "meeting" = some (.ref t.a_a)
 b_a:a_Z K t.d_a ["rows","spot","fits"] []
 F_u:Fun K "met" "met" s_u t.a_u t.d_u
 m_u:mg "met" = some (.ref t.a_u)
 b_u:a_Z K t.d_u ["rows","tops","under"] []
 F_1:Fun K "whole_met" "whole_met" s_1 t.a_1 t.d_1
 m_1:mg "whole_met" = some (.ref t.a_1)
 b_1:a_Z K t.d_1 ["rows","tops","under"] []
 F_o:Fun K "_law_cell" "_law_cell" s_o t.a_o t.d_o
 m_o:mg "_law_cell" = some (.ref t.a_o)
 b_o:a_Z K t.d_o ["_law_script","_law_k"] []
 F_i:Fun K "_law_number" "_law_number" s_i t.a_i t.d_i
 m_i:mg "_law_number" = some (.ref t.a_i)
 b_i:a_Z K t.d_i ["_law_cell_here","_law_way"] []
 F_h:Fun K "_law_rows" "_law_rows" s_h t.a_h t.d_h
 m_h:mg "_law_rows" = some (.ref t.a_h)
 b_h:a_Z K t.d_h ["_law_script"] []
 F_7:Fun K "_law_from_end" "_law_from_end" s_7 t.a_7 t.d_7
 m_7:mg "_law_from_end" = some (.ref t.a_7)
 b_7:a_Z K t.d_7 ["_law_script","_law_k"] []
 F_9:Fun K "_law_another" "_law_another" s_9 t.a_9 t.d_9
 m_9:mg "_law_another" = some (.ref t.a_9)
 b_9:a_Z K t.d_9 ["_law_e"] []
 F_6:Fun K "_law_refused" "_law_refused" s_6 t.a_6 t.d_6
 m_6:mg "_law_refused" = some (.ref t.a_6)
 b_6:a_Z K t.d_6 ["_law_rows_here","_law_tops","_law_whole"] []
 F_n:Fun K "_law_dot" "_law_dot" s_n t.a_n t.d_n
 m_n:mg "_law_dot" = some (.ref t.a_n)
 b_n:a_Z K t.d_n ["_law_one","_law_other"] []
 F_3:Fun K "_law_shown_none" "_law_shown_none" s_3 t.a_3 t.d_3
 m_3:mg "_law_shown_none" = some (.ref t.a_3)
 b_3:a_Z K t.d_3 ["_law_found","_law_rows_here"] []
 F_b:Fun K "_law_right" "_law_right" s_b t.a_b t.d_b
 m_b:mg "_law_right" = some (.ref t.a_b)
 b_b:a_Z K t.d_b ["_law_found","_law_rows_here","_law_tops","_law_low","_law_whole"] []
 F_e:Fun K "_law_copied" "_law_copied" s_e t.a_e t.d_e
 m_e:mg "_law_copied" = some (.ref t.a_e)
 b_e:a_Z K t.d_e ["_law_told"] []
 F_x:Fun K "law" "law" s_x t.a_x t.d_x
 m_x:mg "law" = some (.ref t.a_x)
 b_x:a_Z K t.d_x ["_law_script"] []
 z_abs:mg "abs" = none
 z_enumerate:mg "enumerate" = none
 z_isinstance:mg "isinstance" = none
 z_len:mg "len" = none
 z_list:mg "list" = none
 z_max:mg "max" = none
 z_range:mg "range" = none
 z_reversed:mg "reversed" = none
 z_sorted:mg "sorted" = none
 z_sum:mg "sum" = none
 z_tuple:mg "tuple" = none
 z_zip:mg "zip" = none
 z_ValueError:mg "ValueError" = none
 m_y:mg "CrystalError" = some (.ref t.a_y)
 m_8:mg "NoPlace" = some (.ref t.a_8)
 m_m:mg "Steps" = some (.ref t.a_m)
 m_13:mg "NoChange" = some (.ref t.a_13)
 m_1a:mg "NoDeed" = some (.ref t.a_1a)
 m_10:mg "NoDrawing" = some (.ref t.a_10)
 m_1b:mg "NoForm" = some (.ref t.a_1b)
 m_18:mg "NoName" = some (.ref t.a_18)
 m_11:mg "NoNumber" = some (.ref t.a_11)
 m_1c:mg "NoRow" = some (.ref t.a_1c)
 m_15:mg "NoSheet" = some (.ref t.a_15)
 m_19:mg "NoText" = some (.ref t.a_19)
 m_16:mg "NotKept" = some (.ref t.a_16)
 m_12:mg "NotLeast" = some (.ref t.a_12)
 m_z:mg "NotWithin" = some (.ref t.a_z)
 m_14:mg "OffSheet" = some (.ref t.a_14)
 m_17:mg "TooMany" = some (.ref t.a_17)
 cl_m:L2.Cls K t.a_m
 mk_m:L2.Mk K t.a_m t.a_5
 h_k:findIn K (.ref t.a_m) "lines" = some none
 h_8:findIn K (.ref t.a_m) "columns" = some none
 me_g:L2.Meth K t.a_m "take" t.a_g
 me_0:L2.Meth K t.a_m "rising" t.a_0
 me_4:L2.Meth K t.a_m "gather" t.a_4
 me_2:L2.Meth K t.a_m "set_lead" t.a_2
 x_8:PySem.W.excIn K t.a_8 [.type "ValueError",.type "Exception",.type "BaseException",.type "object"] "ValueError.__new__" = true
 tb_0:L2.tabOk K t.a_0=true
 tb_u:L2.tabOk K t.a_u=true
 tb_1:L2.tabOk K t.a_1=true
 h_r:(L2.tabP K t.a_0 == L2.tabP K t.a_u)=false
 h_s:(L2.tabP K t.a_0 == L2.tabP K t.a_1)=false
 h_t:(L2.tabP K t.a_u == L2.tabP K t.a_1)=false
 xm:PySem.W.exmOne K (.ref t.a_8) (.ref t.a_y)=some true
 h_u:findIn K (.ref t.a_8) "__getattribute__" = some (some (.builtin "BaseException.__getattribute__"))
 h_v:findIn K (.ref t.a_8) "__getattr__" = some none
 h_w:findIn K (.ref t.a_8) "__class__" = some (some (.builtin "object.__class__"))
 h_x:PySem.W.specialIn K (.builtin "object.__class__") "__get__" = some (some (.builtin "getset_descriptor.__get__"))
 h_y:PySem.W.takesIn K (.builtin "object.__class__")=some true
 h_z:PySem.W.mroIn K t.a_8 (.type "object")=some true
 e_bx:PySem.W.mroIn K t.a_8 (.type "BaseException")=some true
 i_VE:kitOne K (.ref t.a_8) (.type "ValueError")=some true
 i_8:kitOne K (.ref t.a_8) (.ref t.a_8)=some true
 i_13:kitOne K (.ref t.a_8) (.ref t.a_13)=some false
 i_1a:kitOne K (.ref t.a_8) (.ref t.a_1a)=some false
 i_10:kitOne K (.ref t.a_8) (.ref t.a_10)=some false
 i_1b:kitOne K (.ref t.a_8) (.ref t.a_1b)=some false
 i_18:kitOne K (.ref t.a_8) (.ref t.a_18)=some false
 i_11:kitOne K (.ref t.a_8) (.ref t.a_11)=some false
 i_1c:kitOne K (.ref t.a_8) (.ref t.a_1c)=some false
 i_15:kitOne K (.ref t.a_8) (.ref t.a_15)=some false
 i_19:kitOne K (.ref t.a_8) (.ref t.a_19)=some false
 i_16:kitOne K (.ref t.a_8) (.ref t.a_16)=some false
 i_12:kitOne K (.ref t.a_8) (.ref t.a_12)=some false
 i_z:kitOne K (.ref t.a_8) (.ref t.a_z)=some false
 i_14:kitOne K (.ref t.a_8) (.ref t.a_14)=some false
 i_17:kitOne K (.ref t.a_8) (.ref t.a_17)=some false
 bl:∀ (s:Shared) (u:Value),BindsTo s t.d_x ⟨[u],[]⟩ [("_law_script",u)]
local macro_rules | `(tactic| walk_at "r")=>`(tactic| simp only [tSeq,tAsg,a_R,tVar,tC,tOp,o_t,o_O,o_P,tUn,g_h,tB,tIfS,tIf,tAnd,tOr,tNot,n_N,tOrV,n_O,tRet,o_L,n_Q,h_R,d_Q,g_o,b_O,tNil,tCB,tTup,tLst,tPar,c_F,tBM,tBM0,tSl,j_m,f_X,List.getElem?_cons_zero,List.getElem?_cons_succ,Option.some.injEq,exists_eq_left',exists_eq_left,List.set_cons_zero,List.set_cons_succ,List.cons.injEq,V.int.injEq,V.bl.injEq,V.ref.injEq,and_true,true_and,List.append_nil,ne_eq,exists_and_left,and_assoc,↓reduceIte,Bool.not_true,Bool.not_false,Bool.false_eq_true])
noncomputable def gcdI (a b:Int):Int:=(Int.gcd a b:Int)
noncomputable def absI (u:Int):Int:=if u < 0 then -u else u
noncomputable def gl (u:Int) (ns:List Int):Int:=ns.foldl gcdI (absI u)
theorem i_h (u:Int):0<=absI u:=by unfold absI; split <;> omega
theorem l_w {d u:Int}:d∣absI u ↔ d∣u:=by
 unfold absI
 split
 ·exact Int.dvd_neg
 ·exact Iff.rfl
theorem h_a {d:Int}:∀ (ns:List Int) (c:Int),d∣ns.foldl gcdI c ↔ d∣c/\∀ t∈ns,d∣t
 | [],c=>by simp
 | t :: r,c=>by
  rw [List.foldl_cons,h_a r]
  unfold gcdI
  rw [Int.dvd_coe_gcd_iff]
  constructor
  ·rintro ⟨⟨h1,h2⟩,h3⟩
   refine ⟨h1,fun x hx=>?_⟩
   rcases List.mem_cons.mp hx with e | e
   ·rw [e]; exact h2
   ·exact h3 x e
  ·rintro ⟨h1,h2⟩
   exact ⟨⟨h1,h2 t List.mem_cons_self⟩,fun x hx=>h2 x (List.mem_cons_of_mem _ hx)⟩
theorem e_h {d u:Int} {ns:List Int}:d∣gl u ns ↔ d∣u/\∀ t∈ns,d∣t:=by
 unfold gl
 rw [h_a,l_w]
theorem e_K:∀ (ns:List Int) (c:Int),0<=c->0<=ns.foldl gcdI c
 | [],_,h=>h
 | t :: r,c,_=>e_K r _ (Int.natCast_nonneg _)
theorem e_v (u:Int) (ns:List Int):0<=gl u ns:=e_K ns _ (i_h u)
theorem gl_u (u:Int) (ns:List Int):gl u ns∣u:=(e_h.mp (Int.dvd_refl _)).1
theorem h_H {u t:Int} {ns:List Int} (h:t∈ns):gl u ns∣t:=(e_h.mp (Int.dvd_refl _)).2 t h
theorem l_x {u:Int} (ns:List Int) (h:u≠0):0 < gl u ns:=by
 have:=e_v u ns
 rcases Int.lt_or_eq_of_le this with q | q
 ·exact q
 ·obtain ⟨k,e⟩:=gl_u u ns
  rw [← q,Int.zero_mul] at e
  exact absurd e h
theorem l_y {u v:Int} {ns ms:List Int} (h:∀ d:Int,(d∣u/\∀ t∈ns,d∣t) ↔ (d∣v/\∀ t∈ms,d∣t)):gl u ns=gl v ms :=
 Int.dvd_antisymm (e_v _ _) (e_v _ _) (e_h.mpr ((h _).mp (e_h.mp (Int.dvd_refl _)))) (e_h.mpr ((h _).mpr (e_h.mp (Int.dvd_refl _))))
theorem m_V (u:Int) (ns:List Int) (t:Int):gl u (ns++[t])=gcdI (gl u ns) t:=by unfold gl; rw [List.foldl_append]; rfl
noncomputable def cs (u:Int) (ns:List Int):Int:=if u < 0 then -(gl u ns) else gl u ns
theorem f_S {u:Int} (ns:List Int) (h:u≠0):cs u ns≠0:=by
 have:=l_x ns h
 unfold cs
 split <;> omega
theorem d_A {u x:Int} {ns:List Int} (h:gl u ns∣x):cs u ns∣x:=by
 unfold cs
 split
 ·exact Int.neg_dvd.mpr h
 ·exact h
theorem c_d {c x:Int} (hc:c≠0) (h:c∣x):x.fdiv c*c=x:=by
 obtain ⟨k,e⟩:=h
 subst e
 rw [Int.mul_comm c k,Int.mul_fdiv_cancel _ hc]
theorem h_b {u:Int} (ns:List Int) (h:u≠0):0 < u.fdiv (cs u ns):=by
 have e:=c_d (f_S ns h) (d_A (gl_u u ns))
 have g:=l_x ns h
 rcases Int.lt_trichotomy (u.fdiv (cs u ns)) 0 with q | q | q
 ·exfalso
  unfold cs at e q
  split at e
  ·rename_i hu
   rw [if_pos hu] at q
   have:=Int.mul_nonneg_of_nonpos_of_nonpos (Int.le_of_lt q) (show -(gl u ns)<=0 by omega)
   omega
  ·rename_i hu
   rw [if_neg hu] at q
   have:=Int.mul_neg_of_neg_of_pos q g
   omega
 ·rw [q,Int.zero_mul] at e
  exact absurd e.symm h
 ·exact q
theorem o_S {u t:Int} {ns:List Int} (h:u≠0) (ht:t∈ns):t*u.fdiv (cs u ns)=t.fdiv (cs u ns)*u:=by
 have e1:=c_d (f_S ns h) (d_A (gl_u u ns))
 have e2:=c_d (f_S ns h) (d_A (h_H (u:=u) ht))
 generalize u.fdiv (cs u ns)=a at *
 generalize t.fdiv (cs u ns)=b at *
 generalize cs u ns=c at *
 rw [← e2,← e1,Int.mul_assoc,Int.mul_comm c a]
theorem l_z {u:Int} {ns:List Int} (h:u≠0):gl (u.fdiv (cs u ns)) (ns.map fun t=>t.fdiv (cs u ns))=1:=by
 have hc:=f_S ns h
 have e1:=c_d hc (d_A (gl_u u ns))
 have n:=e_v (u.fdiv (cs u ns)) (ns.map fun t=>t.fdiv (cs u ns))
 have d:=e_h.mp (Int.dvd_refl (gl (u.fdiv (cs u ns)) (ns.map fun t=>t.fdiv (cs u ns))))
 generalize gl (u.fdiv (cs u ns)) (ns.map fun t=>t.fdiv (cs u ns))=g at *
 have key:g*cs u ns∣gl u ns:=by
  refine e_h.mpr ⟨?_,fun t ht=>?_⟩
  ·have:=Int.mul_dvd_mul d.1 (Int.dvd_refl (cs u ns))
   rw [e1] at this
   exact this
  ·have:=Int.mul_dvd_mul (d.2 _ (List.mem_map.mpr ⟨t,ht,rfl⟩)) (Int.dvd_refl (cs u ns))
   rw [c_d hc (d_A (h_H (u:=u) ht))] at this
   exact this
 have key2:g*cs u ns∣1*cs u ns:=by
  rw [Int.one_mul]
  unfold cs at key ⊢
  split at key
  ·rename_i hu
   rw [if_pos hu]
   exact Int.dvd_neg.mpr key
  ·rename_i hu
   rw [if_neg hu]
   exact key
 have:g∣1:=Int.dvd_of_mul_dvd_mul_right hc key2
 have:=Int.le_of_dvd (by decide) this
 rcases (show g=0\/g=1 by omega) with q | q
 ·subst q
  have z:=d.1
  rw [Int.zero_dvd] at z
  rw [z,Int.zero_mul] at e1
  exact absurd e1.symm h
 ·exact q
theorem i_i {d u t:Int} (h:d∣u):d∣t.fmod u ↔ d∣t:=by
 rw [Int.fmod_def]
 have q:d∣u*t.fdiv u:=Int.dvd_mul_of_dvd_left h
 constructor
 ·intro z
  have:=Int.dvd_add z q
  rwa [Int.sub_add_cancel] at this
 ·intro z
  exact Int.dvd_sub z q
theorem m_W (u:Int) (ns:List Int):gl u (ns.map fun t=>t.fmod u)=gl u ns:=by
 refine l_y fun d=>?_
 constructor
 ·rintro ⟨h1,h2⟩
  exact ⟨h1,fun t ht=>(i_i h1).mp (h2 _ (List.mem_map.mpr ⟨t,ht,rfl⟩))⟩
 ·rintro ⟨h1,h2⟩
  refine ⟨h1,fun x hx=>?_⟩
  obtain ⟨t,ht,e⟩:=List.mem_map.mp hx
  subst e
  exact (i_i h1).mpr (h2 t ht)
theorem k_m (g l:Int):Int.gcd l (Int.fmod g l)=Int.gcd g l:=by
 rw [Int.fmod_def,Int.gcd_sub_mul_left_right,Int.gcd_comm]
theorem l_A (a b:Int):Int.gcd (if a < 0 then -a else a) (if b < 0 then -b else b)=Int.gcd a b:=by
 split <;> split <;> simp
theorem j_D (a:Int):0<=(if a < 0 then -a else a):=by split <;> omega
theorem m_X {g l a b:Int} (h:Int.gcd g l=Int.gcd a b) (hg:0<=g) (z:l=0):g=gcdI a b:=by
 rw [z,Int.gcd_zero_right] at h
 unfold gcdI
 rw [← h]
 omega
noncomputable def l_B:Sp:=fun vs H Q _=>∃ a b,vs=[.int a,.int b]/\Q (.int (gcdI a b)) H
noncomputable abbrev sp_r:Sp:=l_B
noncomputable def c_b (H:Hp) (p:Addr) (ns:List Int) (u:Int):Prop:=∃ q,H p=some (.tup [.ref q,.int u])/\H q=some (.tup (ns.map V.int))
theorem c_b.up {H H':Hp} {p:Addr} {ns:List Int} {u:Int} (h:c_b H p ns u) (s:Same H H'):c_b H' p ns u:=let ⟨q,h1,h2⟩:=h; ⟨q,s _ _ h1,s _ _ h2⟩
noncomputable def redT (u:Int) (ns:List Int):List Int:=ns.map fun t=>t.fdiv (cs u ns)
noncomputable def redU (u:Int) (ns:List Int):Int:=u.fdiv (cs u ns)
noncomputable def d_E (u:Int) (ns:List Int):List Int:=ns.map fun t=>t.fmod u
noncomputable def sp_q (K:Frag) (C:Addr):Sp:=fun vs H Q E=>∃ (b:Bool) (a:Addr) (ns:List Int) (u:Int),vs=[.ref a,.int u]/\SqB b K H a (ns.map V.int)/\ns.length<=100 /\
 ((u=0\/ns=[])->E (.ref C) none H)/\(u≠0->ns≠[]->∀ p H',Same H H'->c_b H' p (redT u ns) (redU u ns)->Q (.ref p) H')
noncomputable def sp_j (K:Frag):Sp:=fun vs H Q _=>∃ (p:Addr) (ns:List Int) (u:Int),vs=[.ref p]/\c_b H p ns u/\ns.length<=100/\0 < u/\∀ p' H',Same H H'->c_b H' p' (d_E u ns) u->Q (.ref p') H'
theorem k_n {α:Type} {ns:List α} {i:Nat} {n:α} (h:ns[i]?=some n):ns.take (i+1)=ns.take i++[n]:=by
 rw [List.take_add_one,h]
 rfl
noncomputable def sp_w (K:Frag):Sp:=fun vs H Q _=>∃ (b1 b2:Bool) (p q:Addr) (ms ns:List Int),vs=[.ref p,.ref q]/\SqB b1 K H p (ms.map V.int)/\SqB b2 K H q (ns.map V.int)/\ms.length=ns.length/\ms.length<=1000 /\
 (∀ (i:Nat) m n,ms[i]?=some m->ns[i]?=some n->IntMulOk m n)/\∀ H',Same H H'->Q (.int (dotI ms ns)) H'
noncomputable def idM (d:Nat):LM:=(List.range d).map fun i=>(List.range d).map fun k=>if i=k then (1:Int) else 0
noncomputable def sp_d:Sp:=fun vs H Q _=>∃ n:Nat,vs=[.int n]/\n<=1000/\∀ r H',H r=none->Same H H'->MatL H' r (idM n)->Q (.ref r) H'
section
variable {P:Program} {w:World} {K:Frag} {mg:Str->Option Value} {base:Heap} {t:Adr}
theorem o_A {a b:Int} {H:Hp} {Q:VK} {E:XK}:l_B [.int a,.int b] H Q E=Q (.int (gcdI a b)) H:=propext ⟨fun ⟨_,_,e,q⟩=>by cases e; exact q,fun q=>⟨_,_,rfl,q⟩⟩
theorem ok_r (T:Txt K mg t):FnOk P w K mg base CX0 1 t.a_r t.d_r ["one","other"] sp_r:=by
 refine T.F_r.ok sc_r (by walk_at "v") (fun cdv A outer s H vs Q E hr h=>?_)
 ·obtain ⟨a,b,rfl,k⟩:=h
  refine ⟨_,(a_C (a_L (i:=2) sc_r.nd rfl (Or.inl rfl) (a_J e_D rfl T.z_abs (by decide +kernel) (a_A (pv 0) a_B)))
   (a_C (a_L (i:=3) sc_r.nd rfl (Or.inl rfl) (a_J e_D rfl T.z_abs (by decide +kernel) (a_A (pv 1) a_B)))
   (a_C (h_S PassesOwn.never (a_X e_a (pv 3) a_D (a_V _))
   (a_C (a_L (i:=4) sc_r.nd rfl (Or.inl rfl) (a_O b_Q (pv 2) (pv 3)))
   (a_C (a_L (i:=2) sc_r.nd rfl (Or.inl rfl) (pv 3))
   (a_I (a_L (i:=3) sc_r.nd rfl (Or.inl rfl) (pv 4))))))
   (a_I (a_S (pv 2)))))),?_⟩
  show tSeq _ _ _ [some (.int a),some (.int b),none,none,none] H
  walk_at "r"
  refine ⟨fun m σ H1=>∃ g l r,σ=[some (.int a),some (.int b),some (.int g),some (.int l),r]/\H1=H/\0<=g/\0<=l/\Int.gcd g l=Int.gcd a b/\m=l.toNat,
   ⟨_,_,_,_,rfl,rfl,j_D a,j_D b,l_A a b,rfl⟩,?_⟩
  rintro m σ H1 ⟨g,l,r,rfl,rfl,hg,hl,e,rfl⟩
  walk_at "r"
  by_cases z:l=0
  ·rw [decide_eq_true z]
   refine iteF ?_
   rw [m_X e hg z]
   exact k
  ·rw [decide_eq_false z]
   refine iteT ⟨fun σ' H'=>σ'=[some (.int a),some (.int b),some (.int l),some (.int (g.fmod l)),some (.int (g.fmod l))]/\H'=H1,?_,z,rfl,rfl⟩
   rintro σ' H' ⟨rfl,rfl⟩
   have l1:=Int.fmod_lt_of_pos g (show 0 < l by omega)
   have l2:=Int.fmod_nonneg_of_pos g (show 0 < l by omega)
   exact ⟨(g.fmod l).toNat,by omega,_,_,_,rfl,rfl,hl,l2,by rw [k_m]; exact e,rfl⟩
theorem ok_d (T:Txt K mg t):FnOk P w K mg base CX0 1 t.a_d t.d_d ["size"] sp_d:=by
 refine T.F_d.ok sc_d (by walk_at "v") (fun cdv A outer s H vs Q E hr h=>?_)
 ·obtain ⟨n,rfl,hn,hQ⟩:=h
  refine ⟨_,(a_I (a_S (b_G (xs:=["i"]) (fr:=[("size",0)]) (g:=(a_R 0)) (tt:=(tEl (c_E (d_W (b_O (tVar 1) tNil)) (a_R 0) (tEl (tIf (g_h (tOp (rI0 fun i j=>.bl (decide (i=j))) (tVar 1) (tVar 0))) (tC (.int 1)) (tC (.int 0)))) 1 [("i",0)]))) (a_T (sc:=a_G s_d) (N:=N_d) rfl rfl (by decide +kernel)) rfl (c_f rfl T.z_range (a_A (pv 0) a_B)) (fun _ _ _ hE1=>(h_D (N:=["i","size"]) (i:=0) hE1 rfl (by decide +kernel) rfl)) (fun _ _ _ hE1=>(c_g (b_G (xs:=["k"]) (fr:=[("i",0)]) (g:=(a_R 0)) (tt:=(tEl (tIf (g_h (tOp (rI0 fun i j=>.bl (decide (i=j))) (tVar 1) (tVar 0))) (tC (.int 1)) (tC (.int 0))))) (a_T (N:=["i","size"]) hE1 rfl (by decide +kernel)) rfl (c_f rfl T.z_range (a_A (pv 1) a_B)) (fun _ _ _ hE2=>(b_z (N:=["k","i"]) (i:=0) hE2 rfl (by decide +kernel))) (fun _ _ _ hE2=>(c_g (h_Q (a_X c_D (pv 1) (pv 0) (a_V _)) a_D a_D))))))))),?_⟩
  show tRet _ _ [some (.int n)] H
  walk_at "r"
  refine a_Y fun B eB=>?_
  simp only [d_W]
  walk_at "r"
  refine ⟨by omega,by omega,fun m0 hm0=>?_⟩
  rw [Int.toNat_natCast]
  refine e_e (RowR m0 fun i=>(List.range n).map fun k=>if i=k then (1:Int) else 0) hm0 hn (RowR.mono (a:=m0)) ?_ ?_
  ·intro i H2 zs hi s2 ez Q' hQ'
   subst eB
   show c_E _ _ _ _ _ [some (.int (0+(i:Int))),some (.int n)] H2 Q'
   refine a_Y fun B eB=>?_
   simp only [d_W]
   walk_at "r"
   refine ⟨by omega,by omega,fun a2 ha2=>?_⟩
   rw [Int.toNat_natCast]
   refine e_e (fun k y _=>k < n/\y=.int (if i=k then 1 else 0)) ha2 hn (fun _ _ _ _ r _=>r) ?_ ?_
   ·intro k H3 zs3 hk s3 ez3 Q2 hQ2
    subst eB
    show tIf _ _ _ [some (.int (0+(k:Int))),some (.int (0+(i:Int)))] H3 Q2
    walk_at "r"
    by_cases z:i=k
    ·rw [decide_eq_true (by omega)]
     exact iteT (hQ2 _ _ (Same.refl _) ⟨hk,by rw [if_pos z]⟩)
    ·rw [decide_eq_false (by omega)]
     exact iteF (hQ2 _ _ (Same.refl _) ⟨hk,by rw [if_neg z]⟩)
   ·intro H3 ys s3 e3 hly hr3
    have ey:ys=((List.range n).map fun k=>if i=k then (1:Int) else 0).map V.int:=by
     refine c_k (by simpa using hly) fun j y e=>?_
     obtain ⟨hj,rfl⟩:=hr3 j y e
     exact ⟨_,by rw [List.getElem?_map,List.getElem?_range hj]; rfl,rfl⟩
    subst ey
    exact hQ' _ _ s3 ⟨a2,rfl,Ne.symm (a_H ez ha2),e3⟩
  ·intro H2 ys s2 e2 hly hr2
   have hM0:=MatL.of e2 hr2
   rw [hly] at hM0
   exact hQ m0 H2 hm0 s2 hM0
noncomputable def a_N (x y:List Int) (q:Int):List Int:=List.zipWith (fun a b=>a - q*b) x y
theorem h_c {x y:List Int} {q:Int} (h:x.length=y.length):(a_N x y q).length=x.length:=by
 unfold a_N
 rw [List.length_zipWith]
 omega
theorem e_L (q:Int):∀ (x y c:List Int),x.length=y.length->dotI (a_N x y q) c=dotI x c - q*dotI y c
 | [],[],c,_=>by simp [a_N,dotI]
 | a :: x,b :: y,[],_=>by simp [a_N,dotI]
 | a :: x,b :: y,e :: c,h=>by
  have ih:=e_L q x y c (by simpa using h)
  have e1:a_N (a :: x) (b :: y) q=(a - q*b) :: a_N x y q:=rfl
  rw [e1]
  simp only [dotI] at ih ⊢
  simp only [List.zipWith_cons_cons,List.sum_cons] at ih ⊢
  rw [ih]
  grind
 | [],b :: y,c,h=>by simp at h
 | a :: x,[],c,h=>by simp at h
noncomputable def rowT (cs:LM) (r:List Int):List Int:=cs.map fun c=>dotI r c
theorem k_o {cs:LM} {x y:List Int} {q:Int} (h:x.length=y.length):rowT cs (a_N x y q)=a_N (rowT cs x) (rowT cs y) q:=by
 unfold rowT a_N
 rw [List.zipWith_map_left,List.zipWith_map_right]
 refine List.ext_getElem (by simp) fun i h1 h2=>?_
 simp only [List.getElem_map,List.getElem_zipWith]
 exact e_L q x y _ h
noncomputable def c_v:List Nat->Nat
 | []=>1
 | x :: r=>x*c_v r
theorem h_d:∀ (xs:List Nat) (i:Nat) (x y c:Nat),xs[i]?=some x->c*y<=x->c*c_v (xs.set i y)<=c_v xs
 | [],i,x,y,c,h,_=>by simp at h
 | z :: r,0,x,y,c,h,hc=>by
  obtain rfl:z=x:=by simpa using h
  show c*(y*c_v r)<=z*c_v r
  rw [← Nat.mul_assoc]
  exact Nat.mul_le_mul_right _ hc
 | z :: r,i+1,x,y,c,h,hc=>by
  have ih:=h_d r i x y c (by simpa using h) hc
  show c*(z*c_v (r.set i y))<=z*c_v r
  rw [Nat.mul_left_comm]
  exact Nat.mul_le_mul_left _ ih
theorem f_D:∀ (xs:List Nat),(∀ x∈xs,1<=x)->1<=c_v xs
 | [],_=>Nat.le_refl 1
 | x :: r,h=>Nat.mul_pos (h x (List.mem_cons_self ..)) (f_D r fun z hz=>h z (List.mem_cons_of_mem _ hz))
theorem e_M:∀ (xs:List Nat) (i:Nat) (x y:Nat),(∀ z∈xs,1<=z)->xs[i]?=some x->y < x->c_v (xs.set i y) < c_v xs
 | [],i,x,y,_,h,_=>by simp at h
 | z :: r,0,x,y,hp,h,hc=>by
  obtain rfl:z=x:=by simpa using h
  exact Nat.mul_lt_mul_of_pos_right hc (f_D r fun z hz=>hp z (List.mem_cons_of_mem _ hz))
 | z :: r,i+1,x,y,hp,h,hc=>by
  have ih:=e_M r i x y (fun z hz=>hp z (List.mem_cons_of_mem _ hz)) (by simpa using h) hc
  exact Nat.mul_lt_mul_of_pos_left ih (hp z (List.mem_cons_self ..))
noncomputable def BdM (M:Nat) (L:LM):Prop:=∀ r∈L,∀ x∈r,x.natAbs<=M
theorem m_Y {M:Nat} {x y:List Int} {q:Int} (hx:∀ z∈x,z.natAbs<=M) (hy:∀ z∈y,z.natAbs<=M):∀ z∈a_N x y q,z.natAbs<=(1+q.natAbs)*M:=fun z hz=>by
 unfold a_N at hz
 obtain ⟨i,hi,rfl⟩:=List.getElem_of_mem hz
 rw [List.getElem_zipWith]
 rw [List.length_zipWith] at hi
 have h1:=hx _ (List.getElem_mem (show i < x.length by omega))
 have h2:=hy _ (List.getElem_mem (show i < y.length by omega))
 have h3:=Int.natAbs_sub_le (x[i]'(by omega)) (q*y[i]'(by omega))
 rw [Int.natAbs_mul] at h3
 have h4:=Nat.mul_le_mul_left q.natAbs h2
 rw [Nat.add_mul,Nat.one_mul]
 omega
theorem m_Z {M i:Nat} {L:LM} {x y:List Int} {q:Int} (h:BdM M L) (hx:x∈L) (hy:y∈L):BdM ((1+q.natAbs)*M) (L.set i (a_N x y q)):=fun r hr z hz=>by
 rcases List.mem_or_eq_of_mem_set hr with e | e
 ·refine Nat.le_trans (h r e z hz) ?_
  rw [Nat.add_mul,Nat.one_mul]
  omega
 ·rw [e] at hz
  exact m_Y (h x hx) (h y hy) z hz
theorem e_w {x y:List Int} {q:Int} {k:Nat} (hx:k < x.length) (hy:k < y.length):(a_N x y q).getD k 0=x.getD k 0 - q*y.getD k 0:=by
 unfold a_N
 simp [zqc,List.getElem?_zipWith,hx,hy]
theorem i_j {c:Nat}:∀ (xs:List Nat),(∀ x∈xs,x<=c)->c_v xs<=c ^ xs.length
 | [],_=>by simp [c_v]
 | x :: r,h=>by
  show x*c_v r<=c ^ (r.length+1)
  rw [Nat.pow_succ,Nat.mul_comm (c ^ r.length)]
  exact Nat.mul_le_mul (h x (List.mem_cons_self ..)) (i_j r fun z hz=>h z (List.mem_cons_of_mem _ hz))
theorem i_k {a b:Int} (hb:0 < b):2*(a - ((2*a+b).fdiv (2*b))*b).natAbs<=b.natAbs:=by
 have h1:=Int.mul_fdiv_add_fmod (2*a+b) (2*b)
 have h2:=Int.fmod_nonneg_of_pos (2*a+b) (show 0 < 2*b by omega)
 have h3:=Int.fmod_lt_of_pos (2*a+b) (show 0 < 2*b by omega)
 generalize (2*a+b).fdiv (2*b)=q at *
 generalize (2*a+b).fmod (2*b)=r at *
 have e:2*b*q=2*(q*b):=by grind
 rw [e] at h1
 omega
theorem n_A {a b:Int} (hb:b≠0):2*(a - ((2*a+b).fdiv (2*b))*b).natAbs<=b.natAbs:=by
 rcases Int.lt_or_gt_of_ne hb with h | h
 ·have k:=i_k (a:=-a) (b:=-b) (by omega)
  have e:(2*-a+-b).fdiv (2*-b)=(2*a+b).fdiv (2*b):=by
   rw [show 2*-a+-b=-(2*a+b) by omega,show 2*-b=-(2*b) by omega,Int.neg_fdiv_neg]
  rw [e] at k
  generalize (2*a+b).fdiv (2*b)=q at *
  rw [show -a - q*-b=-(a - q*b) by grind,Int.natAbs_neg,Int.natAbs_neg] at k
  exact k
 ·exact i_k h
theorem j_E {a b q:Int} (hb:b≠0) (h:b.natAbs<=a.natAbs) (hr:2*(a - q*b).natAbs<=b.natAbs):1<=q.natAbs:=by
 have hbp:1<=b.natAbs:=Int.natAbs_pos.mpr hb
 refine Nat.pos_of_ne_zero fun z=>?_
 have:q=0:=Int.natAbs_eq_zero.mp z
 rw [this,Int.zero_mul,Int.sub_zero] at hr
 omega
noncomputable def wt (v:Int):Nat:=if v=0 then 1 else 2*v.natAbs
theorem l_C (v:Int):1<=wt v:=by
 unfold wt
 split <;> omega
theorem j_F {a b q:Int} (hb:b≠0) (h:b.natAbs<=a.natAbs) (hr:2*(a - q*b).natAbs<=b.natAbs):(1+q.natAbs)*wt (a - q*b)<=wt a:=by
 have hbp:1<=b.natAbs:=Int.natAbs_pos.mpr hb
 have hX:(q*b).natAbs=q.natAbs*b.natAbs:=Int.natAbs_mul q b
 have h1:q.natAbs<=q.natAbs*b.natAbs:=Nat.le_mul_of_pos_right _ hbp
 have h2:q.natAbs*(2*(a - q*b).natAbs)<=q.natAbs*b.natAbs:=Nat.mul_le_mul_left _ hr
 have h3:2<=q.natAbs->2*b.natAbs<=q.natAbs*b.natAbs:=fun h=>Nat.mul_le_mul_right _ h
 have h4:q.natAbs=1->q.natAbs*b.natAbs=b.natAbs:=fun h=>by rw [h,Nat.one_mul]
 have h5:q.natAbs=0->q.natAbs*b.natAbs=0:=fun h=>by rw [h,Nat.zero_mul]
 rw [show q.natAbs*(2*(a - q*b).natAbs)=2*(q.natAbs*(a - q*b).natAbs) by rw [Nat.mul_left_comm]] at h2
 have ha:a≠0:=fun e=>by rw [e] at h; simp at h; omega
 unfold wt
 rw [if_neg ha]
 split
 ·omega
 ·rename_i hz
  rw [show (1+q.natAbs)*(2*(a - q*b).natAbs)=2*(a - q*b).natAbs+2*(q.natAbs*(a - q*b).natAbs) by rw [Nat.add_mul,Nat.one_mul,Nat.mul_left_comm]]
  generalize q.natAbs*(a - q*b).natAbs=QR at *
  generalize q.natAbs*b.natAbs=QB at *
  generalize q*b=x at *
  omega
theorem n_B {a b q:Int} (hb:b≠0) (h:b.natAbs<=a.natAbs) (hr:2*(a - q*b).natAbs<=b.natAbs):wt (a - q*b) < wt a:=by
 have h1:=j_F hb h hr
 have h2:=j_E hb h hr
 have h4:=Nat.mul_le_mul_right (wt (a - q*b)) (show 2<=1+q.natAbs by omega)
 have h5:=l_C (a - q*b)
 omega
theorem o_T {B:Nat} {v:Int} (h:v.natAbs<=2 ^ B):wt v<=2 ^ (B+1):=by
 have hp:1<=2 ^ B:=Nat.two_pow_pos B
 rw [Nat.pow_succ]
 unfold wt
 split <;> omega
noncomputable def colW (k top:Nat) (L:LM):List Nat:=(L.drop top).map fun r=>wt (r.getD k 0)
theorem i_l {k top i:Nat} {L:LM} {r:List Int} (h:top<=i):colW k top (L.set i r)=(colW k top L).set (i - top) (wt (r.getD k 0)):=by
 unfold colW
 rw [List.drop_set,if_neg (by omega),List.map_set]
theorem i_m {k top:Nat} {L:LM}:∀ z∈colW k top L,1<=z:=fun z hz=>by
 unfold colW at hz
 obtain ⟨r,_,rfl⟩:=List.mem_map.mp hz
 exact l_C _
noncomputable def Pot (n k top b:Nat) (L:LM) (F:Nat):Prop:=F*c_v (colW k top L)<=2 ^ ((n - top)*(b+1))
theorem Pot.step {n k top b:Nat} {L:LM} {F i:Nat} {x y:List Int} {q:Int} (h:Pot n k top b L F) (hi:top<=i) (ex:L[i]?=some x) (kx:k < x.length) (ky:k < y.length)
  (hb:y.getD k 0≠0) (hab:(y.getD k 0).natAbs<=(x.getD k 0).natAbs) (hr:2*(x.getD k 0 - q*y.getD k 0).natAbs<=(y.getD k 0).natAbs) :
  Pot n k top b (L.set i (a_N x y q)) ((1+q.natAbs)*F)/\c_v (colW k top (L.set i (a_N x y q))) < c_v (colW k top L):=by
 have e:(colW k top L)[i - top]?=some (wt (x.getD k 0)):=by
  unfold colW
  rw [List.getElem?_map,List.getElem?_drop,show top+(i - top)=i by omega,ex]
  rfl
 have p:=j_F hb hab hr
 have w:=n_B hb hab hr
 rw [i_l hi,e_w kx ky]
 refine ⟨?_,e_M _ _ _ _ i_m e w⟩
 unfold Pot at h ⊢
 rw [i_l hi,e_w kx ky,Nat.mul_comm (1+q.natAbs) F,Nat.mul_assoc]
 exact Nat.le_trans (Nat.mul_le_mul_left F (h_d (colW k top L) (i - top) _ _ _ e p)) h
theorem Pot.start {n k top b:Nat} {L:LM} (hL:L.length=n) (hb:∀ (i:Nat) r,top<=i->L[i]?=some r->(r.getD k 0).natAbs<=2 ^ b):Pot n k top b L 1:=by
 unfold Pot
 rw [Nat.one_mul]
 refine Nat.le_trans (i_j (c:=2 ^ (b+1)) _ fun z hz=>?_) ?_
 ·unfold colW at hz
  obtain ⟨r,hr,rfl⟩:=List.mem_map.mp hz
  obtain ⟨m,hm,rfl⟩:=List.getElem_of_mem hr
  rw [List.length_drop] at hm
  exact o_T (hb (top+m) ((List.drop top L)[m]'(by rw [List.length_drop]; exact hm)) (by omega) (by rw [List.getElem_drop]; exact zqd (by omega)))
 ·unfold colW
  rw [zqe,List.length_drop,hL,← Nat.pow_mul,Nat.mul_comm]
  exact Nat.le_refl _
theorem Pot.end {n k top b:Nat} {L:LM} {F:Nat} (h:Pot n k top b L F):F<=2 ^ ((n - top)*(b+1)):=by
 unfold Pot at h
 have:=Nat.mul_le_mul_left F (f_D _ (i_m (k:=k) (top:=top) (L:=L)))
 omega
theorem d_F (q:Int):∀ (c x y:List Int),x.length=y.length->dotI c (a_N x y q)=dotI c x - q*dotI c y
 | c,[],[],_=>by simp [a_N,dotI]
 | [],a :: x,b :: y,_=>by simp [dotI]
 | e :: c,a :: x,b :: y,h=>by
  have ih:=d_F q c x y (by simpa using h)
  have e1:a_N (a :: x) (b :: y) q=(a - q*b) :: a_N x y q:=rfl
  rw [e1]
  simp only [dotI] at ih ⊢
  simp only [List.zipWith_cons_cons,List.sum_cons] at ih ⊢
  rw [ih]
  grind
 | c,[],b :: y,h=>by simp at h
 | c,a :: x,[],h=>by simp at h
noncomputable def Inj (d n:Nat) (L:LM):Prop:=∀ v:List Int,v.length=n->(∀ r∈L,dotI (r.drop d) v=0)->∀ x∈v,x=0
theorem k_p {x y:List Int} {q:Int} {d:Nat}:(a_N x y q).take d=a_N (x.take d) (y.take d) q:=by unfold a_N; rw [List.take_zipWith]
theorem f_E {x y:List Int} {q:Int} {d:Nat}:(a_N x y q).drop d=a_N (x.drop d) (y.drop d) q:=by unfold a_N; rw [List.drop_zipWith]
theorem b_S {α:Type} {L:List α} {i:Nat} {r x:α} (h:x∈L.set i r):x=r\/x∈L:=by
 rcases List.mem_or_eq_of_mem_set h with h | h
 ·exact .inr h
 ·exact .inl h
theorem l_D {cs:LM} {d:Nat} {x y:List Int} {q:Int} (hl:x.length=y.length) (hx:x.take d=rowT cs (x.drop d)) (hy:y.take d=rowT cs (y.drop d)):(a_N x y q).take d=rowT cs ((a_N x y q).drop d):=by
 rw [k_p,f_E,hx,hy,k_o (by rw [List.length_drop,List.length_drop,hl])]
theorem n_C {d n i j:Nat} {L:LM} {x y:List Int} {q:Int} (h:Inj d n L) (hi:L[i]?=some x) (hj:L[j]?=some y) (ne:i≠j) (hl:x.length=y.length):Inj d n (L.set i (a_N x y q)):=fun v hv hz=>by
 have ey:dotI (y.drop d) v=0:=hz y (by
  have:(L.set i (a_N x y q))[j]?=some y:=by rw [List.getElem?_set_ne ne]; exact hj
  exact zqb this)
 have e1:=hz (a_N x y q) (by
  have hlt:=(zqa hi).1
  exact zqb (show (L.set i (a_N x y q))[i]?=some _ by rw [List.getElem?_set_self hlt]))
 rw [f_E,e_L q _ _ _ (by rw [List.length_drop,List.length_drop,hl]),ey,Int.mul_zero,Int.sub_zero] at e1
 refine h v hv fun r hr=>?_
 obtain ⟨m,hm,rfl⟩:=List.getElem_of_mem hr
 by_cases e:m=i
 ·subst e
  have:L[m]=x:=by have:=zqd hm; rw [hi] at this; exact (Option.some.inj this).symm
  rw [this]; exact e1
 ·refine hz _ (zqb (i:=m) ?_)
  rw [List.getElem?_set_ne (fun z=>e z.symm)]
  exact zqd hm
theorem c_U {L:LM} {a b:Nat} {x y:List Int} (ha:L[a]?=some x) (hb:L[b]?=some y) (m:Nat):((L.set a y).set b x)[m]?=if m=b then some x else if m=a then some y else L[m]?:=by
 have al:=(zqa ha).1
 have bl:=(zqa hb).1
 by_cases h1:m=b
 ·subst h1
  rw [if_pos rfl,List.getElem?_set_self (by rw [List.length_set]; exact bl)]
 ·rw [if_neg h1,List.getElem?_set_ne (fun z=>h1 z.symm)]
  by_cases h2:m=a
  ·subst h2
   rw [if_pos rfl,List.getElem?_set_self al]
  ·rw [if_neg h2,List.getElem?_set_ne (fun z=>h2 z.symm)]
theorem e_i {L:LM} {a b:Nat} {x y:List Int} (ha:L[a]?=some x) (hb:L[b]?=some y) (r:List Int):r∈(L.set a y).set b x ↔ r∈L:=by
 constructor
 ·intro h
  rcases b_S h with e | e
  ·rw [e]; exact zqb ha
  ·rcases b_S e with e | e
   ·rw [e]; exact zqb hb
   ·exact e
 ·intro h
  obtain ⟨m,hm,rfl⟩:=List.getElem_of_mem h
  have e:=zqd hm
  by_cases h1:m=a
  ·refine zqb (i:=b) ?_
   rw [c_U ha hb,if_pos rfl,← ha,← h1,e]
  ·by_cases h2:m=b
   ·refine zqb (i:=a) ?_
    rw [c_U ha hb,if_neg (fun z=>h1 (h2.trans z.symm)),if_pos rfl,← hb,← h2,e]
   ·refine zqb (i:=m) ?_
    rw [c_U ha hb,if_neg h2,if_neg h1,e]
theorem g_b:∀ (x c:List Int),dotI (x.map fun z=>-z) c=-dotI x c
 | [],c=>by simp [dotI]
 | a :: x,[]=>by simp [dotI]
 | a :: x,b :: c=>by
  have h:=g_b x c
  simp only [dotI,List.map_cons,List.zipWith_cons_cons,List.sum_cons] at h ⊢
  rw [h]
  grind
theorem n_D {cs:LM} {d:Nat} {x:List Int} (hx:x.take d=rowT cs (x.drop d)):(x.map fun z=>-z).take d=rowT cs ((x.map fun z=>-z).drop d):=by
 rw [← List.map_take,← List.map_drop,hx]
 unfold rowT
 rw [List.map_map]
 refine List.map_congr_left fun c _=>?_
 show -dotI (x.drop d) c=dotI ((x.drop d).map fun z=>-z) c
 rw [g_b]
theorem i_Y (x:List Int) (k:Nat):(x.map fun z=>-z).getD k 0=-(x.getD k 0):=by
 rw [zqc,zqc,List.getElem?_map]
 cases x[k]? with
 | none=>rfl
 | some z=>rfl
theorem n_E {d n i:Nat} {L:LM} {x:List Int} (h:Inj d n L) (hi:L[i]?=some x):Inj d n (L.set i (x.map fun z=>-z)):=fun v hv hz=>by
 have il:=(zqa hi).1
 have e1:=hz (x.map fun z=>-z) (zqb (i:=i) (by rw [List.getElem?_set_self il]))
 rw [← List.map_drop,g_b] at e1
 refine h v hv fun r hr=>?_
 obtain ⟨m,hm,rfl⟩:=List.getElem_of_mem hr
 by_cases e:m=i
 ·subst e
  have:L[m]=x:=by have:=zqd hm; rw [hi] at this; exact (Option.some.inj this).symm
  rw [this]; omega
 ·refine hz _ (zqb (i:=m) ?_)
  rw [List.getElem?_set_ne (fun z=>e z.symm)]
  exact zqd hm
theorem d_O {r:List Int} {M k:Nat} (h:∀ z∈r,z.natAbs<=M):(r.getD k 0).natAbs<=M:=by
 by_cases hk:k < r.length
 ·exact h _ (L2.getD_mem hk)
 ·rw [zqc,List.getElem?_eq_none (by omega)]
  exact Nat.zero_le _
theorem e_j (u b:Int) (hb:0 < b):(u.fdiv b).natAbs<=u.natAbs:=by
 have e:b*u.fdiv b+u.fmod b=u:=Int.mul_fdiv_add_fmod u b
 have h1:=Int.fmod_nonneg_of_pos u hb
 have h2:=Int.fmod_lt_of_pos u hb
 generalize u.fdiv b=q at *
 generalize u.fmod b=r at *
 rcases Int.lt_or_le q 0 with hq | hq
 ·-- q<=-1
  have h3:b*q<=q:=by
   have:(b - 1)*q<=0:=Int.mul_nonpos_of_nonneg_of_nonpos (by omega) (by omega)
   rw [Int.sub_mul,Int.one_mul] at this
   omega
  have h4:b*q<=b*(-1):=Int.mul_le_mul_of_nonneg_left (by omega) (by omega)
  by_cases h5:q=-1
  ·subst h5
   omega
  ·have h6:b*(q+1)<=q+1:=by
    have:(b - 1)*(q+1)<=0:=Int.mul_nonpos_of_nonneg_of_nonpos (by omega) (by omega)
    rw [Int.sub_mul,Int.one_mul] at this
    omega
   rw [Int.mul_add,Int.mul_one] at h6
   omega
 ·have h3:q<=b*q:=by
   have:0<=(b - 1)*q:=Int.mul_nonneg (by omega) hq
   rw [Int.sub_mul,Int.one_mul] at this
   omega
  omega
theorem g_x:∀ (c x:List Int),dotI c (x.map fun z=>-z)=-dotI c x
 | [],x=>by simp [dotI]
 | a :: c,[]=>by simp [dotI]
 | a :: c,b :: x=>by
  have h:=g_x c x
  simp only [dotI,List.map_cons,List.zipWith_cons_cons,List.sum_cons] at h ⊢
  rw [h]
  grind
structure Ln (d n:Nat) (cs L C:LM):Prop where
 len:L.length=n
 wid:∀ r∈L,r.length=d+n
 lin:∀ r∈L,r.take d=rowT cs (r.drop d)
 inj:Inj d n L
 clen:C.length=n
 cwid:∀ r∈C,r.length=n
 dual:∀ (i j:Nat) r s,L[i]?=some r->C[j]?=some s->dotI (r.drop d) s=if i=j then 1 else 0
theorem Ln.take {d n:Nat} {cs L C:LM} {i j:Nat} {x y ci cj:List Int} {q:Int} (h:Ln d n cs L C) (ne:i≠j) (ex:L[i]?=some x) (ey:L[j]?=some y) (ei:C[i]?=some ci) (ej:C[j]?=some cj) :
  Ln d n cs (L.set i (a_N x y q)) (C.set j (a_N cj ci (-q))):=by
 have mx:x∈L:=zqb ex
 have my:y∈L:=zqb ey
 have mi:ci∈C:=zqb ei
 have mj:cj∈C:=zqb ej
 have hl:x.length=y.length:=by rw [h.wid x mx,h.wid y my]
 have hc:cj.length=ci.length:=by rw [h.cwid cj mj,h.cwid ci mi]
 have il:i < L.length:=(zqa ex).1
 have jl:j < C.length:=(zqa ej).1
 refine ⟨by rw [List.length_set]; exact h.len,fun r hr'=>?_,fun r hr'=>?_,n_C h.inj ex ey ne hl,by rw [List.length_set]; exact h.clen,fun r hr'=>?_,fun m m' r s er es=>?_⟩
 ·rcases b_S hr' with e | e
  ·rw [e,h_c hl]; exact h.wid x mx
  ·exact h.wid r e
 ·rcases b_S hr' with e | e
  ·rw [e]; exact l_D hl (h.lin x mx) (h.lin y my)
  ·exact h.lin r e
 ·rcases b_S hr' with e | e
  ·rw [e,h_c hc]; exact h.cwid cj mj
  ·exact h.cwid r e
 ·have dx:∀ {z:List Int},dotI ((a_N x y q).drop d) z=dotI (x.drop d) z - q*dotI (y.drop d) z:=fun {z}=>by
   rw [f_E,e_L q _ _ _ (by rw [List.length_drop,List.length_drop,hl])]
  by_cases e1:m=i
  ·subst e1
   rw [List.getElem?_set_self il] at er
   cases er
   rw [dx]
   by_cases e2:m'=j
   ·subst e2
    rw [List.getElem?_set_self jl] at es
    cases es
    rw [d_F _ _ _ _ hc,d_F _ _ _ _ hc,h.dual m m' x cj ex ej,h.dual m m x ci ex ei,h.dual m' m' y cj ey ej,h.dual m' m y ci ey ei,if_neg ne,if_pos rfl,if_pos rfl,if_neg (Ne.symm ne)]
    omega
   ·rw [List.getElem?_set_ne (fun w=>e2 w.symm)] at es
    rw [h.dual m m' x s ex es,h.dual j m' y s ey es,if_neg (show ¬ j=m' from fun w=>e2 w.symm),Int.mul_zero,Int.sub_zero]
  ·rw [List.getElem?_set_ne (fun w=>e1 w.symm)] at er
   by_cases e2:m'=j
   ·subst e2
    rw [List.getElem?_set_self jl] at es
    cases es
    rw [d_F _ _ _ _ hc,h.dual m m' r cj er ej,h.dual m i r ci er ei,if_neg e1,Int.mul_zero,Int.sub_zero]
   ·rw [List.getElem?_set_ne (fun w=>e2 w.symm)] at es
    exact h.dual m m' r s er es
theorem Ln.neg {d n:Nat} {cs L C:LM} {i:Nat} {x c:List Int} (h:Ln d n cs L C) (ex:L[i]?=some x) (ec:C[i]?=some c):Ln d n cs (L.set i (x.map fun z=>-z)) (C.set i (c.map fun z=>-z)):=by
 have mx:x∈L:=zqb ex
 have mi:c∈C:=zqb ec
 have il:i < L.length:=(zqa ex).1
 have jl:i < C.length:=(zqa ec).1
 refine ⟨by rw [List.length_set]; exact h.len,fun r hr'=>?_,fun r hr'=>?_,n_E h.inj ex,by rw [List.length_set]; exact h.clen,fun r hr'=>?_,fun m m' r s er es=>?_⟩
 ·rcases b_S hr' with e | e
  ·rw [e,zqe]; exact h.wid x mx
  ·exact h.wid r e
 ·rcases b_S hr' with e | e
  ·rw [e]; exact n_D (h.lin x mx)
  ·exact h.lin r e
 ·rcases b_S hr' with e | e
  ·rw [e,zqe]; exact h.cwid c mi
  ·exact h.cwid r e
 ·by_cases e1:m=i
  ·subst e1
   rw [List.getElem?_set_self il] at er
   cases er
   rw [← List.map_drop,g_b]
   by_cases e2:m'=m
   ·subst e2
    rw [List.getElem?_set_self jl] at es
    cases es
    rw [g_x,h.dual m' m' x c ex ec]
    omega
   ·rw [List.getElem?_set_ne (fun w=>e2 w.symm)] at es
    rw [h.dual m m' x s ex es,if_neg (show ¬ m=m' from fun w=>e2 w.symm)]
    rfl
  ·rw [List.getElem?_set_ne (fun w=>e1 w.symm)] at er
   by_cases e2:m'=i
   ·subst e2
    rw [List.getElem?_set_self jl] at es
    cases es
    rw [g_x,h.dual m m' r c er ec,if_neg e1]
    rfl
   ·rw [List.getElem?_set_ne (fun w=>e2 w.symm)] at es
    exact h.dual m m' r s er es
noncomputable def swp (a b m:Nat):Nat:=if m=b then a else if m=a then b else m
theorem j_G {a b m m':Nat}:swp a b m=swp a b m' ↔ m=m':=by
 unfold swp
 repeat' split
 all_goals omega
theorem h_I {L:LM} {a b:Nat} {x y:List Int} (ha:L[a]?=some x) (hb:L[b]?=some y) (m:Nat):((L.set a y).set b x)[m]?=L[swp a b m]?:=by
 rw [c_U ha hb]
 unfold swp
 repeat' split
 ·rw [ha]
 ·rw [hb]
 ·rfl
theorem Ln.swap {d n:Nat} {cs L C:LM} {a b:Nat} {x y u v:List Int} (h:Ln d n cs L C) (ex:L[a]?=some x) (ey:L[b]?=some y) (eu:C[a]?=some u) (ev:C[b]?=some v):Ln d n cs ((L.set a y).set b x) ((C.set a v).set b u):=by
 refine ⟨by rw [List.length_set,List.length_set]; exact h.len,fun r hr=>h.wid r ((e_i ex ey r).mp hr),fun r hr=>h.lin r ((e_i ex ey r).mp hr),fun z hz hv=>h.inj z hz fun r hr=>hv r ((e_i ex ey r).mpr hr),
  by rw [List.length_set,List.length_set]; exact h.clen,fun r hr=>h.cwid r ((e_i eu ev r).mp hr),fun m m' r s er es=>?_⟩
 rw [h_I ex ey] at er
 rw [h_I eu ev] at es
 rw [h.dual _ _ r s er es]
 by_cases e:m=m'
 ·rw [if_pos e,if_pos (j_G.mpr e)]
 ·rw [if_neg e,if_neg (fun z=>e (j_G.mp z))]
theorem e_N {L:LM} {a b:Nat} {x y:List Int} (hab:a<=b) (ha:L[a]?=some x) (hb:L[b]?=some y) {m:Nat} {r:List Int} (hm:a<=m) (e:((L.set a y).set b x)[m]?=some r):∃ m',a<=m'/\L[m']?=some r:=by
 rw [h_I ha hb] at e
 refine ⟨_,?_,e⟩
 unfold swp
 repeat' split
 all_goals omega
structure Phs (k top E:Nat) (L:LM) (V M:Nat):Prop where
 v:∀ (i:Nat) r,top<=i->L[i]?=some r->(r.getD k 0).natAbs<=V
 big:∀ (i:Nat) r,top<=i->L[i]?=some r->V < 2*(r.getD k 0).natAbs->∀ z∈r,z.natAbs<=M*E
 all:∀ (i:Nat) r,top<=i->L[i]?=some r->∀ z∈r,z.natAbs<=3*(M*E)
theorem Phs.less {k top E:Nat} {L:LM} {V M V1:Nat} (h:Phs k top E L V M) (hv:∀ (i:Nat) r,top<=i->L[i]?=some r->(r.getD k 0).natAbs<=V1):Phs k top E L V1 (3*M) :=
 ⟨hv,fun i r hi e _ z hz=>by rw [Nat.mul_assoc]; exact h.all i r hi e z hz,fun i r hi e z hz=>by
  have:=h.all i r hi e z hz
  rw [Nat.mul_assoc]
  omega⟩
theorem l_E {V1 V M P:Nat} (h:2*V1<=V) (hP:M*V ^ 3<=P):3*M*V1 ^ 3<=P:=by
 have h1:(2*V1) ^ 3<=V ^ 3:=Nat.pow_le_pow_left h 3
 rw [Nat.mul_pow] at h1
 have h2:=Nat.mul_le_mul_left M h1
 have e:M*(2 ^ 3*V1 ^ 3)=8*(M*V1 ^ 3):=by rw [show (2:Nat) ^ 3=8 from rfl,Nat.mul_left_comm]
 rw [e] at h2
 rw [Nat.mul_assoc]
 generalize M*V1 ^ 3=x at *
 omega
theorem o_B {q b V:Nat} (h2:2*b<=V) (hq:2*(q*b)<=2*V+b):(1+3*q)*b ^ 3<=V ^ 3:=by
 rcases Nat.lt_or_ge q 3 with h | h
 ·have h1:(2*b) ^ 3<=V ^ 3:=Nat.pow_le_pow_left h2 3
  rw [Nat.mul_pow] at h1
  refine Nat.le_trans (Nat.mul_le_mul_right _ ?_) h1
  show _<=8
  omega
 ·have h1:(2*q - 1)*b<=2*V:=by
   rw [Nat.sub_mul,Nat.one_mul,Nat.mul_assoc]
   omega
  have h3:((2*q - 1)*b) ^ 3<=(2*V) ^ 3:=Nat.pow_le_pow_left h1 3
  rw [Nat.mul_pow,Nat.mul_pow] at h3
  have h4:8*(1+3*q)<=(2*q - 1) ^ 3:=by
   have e:(2*q - 1) ^ 3=(2*q - 1)*((2*q - 1)*(2*q - 1)):=by rw [Nat.pow_succ,Nat.pow_two,Nat.mul_comm]
   have h5:5*5<=(2*q - 1)*(2*q - 1):=Nat.mul_le_mul (by omega) (by omega)
   have h6:=Nat.mul_le_mul_left (2*q - 1) h5
   rw [e]
   omega
  have h5:=Nat.mul_le_mul_right (b ^ 3) h4
  have e2:(2:Nat) ^ 3=8:=rfl
  rw [e2] at h3
  rw [Nat.mul_assoc] at h5
  generalize (1+3*q)*b ^ 3=x at *
  generalize V ^ 3=y at *
  omega
theorem i_n {M N:Nat} {x y:List Int} {q:Int} (hx:∀ z∈x,z.natAbs<=M) (hy:∀ z∈y,z.natAbs<=N):∀ z∈a_N x y q,z.natAbs<=M+q.natAbs*N:=fun z hz=>by
 unfold a_N at hz
 obtain ⟨i,hi,rfl⟩:=List.getElem_of_mem hz
 rw [List.getElem_zipWith]
 rw [List.length_zipWith] at hi
 have h1:=hx _ (List.getElem_mem (show i < x.length by omega))
 have h2:=hy _ (List.getElem_mem (show i < y.length by omega))
 have h3:=Int.natAbs_sub_le (x[i]'(by omega)) (q*y[i]'(by omega))
 rw [Int.natAbs_mul] at h3
 have h4:=Nat.mul_le_mul_left q.natAbs h2
 omega
theorem o_C {a b q:Int} (hr:2*(a - q*b).natAbs<=b.natAbs):2*(q.natAbs*b.natAbs)<=2*a.natAbs+b.natAbs:=by
 rw [← Int.natAbs_mul]
 generalize q*b=x at *
 omega
theorem Phs.step1 {k top E:Nat} {L:LM} {V M P i j:Nat} {x y:List Int} {q:Int} (h:Phs k top E L V M) (hP:M*V ^ 3<=P) (hi:top<=i) (hj:top<=j) (ne:i≠j) (ex:L[i]?=some x) (ey:L[j]?=some y) (kx:k < x.length) (ky:k < y.length)
  (hb:y.getD k 0≠0) (hab:(y.getD k 0).natAbs<=(x.getD k 0).natAbs) (hr:2*(x.getD k 0 - q*y.getD k 0).natAbs<=(y.getD k 0).natAbs)
  (mx:∀ (m:Nat) r,top<=m->m≠i->L[m]?=some r->(r.getD k 0).natAbs<=(y.getD k 0).natAbs) (hbig:V < 2*(x.getD k 0).natAbs) :
  ∃ V' M',1<=V'/\M'*V' ^ 3<=P/\Phs k top E (L.set i (a_N x y q)) V' M':=by
 have il:i < L.length:=(zqa ex).1
 have av:=h.v i x hi ex
 have bp:1<=(y.getD k 0).natAbs:=Int.natAbs_pos.mpr hb
 have qb:=o_C hr
 have atk:(a_N x y q).getD k 0=x.getD k 0 - q*y.getD k 0:=e_w kx ky
 have ne':∀ {m:Nat} {r:List Int},m≠i->(L.set i (a_N x y q))[m]?=some r->L[m]?=some r:=fun hm e=>by rw [List.getElem?_set_ne (Ne.symm hm)] at e; exact e
 have eq':∀ {r:List Int},(L.set i (a_N x y q))[i]?=some r->r=a_N x y q:=fun e=>by rw [List.getElem?_set_self il] at e; exact (Option.some.inj e).symm
 have bx:=h.big i x hi ex hbig
 rcases Nat.lt_or_ge V (2*(y.getD k 0).natAbs) with hy | hy
 ·have bY:=h.big j y hj ey hy
  have q2:q.natAbs<=2:=by
   rcases Nat.lt_or_ge q.natAbs 3 with w | w
   ·omega
   ·have:=Nat.mul_le_mul_right (y.getD k 0).natAbs w
    omega
  refine ⟨V,M,by omega,hP,⟨fun m r hm e=>?_,fun m r hm e hv=>?_,fun m r hm e=>?_⟩⟩
  ·by_cases c:m=i
   ·subst c; rw [eq' e,atk]; omega
   ·exact h.v m r hm (ne' c e)
  ·by_cases c:m=i
   ·subst c; rw [eq' e,atk] at hv; omega
   ·exact h.big m r hm (ne' c e) hv
  ·by_cases c:m=i
   ·subst c
    rw [eq' e]
    intro z hz
    have:=i_n (q:=q) bx bY z hz
    have:=Nat.mul_le_mul_right (M*E) q2
    omega
   ·exact h.all m r hm (ne' c e)
 ·have bY:=h.all j y hj ey
  have q1:1<=q.natAbs:=j_E hb hab hr
  have row:∀ z∈a_N x y q,z.natAbs<=M*(1+3*q.natAbs)*E:=fun z hz=>by
   have h1:=i_n (q:=q) bx bY z hz
   have e:M*(1+3*q.natAbs)*E=M*E+q.natAbs*(3*(M*E)):=by
    rw [Nat.mul_assoc,Nat.mul_comm (1+3*q.natAbs) E,← Nat.mul_assoc,Nat.mul_add,Nat.mul_one,Nat.mul_comm (M*E) (3*q.natAbs),Nat.mul_comm 3 q.natAbs,Nat.mul_assoc]
   omega
  have oth:∀ {z:Int},z.natAbs<=3*(M*E)->z.natAbs<=M*(1+3*q.natAbs)*E:=fun {z} hz=>by
   have e:M*(1+3*q.natAbs)*E=(1+3*q.natAbs)*(M*E):=by rw [Nat.mul_comm M,Nat.mul_assoc]
   have:=Nat.mul_le_mul_right (M*E) (show 3<=1+3*q.natAbs by omega)
   omega
  have every:∀ (m:Nat) r,top<=m->(L.set i (a_N x y q))[m]?=some r->∀ z∈r,z.natAbs<=M*(1+3*q.natAbs)*E:=fun m r hm e=>by
   by_cases c:m=i
   ·subst c; rw [eq' e]; exact row
   ·exact fun z hz=>oth (h.all m r hm (ne' c e) z hz)
  refine ⟨(y.getD k 0).natAbs,M*(1+3*q.natAbs),bp,?_,⟨fun m r hm e=>?_,fun m r hm e _=>every m r hm e,fun m r hm e z hz=>?_⟩⟩
  ·refine Nat.le_trans ?_ hP
   rw [Nat.mul_assoc]
   exact Nat.mul_le_mul_left _ (o_B hy (by omega))
  ·by_cases c:m=i
   ·subst c; rw [eq' e,atk]; omega
   ·exact mx m r hm c (ne' c e)
  ·have:=every m r hm e z hz
   omega
theorem Phs.step {k top E:Nat} {L:LM} {V M P i j:Nat} {x y:List Int} {q:Int} (h:Phs k top E L V M) (hP:M*V ^ 3<=P) (hi:top<=i) (hj:top<=j) (ne:i≠j) (ex:L[i]?=some x) (ey:L[j]?=some y) (kx:k < x.length) (ky:k < y.length)
  (hb:y.getD k 0≠0) (hab:(y.getD k 0).natAbs<=(x.getD k 0).natAbs) (hr:2*(x.getD k 0 - q*y.getD k 0).natAbs<=(y.getD k 0).natAbs)
  (mx:∀ (m:Nat) r,top<=m->m≠i->L[m]?=some r->(r.getD k 0).natAbs<=(y.getD k 0).natAbs) :
  ∃ V' M',1<=V'/\M'*V' ^ 3<=P/\Phs k top E (L.set i (a_N x y q)) V' M':=by
 have bp:1<=(y.getD k 0).natAbs:=Int.natAbs_pos.mpr hb
 rcases Nat.lt_or_ge V (2*(x.getD k 0).natAbs) with w | w
 ·exact h.step1 hP hi hj ne ex ey kx ky hb hab hr mx w
 ·refine (h.less (V1:=(x.getD k 0).natAbs) fun m r hm e=>?_).step1 (l_E w hP) hi hj ne ex ey kx ky hb hab hr mx (by omega)
  by_cases c:m=i
  ·subst c
   rw [ex] at e
   cases e
   exact Nat.le_refl _
  ·exact Nat.le_trans (mx m r hm c e) hab
theorem Phs.start {k top b:Nat} {L:LM} (h:∀ (i:Nat) r,top<=i->L[i]?=some r->∀ z∈r,z.natAbs<=2 ^ b):Phs k top (2 ^ b) L (2 ^ b) 1 :=
 ⟨fun i r hi e=>d_O (h i r hi e),fun i r hi e _ z hz=>by rw [Nat.one_mul]; exact h i r hi e z hz,fun i r hi e z hz=>by have:=h i r hi e z hz; omega⟩
theorem Phs.end {k top b:Nat} {L:LM} {V M:Nat} (h:Phs k top (2 ^ b) L V M) (hV:1<=V) (hP:M*V ^ 3<=2 ^ (3*b)):∀ (i:Nat) r,top<=i->L[i]?=some r->∀ z∈r,z.natAbs<=2 ^ (4*b+2):=fun i r hi e z hz=>by
 have h1:=h.all i r hi e z hz
 have h2:M<=2 ^ (3*b):=Nat.le_trans (Nat.le_mul_of_pos_right _ (Nat.pow_pos hV)) hP
 have h3:=Nat.mul_le_mul_right (2 ^ b) h2
 rw [← Nat.pow_add,show 3*b+b=4*b by omega] at h3
 have e4:2 ^ (4*b+2)=4*2 ^ (4*b):=by rw [Nat.pow_add]; omega
 omega
structure Gm (d n k top:Nat) (cs:LM) (b c:Nat) (L0 L C:LM) (F:Nat):Prop where
 ln:Ln d n cs L C
 f1:1<=F
 keep:∀ i,i < top->L[i]?=L0[i]?
 zero:∀ (i:Nat) r,top<=i->L[i]?=some r->∀ m,m < k->r.getD m 0=0
 ph:∃ V M,1<=V/\M*V ^ 3<=2 ^ (3*b)/\Phs k top (2 ^ b) L V M
 bc:BdM (F*2 ^ c) C
theorem Gm.bs {d n k top:Nat} {cs:LM} {b c:Nat} {L0 L C:LM} {F:Nat} (h:Gm d n k top cs b c L0 L C F):∀ (i:Nat) r,top<=i->L[i]?=some r->∀ z∈r,z.natAbs<=2 ^ (4*b+2):=let ⟨_,_,h1,h2,h3⟩:=h.ph; h3.end h1 h2
theorem Gm.step {d n k top:Nat} {cs:LM} {b c:Nat} {L0 L C:LM} {F i j:Nat} {x y ci cj:List Int} {q:Int} (h:Gm d n k top cs b c L0 L C F) (hk:k < d)
  (hi:top<=i) (hj:top<=j) (ne:i≠j) (ex:L[i]?=some x) (ey:L[j]?=some y) (ei:C[i]?=some ci) (ej:C[j]?=some cj)
  (hb:y.getD k 0≠0) (hab:(y.getD k 0).natAbs<=(x.getD k 0).natAbs) (hr:2*(x.getD k 0 - q*y.getD k 0).natAbs<=(y.getD k 0).natAbs) (mxk:∀ (m:Nat) r,top<=m->m≠i->L[m]?=some r->(r.getD k 0).natAbs<=(y.getD k 0).natAbs) :
  Gm d n k top cs b c L0 (L.set i (a_N x y q)) (C.set j (a_N cj ci (-q))) ((1+q.natAbs)*F):=by
 have mx:x∈L:=zqb ex
 have my:y∈L:=zqb ey
 have mi:ci∈C:=zqb ei
 have mj:cj∈C:=zqb ej
 have wx:=h.ln.wid x mx
 have wy:=h.ln.wid y my
 have il:i < L.length:=(zqa ex).1
 have one:1*F<=(1+q.natAbs)*F:=Nat.mul_le_mul_right _ (by omega)
 rw [Nat.one_mul] at one
 have f1:=h.f1
 refine ⟨h.ln.take ne ex ey ei ej,by omega,fun m hm=>?_,fun m r hm er z hz=>?_,?_,?_⟩
 ·rw [List.getElem?_set_ne (by omega)]; exact h.keep m hm
 ·by_cases e:m=i
  ·subst e
   rw [List.getElem?_set_self il] at er
   cases er
   rw [e_w (by omega) (by omega),h.zero m x hm ex z hz,h.zero j y hj ey z hz]
   simp
  ·rw [List.getElem?_set_ne (fun w=>e w.symm)] at er
   exact h.zero m r hm er z hz
 ·obtain ⟨V,M,_,hP,ph⟩:=h.ph
  exact ph.step hP hi hj ne ex ey (by omega) (by omega) hb hab hr mxk
 ·have:=m_Z (i:=j) (q:=-q) h.bc mj mi
  rw [Int.natAbs_neg] at this
  rw [Nat.mul_assoc]; exact this
theorem Gm.swap {d n k top:Nat} {cs:LM} {b c:Nat} {L0 L C:LM} {F p:Nat} {x y u v:List Int} (h:Gm d n k top cs b c L0 L C F) (hp:top<=p) (ex:L[top]?=some x) (ey:L[p]?=some y) (eu:C[top]?=some u) (ev:C[p]?=some v) :
  Gm d n k top cs b c L0 ((L.set top y).set p x) ((C.set top v).set p u) F:=by
 refine ⟨h.ln.swap ex ey eu ev,h.f1,fun m hm=>?_,fun m r hm e=>?_,?_,fun r hr=>h.bc r ((e_i eu ev r).mp hr)⟩
 ·rw [c_U ex ey,if_neg (by omega),if_neg (by omega)]; exact h.keep m hm
 ·obtain ⟨m',h1,h2⟩:=e_N hp ex ey hm e
  exact h.zero m' r h1 h2
 ·obtain ⟨V,M,h1,h2,h3⟩:=h.ph
  refine ⟨V,M,h1,h2,fun m r hm e=>?_,fun m r hm e=>?_,fun m r hm e=>?_⟩
  ·obtain ⟨m',q1,q2⟩:=e_N hp ex ey hm e
   exact h3.v m' r q1 q2
  ·obtain ⟨m',q1,q2⟩:=e_N hp ex ey hm e
   exact h3.big m' r q1 q2
  ·obtain ⟨m',q1,q2⟩:=e_N hp ex ey hm e
   exact h3.all m' r q1 q2
noncomputable def Gat (b:Bool) (k top:Nat) (L:LM):Prop :=
 (b=true/\(∃ r,L[top]?=some r/\r.getD k 0≠0)/\∀ (i:Nat) r,top < i->L[i]?=some r->r.getD k 0=0)\/(b=false/\∀ (i:Nat) r,top<=i->L[i]?=some r->r.getD k 0=0)
structure Ec (d n k:Nat) (cs:LM) (ks:List Nat) (b u c:Nat) (L C:LM):Prop where
 ln:Ln d n cs L C
 kn:ks.length<=n
 ksS:ks.Pairwise (· < ·)
 ksK:∀ j∈ks,j < k
 lead:∀ (i:Nat) r j,L[i]?=some r->ks[i]?=some j->0 < r.getD j 0/\∀ m,m < j->r.getD m 0=0
 above:∀ (i i':Nat) r r' j,i' < i->L[i]?=some r->L[i']?=some r'->ks[i]?=some j->0<=r'.getD j 0/\r'.getD j 0 < r.getD j 0
 zero:∀ (i:Nat) r,ks.length<=i->L[i]?=some r->∀ m,m < k->r.getD m 0=0
 bs:∀ (i:Nat) r,ks.length<=i->L[i]?=some r->∀ z∈r,z.natAbs<=2 ^ b
 bl:BdM (2 ^ u) L
 bc:BdM (2 ^ c) C
theorem Ec.gm {d n k:Nat} {cs:LM} {ks:List Nat} {b u c:Nat} {L C:LM} (h:Ec d n k cs ks b u c L C):Gm d n k ks.length cs b c L L C 1 :=
 ⟨h.ln,Nat.le_refl _,fun _ _=>rfl,h.zero,⟨2 ^ b,1,Nat.two_pow_pos b,by rw [Nat.one_mul,← Nat.pow_mul,Nat.mul_comm]; exact Nat.le_refl _,Phs.start h.bs⟩,by rw [Nat.one_mul]; exact h.bc⟩
theorem Ec.no {d n k:Nat} {cs:LM} {ks:List Nat} {b u c:Nat} {L C:LM} (h:Ec d n k cs ks b u c L C) (g:∀ (i:Nat) r,ks.length<=i->L[i]?=some r->r.getD k 0=0):Ec d n (k+1) cs ks b u c L C :=
 ⟨h.ln,h.kn,h.ksS,fun j hj=>Nat.lt_succ_of_lt (h.ksK j hj),h.lead,h.above,fun i r hi er m hm=>by
  rcases Nat.lt_or_ge m k with q | q
  ·exact h.zero i r hi er m q
  ·rw [show m=k by omega]; exact g i r hi er,h.bs,h.bl,h.bc⟩
structure Sl (d n k:Nat) (cs:LM) (ks:List Nat) (b u c:Nat) (i:Nat) (L C:LM):Prop where
 ln:Ln d n cs L C
 tn:ks.length < n
 ksS:ks.Pairwise (· < ·)
 ksK:∀ j∈ks,j < k
 lead:∀ (m:Nat) r j,L[m]?=some r->ks[m]?=some j->0 < r.getD j 0/\∀ m',m' < j->r.getD m' 0=0
 above:∀ (m m':Nat) r r' j,m' < m->L[m]?=some r->L[m']?=some r'->ks[m]?=some j->0<=r'.getD j 0/\r'.getD j 0 < r.getD j 0
 topl:∀ r,L[ks.length]?=some r->r.getD k 0≠0
 done:∀ (m:Nat) r r',m < i->L[m]?=some r'->L[ks.length]?=some r->0<=r'.getD k 0/\r'.getD k 0 < r.getD k 0
 low:∀ (m:Nat) r,ks.length<=m->L[m]?=some r->∀ m',m' < k->r.getD m' 0=0
 zero:∀ (m:Nat) r,ks.length < m->L[m]?=some r->r.getD k 0=0
 bs:∀ (m:Nat) r,ks.length<=m->L[m]?=some r->∀ z∈r,z.natAbs<=2 ^ b
 bu:∀ (m:Nat) r,i<=m->m < ks.length->L[m]?=some r->∀ z∈r,z.natAbs<=2 ^ u
 bl:∀ (m:Nat) r,m < i->L[m]?=some r->∀ z∈r,z.natAbs<=2 ^ (u+b+1)
 bc:∀ (m:Nat) s,m≠ks.length->C[m]?=some s->∀ z∈s,z.natAbs<=2 ^ c
 bt:∀ s,C[ks.length]?=some s->∀ z∈s,z.natAbs<=2 ^ c*(1+i*2 ^ u)
theorem h_J {F g b z:Nat} (h:z<=F*2 ^ b) (hF:F<=2 ^ g):z<=2 ^ (b+g):=by
 rw [Nat.add_comm,Nat.pow_add]
 exact Nat.le_trans h (Nat.mul_le_mul_right _ hF)
theorem Ec.yes {d n k:Nat} {cs:LM} {ks:List Nat} {b u c g:Nat} {L C L' C':LM} {F:Nat} {x:List Int} (h:Ec d n k cs ks b u c L C) (m:Gm d n k ks.length cs b c L L' C' F) (hF:F<=2 ^ g)
  (ex:L'[ks.length]?=some x) (nz:x.getD k 0≠0) (ga:∀ (i:Nat) r,ks.length < i->L'[i]?=some r->r.getD k 0=0):Sl d n k cs ks (4*b+2) u (c+g) 0 L' C':=by
 have tl:=(zqa ex).1
 have ln:=m.ln.len
 have up:∀ {i:Nat} {r:List Int},i < ks.length->L'[i]?=some r->L[i]?=some r:=fun hi e=>by rw [← m.keep _ hi]; exact e
 have kl:∀ {i j:Nat},ks[i]?=some j->i < ks.length:=fun e=>(zqa e).1
 refine ⟨m.ln,by omega,h.ksS,h.ksK,fun i r j er ej=>h.lead i r j (up (kl ej) er) ej,fun i i' r r' j hi er er' ej=>h.above i i' r r' j hi (up (kl ej) er) (up (Nat.lt_trans hi (kl ej)) er') ej,fun r er=>?_,fun i r r' hi=>by omega,m.zero,ga,
  m.bs,fun i r _ hi er=>h.bl r (zqb (up hi er)),fun i r hi=>by omega,fun i s _ es z hz=>h_J (m.bc s (zqb es) z hz) hF,fun s es z hz=>?_⟩
 ·rw [ex] at er
  cases er
  exact nz
 ·rw [Nat.zero_mul,Nat.add_zero,Nat.mul_one]
  exact h_J (m.bc s (zqb es) z hz) hF
theorem Sl.neg {d n k:Nat} {cs:LM} {ks:List Nat} {b u c:Nat} {L C:LM} {x s:List Int} (h:Sl d n k cs ks b u c 0 L C) (ex:L[ks.length]?=some x) (es:C[ks.length]?=some s) :
  Sl d n k cs ks b u c 0 (L.set ks.length (x.map fun z=>-z)) (C.set ks.length (s.map fun z=>-z)):=by
 have tl:=(zqa ex).1
 have cl:=(zqa es).1
 have kl:∀ {i j:Nat},ks[i]?=some j->i < ks.length:=fun e=>(zqa e).1
 have ne:∀ {i:Nat} {r:List Int},i≠ks.length->(L.set ks.length (x.map fun z=>-z))[i]?=some r->L[i]?=some r:=fun hi e=>by rw [List.getElem?_set_ne (Ne.symm hi)] at e; exact e
 have eq:∀ {r:List Int},(L.set ks.length (x.map fun z=>-z))[ks.length]?=some r->r=x.map fun z=>-z:=fun e=>by rw [List.getElem?_set_self tl] at e; exact (Option.some.inj e).symm
 have na:∀ {M:Nat} {y:List Int},(∀ z∈y,z.natAbs<=M)->∀ z∈y.map fun z=>-z,z.natAbs<=M:=fun hy z hz=>by
  obtain ⟨z',hz',rfl⟩:=List.mem_map.mp hz
  rw [Int.natAbs_neg]
  exact hy z' hz'
 refine ⟨h.ln.neg ex es,h.tn,h.ksS,h.ksK,fun m r j er ej=>h.lead m r j (ne (Nat.ne_of_lt (kl ej)) er) ej,fun m m' r r' j hm er er' ej=>h.above m m' r r' j hm (ne (Nat.ne_of_lt (kl ej)) er) (ne (Nat.ne_of_lt (Nat.lt_trans hm (kl ej))) er') ej,fun r er=>?_,fun m r r' hm=>by omega,
  fun m r hm er m' hm'=>?_,fun m r hm er=>h.zero m r hm (ne (by omega) er),fun m r hm er=>?_,fun m r h0 hm er=>h.bu m r h0 hm (ne (by omega) er),fun m r hm=>by omega,fun m s' hm es'=>?_,fun s' es'=>?_⟩
 ·rw [eq er,i_Y]
  have:=h.topl x ex
  omega
 ·by_cases e:m=ks.length
  ·subst e
   rw [eq er,i_Y,h.low _ x hm ex m' hm']
   rfl
  ·exact h.low m r hm (ne e er) m' hm'
 ·by_cases e:m=ks.length
  ·subst e
   rw [eq er]
   exact na (h.bs _ x hm ex)
  ·exact h.bs m r hm (ne e er)
 ·rw [List.getElem?_set_ne (Ne.symm hm)] at es'
  exact h.bc m s' hm es'
 ·rw [List.getElem?_set_self cl] at es'
  cases es'
  exact na (h.bt s es)
theorem k_q {a b:Int} (hb:0 < b):0<=a - a.fdiv b*b/\a - a.fdiv b*b < b:=by
 have h1:=Int.mul_fdiv_add_fmod a b
 have h2:=Int.fmod_nonneg_of_pos a hb
 have h3:=Int.fmod_lt_of_pos a hb
 rw [Int.mul_comm] at h1
 omega
theorem Sl.take {d n k:Nat} {cs:LM} {ks:List Nat} {b u c i:Nat} {L C:LM} {x y ci cj:List Int} (h:Sl d n k cs ks b u c i L C) (hi:i < ks.length) (hk:k < d) (ex:L[i]?=some x) (ey:L[ks.length]?=some y) (ei:C[i]?=some ci) (ej:C[ks.length]?=some cj)
  (pos:0 < y.getD k 0):Sl d n k cs ks b u c (i+1) (L.set i (a_N x y ((x.getD k 0).fdiv (y.getD k 0)))) (C.set ks.length (a_N cj ci (-((x.getD k 0).fdiv (y.getD k 0))))):=by
 have il:i < L.length:=(zqa ex).1
 have cl:=(zqa ej).1
 have kl:∀ {i j:Nat},ks[i]?=some j->i < ks.length:=fun e=>(zqa e).1
 have mx:=zqb ex
 have my:=zqb ey
 have wx:=h.ln.wid x mx
 have wy:=h.ln.wid y my
 have bq:((x.getD k 0).fdiv (y.getD k 0)).natAbs<=2 ^ u:=Nat.le_trans (e_j _ _ pos) (d_O (h.bu i x (Nat.le_refl _) hi ex))
 have rs:=k_q (a:=x.getD k 0) pos
 have ln:=h.ln.take (q:=(x.getD k 0).fdiv (y.getD k 0)) (Nat.ne_of_lt hi) ex ey ei ej
 have atk:(a_N x y ((x.getD k 0).fdiv (y.getD k 0))).getD k 0=x.getD k 0 - (x.getD k 0).fdiv (y.getD k 0)*y.getD k 0:=e_w (by omega) (by omega)
 generalize (x.getD k 0).fdiv (y.getD k 0)=q at *
 have ne:∀ {m:Nat} {r:List Int},m≠i->(L.set i (a_N x y q))[m]?=some r->L[m]?=some r:=fun hm e=>by rw [List.getElem?_set_ne (Ne.symm hm)] at e; exact e
 have eq:∀ {r:List Int},(L.set i (a_N x y q))[i]?=some r->r=a_N x y q:=fun e=>by rw [List.getElem?_set_self il] at e; exact (Option.some.inj e).symm
 have same:∀ m',m' < k->(a_N x y q).getD m' 0=x.getD m' 0:=fun m' hm'=>by
  rw [e_w (by omega) (by omega),h.low _ y (Nat.le_refl _) ey m' hm',Int.mul_zero,Int.sub_zero]
 have tb:∀ {m:Nat} {r:List Int},(L.set i (a_N x y q))[m]?=some r->∃ r0,L[m]?=some r0/\∀ m',m' < k->r.getD m' 0=r0.getD m' 0:=fun {m r} e=>by
  by_cases hm:m=i
  ·subst hm
   exact ⟨x,ex,fun m' hm'=>by rw [eq e,same m' hm']⟩
  ·exact ⟨r,ne hm e,fun _ _=>rfl⟩
 refine ⟨ln,h.tn,h.ksS,h.ksK,fun m r j er ej'=>?_,fun m m' r r' j hm er er' ej'=>?_,fun r er=>h.topl r (ne (by omega) er),fun m r r' hm er' er=>?_,fun m r hm er=>h.low m r hm (ne (by omega) er),fun m r hm er=>h.zero m r hm (ne (by omega) er),
  fun m r hm er=>h.bs m r hm (ne (by omega) er),fun m r h0 hm er=>h.bu m r (by omega) hm (ne (by omega) er),fun m r hm er=>?_,fun m s hm es=>?_,fun s es=>?_⟩
 ·have jk:=h.ksK j (zqb ej')
  obtain ⟨r0,e0,sm⟩:=tb er
  obtain ⟨l1,l2⟩:=h.lead m r0 j e0 ej'
  exact ⟨by rw [sm j jk]; exact l1,fun m' hm'=>by rw [sm m' (by omega)]; exact l2 m' hm'⟩
 ·have jk:=h.ksK j (zqb ej')
  obtain ⟨r0,e0,sm⟩:=tb er
  obtain ⟨r1,e1,sm1⟩:=tb er'
  rw [sm j jk,sm1 j jk]
  exact h.above m m' r0 r1 j hm e0 e1 ej'
 ·have er2:=ne (by omega) er
  rw [ey] at er2
  cases er2
  by_cases e:m=i
  ·subst e
   rw [eq er',atk]
   exact rs
  ·exact h.done m y r' (by omega) (ne e er') ey
 ·by_cases e:m=i
  ·subst e
   rw [eq er]
   intro z hz
   obtain ⟨j,hj,rfl⟩:=List.getElem_of_mem hz
   unfold a_N at hj ⊢
   rw [List.length_zipWith] at hj
   rw [List.getElem_zipWith]
   have b1:=h.bu m x (Nat.le_refl _) hi ex _ (List.getElem_mem (show j < x.length by omega))
   have b2:=h.bs _ y (Nat.le_refl _) ey _ (List.getElem_mem (show j < y.length by omega))
   have h3:=Int.natAbs_sub_le (x[j]'(by omega)) (q*y[j]'(by omega))
   rw [Int.natAbs_mul] at h3
   have h4:=Nat.mul_le_mul bq b2
   rw [← Nat.pow_add] at h4
   have h5:2 ^ u<=2 ^ (u+b):=Nat.pow_le_pow_right (by decide) (by omega)
   rw [Nat.pow_succ]
   omega
  ·exact h.bl m r (by omega) (ne e er)
 ·rw [List.getElem?_set_ne (Ne.symm hm)] at es
  exact h.bc m s hm es
 ·rw [List.getElem?_set_self cl] at es
  cases es
  intro z hz
  obtain ⟨j,hj,rfl⟩:=List.getElem_of_mem hz
  unfold a_N at hj ⊢
  rw [List.length_zipWith] at hj
  rw [List.getElem_zipWith]
  have b1:=h.bt cj ej _ (List.getElem_mem (show j < cj.length by omega))
  have b2:=h.bc i ci (by omega) ei _ (List.getElem_mem (show j < ci.length by omega))
  have h3:=Int.natAbs_sub_le (cj[j]'(by omega)) (-q*ci[j]'(by omega))
  rw [Int.natAbs_mul,Int.natAbs_neg] at h3
  have h4:=Nat.mul_le_mul bq b2
  have e:2 ^ c*(1+(i+1)*2 ^ u)=2 ^ c*(1+i*2 ^ u)+2 ^ u*2 ^ c:=by
   rw [Nat.add_mul,Nat.one_mul,← Nat.add_assoc,Nat.mul_add (2 ^ c) (1+i*2 ^ u) (2 ^ u),Nat.mul_comm (2 ^ c) (2 ^ u)]
  rw [e]
  omega
theorem Sl.end {d n k:Nat} {cs:LM} {ks:List Nat} {b u c:Nat} {L C:LM} (h:Sl d n k cs ks b u c ks.length L C) (hn:n<=63) (pos:∀ r,L[ks.length]?=some r->0 < r.getD k 0) :
  Ec d n (k+1) cs (ks++[k]) b (u+b+1) (c+u+6) L C:=by
 have kl:∀ {i j:Nat},(ks++[k])[i]?=some j->i < ks.length/\ks[i]?=some j\/i=ks.length/\j=k:=fun {i j} e=>by
  rcases Nat.lt_trichotomy i ks.length with q | q | q
  ·rw [List.getElem?_append_left q] at e; exact .inl ⟨q,e⟩
  ·subst q; rw [List.getElem?_append_right (Nat.le_refl _),Nat.sub_self] at e; exact .inr ⟨rfl,(Option.some.inj e).symm⟩
  ·rw [List.getElem?_append_right (by omega),List.getElem?_eq_none (by simp; omega)] at e; cases e
 have tn:=h.tn
 refine ⟨h.ln,by simp; omega,List.pairwise_append.mpr ⟨h.ksS,List.pairwise_singleton _ _,fun a ha b hb=>by rw [List.mem_singleton.mp hb]; exact h.ksK a ha⟩,fun j hj=>?_,fun i r j er ej=>?_,fun i i' r r' j hi er er' ej=>?_,fun i r hi er m hm=>?_,fun i r hi er=>h.bs i r (by simp at hi; omega) er,fun r hr z hz=>?_,fun s hs z hz=>?_⟩
 ·rcases List.mem_append.mp hj with e | e
  ·exact Nat.lt_succ_of_lt (h.ksK j e)
  ·rw [List.mem_singleton.mp e]; omega
 ·rcases kl ej with ⟨_,q⟩ | ⟨rfl,rfl⟩
  ·exact h.lead i r j er q
  ·exact ⟨pos r er,h.low _ r (Nat.le_refl _) er⟩
 ·rcases kl ej with ⟨_,q⟩ | ⟨rfl,rfl⟩
  ·exact h.above i i' r r' j hi er er' q
  ·exact h.done i' r r' hi er' er
 ·simp at hi
  rcases Nat.lt_or_ge m k with q | q
  ·exact h.low i r (by omega) er m q
  ·rw [show m=k by omega]; exact h.zero i r (by omega) er
 ·obtain ⟨m,hm,rfl⟩:=List.getElem_of_mem hr
  have er:=zqd hm
  rcases Nat.lt_or_ge m ks.length with q | q
  ·exact h.bl m _ q er z hz
  ·exact Nat.le_trans (h.bs m _ q er z hz) (Nat.pow_le_pow_right (by decide) (by omega))
 ·obtain ⟨m,hm,rfl⟩:=List.getElem_of_mem hs
  have es:=zqd hm
  by_cases e:m=ks.length
  ·subst e
   refine Nat.le_trans (h.bt _ es z hz) ?_
   have p:1<=2 ^ u:=Nat.two_pow_pos u
   have l1:ks.length*2 ^ u<=63*2 ^ u:=Nat.mul_le_mul_right _ (by omega)
   have l2:1+ks.length*2 ^ u<=2 ^ (u+6):=by rw [Nat.pow_add]; omega
   rw [show c+u+6=c+(u+6) by omega,Nat.pow_add]
   exact Nat.mul_le_mul_left _ l2
  ·exact Nat.le_trans (h.bc m _ e es z hz) (Nat.pow_le_pow_right (by decide) (by omega))
noncomputable def bR (n B:Nat):Nat->Nat
 | 0=>B
 | t+1=>4*bR n B t+2
noncomputable def uR (n B:Nat):Nat->Nat
 | 0=>B
 | t+1=>uR n B t+bR n B (t+1)+1
noncomputable def cR (n B:Nat):Nat->Nat
 | 0=>B
 | t+1=>cR n B t+(n - t)*(bR n B t+1)+uR n B t+6
noncomputable def bS:Nat:=33554432
noncomputable def uS:Nat:=1048576
noncomputable def FitS (n d B:Nat):Prop:=∀ t,t<=n->t<=d->uR n B t<=uS/\cR n B t<=bS
theorem l_F (n B:Nat):∀ t,bR n B t<=uR n B t
 | 0=>Nat.le_refl _
 | t+1=>by show _<=uR n B t+bR n B (t+1)+1; omega
noncomputable def b_Y (n i:Nat):List Int:=(List.range n).map fun k=>if i=k then (1:Int) else 0
theorem g_y (n i:Nat):(b_Y n i).length=n:=by simp [b_Y]
theorem n_F {n i k:Nat} (h:k < n):(b_Y n i).getD k 0=if i=k then 1 else 0:=by
 unfold b_Y
 rw [zqc,List.getElem?_map,List.getElem?_range h]
 rfl
theorem e_O:∀ (x v:List Int),(∀ z∈x,z=0)->dotI x v=0
 | [],v,_=>by simp [dotI]
 | a :: x,[],_=>by simp [dotI]
 | a :: x,b :: v,h=>by
  have ih:=e_O x v fun z hz=>h z (List.mem_cons_of_mem _ hz)
  have e:=h a (List.mem_cons_self ..)
  simp only [dotI,List.zipWith_cons_cons,List.sum_cons] at ih ⊢
  rw [ih,e]
  simp
theorem e_k:∀ (v:List Int) (i:Nat),dotI (b_Y v.length i) v=v.getD i 0
 | [],i=>by simp [dotI,b_Y]
 | b :: v,0=>by
  have e:b_Y (b :: v).length 0=1 :: (List.range v.length).map fun _=>(0:Int):=by
   unfold b_Y
   rw [List.length_cons,List.range_succ_eq_map,List.map_cons,List.map_map]
   congr 1
  rw [e]
  have z:=e_O ((List.range v.length).map fun _=>(0:Int)) v fun z hz=>by
   obtain ⟨_,_,rfl⟩:=List.mem_map.mp hz
   rfl
  simp only [dotI,List.zipWith_cons_cons,List.sum_cons] at z ⊢
  rw [z]
  simp
 | b :: v,i+1=>by
  have e:b_Y (b :: v).length (i+1)=0 :: b_Y v.length i:=by
   unfold b_Y
   rw [List.length_cons,List.range_succ_eq_map,List.map_cons,List.map_map]
   congr 1
   refine List.map_congr_left fun k _=>?_
   show (if i+1=k+1 then (1:Int) else 0)=if i=k then 1 else 0
   by_cases q:i=k
   ·rw [if_pos q,if_pos (by omega)]
   ·rw [if_neg q,if_neg (by omega)]
  rw [e]
  have ih:=e_k v i
  simp only [dotI,List.zipWith_cons_cons,List.sum_cons] at ih ⊢
  rw [ih]
  simp
theorem i_Z {n i:Nat} {r:List Int} (e:(idM n)[i]?=some r):i < n/\r=b_Y n i:=by
 have hi:i < n:=by have:=(zqa e).1; simpa [idM] using this
 refine ⟨hi,?_⟩
 unfold idM at e
 rw [List.getElem?_map,List.getElem?_range hi] at e
 exact (Option.some.inj e).symm
theorem j_H {n i:Nat} (h:i < n):(idM n)[i]?=some (b_Y n i):=by
 unfold idM
 rw [List.getElem?_map,List.getElem?_range h]
 rfl
noncomputable def c_e (d:Nat) (A:LM):LM:=(List.range d).map fun k=>colI k A
theorem c_O (k:Nat) (A:LM):(colI k A).length=A.length:=by simp [colI]
theorem j_I {k i:Nat} {A:LM} {r:List Int} (e:A[i]?=some r):(colI k A).getD i 0=r.getD k 0:=by
 unfold colI
 rw [zqc,List.getElem?_map,e]
 rfl
theorem g_z {x y:List Int} (h:x.length=y.length) (e:∀ i,i < x.length->x.getD i 0=y.getD i 0):x=y:=by
 refine List.ext_getElem h fun i h1 h2=>?_
 have:=e i h1
 rw [zqc,zqc,zqd h1,zqd h2] at this
 exact this
theorem e_P (cs:LM) (r:List Int):(rowT cs r).length=cs.length:=by simp [rowT]
theorem e_Q {d k:Nat} {A:LM} {r:List Int} (h:k < d):(rowT (c_e d A) r).getD k 0=dotI r (colI k A):=by
 unfold rowT c_e
 rw [List.map_map,zqc,List.getElem?_map,List.getElem?_range h]
 rfl
theorem j_a {A:LM} {n i:Nat} {r:List Int} (hA:A.length=n) (e:(List.zipWith (·++·) A (idM n))[i]?=some r):∃ a,A[i]?=some a/\i < n/\r=a++b_Y n i:=by
 have hl:=(zqa e).1
 rw [List.length_zipWith] at hl
 have hi:i < n:=by omega
 have ea:A[i]?=some A[i]:=zqd (by omega)
 rw [List.getElem?_zipWith,ea,j_H hi] at e
 exact ⟨_,ea,hi,(Option.some.inj e).symm⟩
theorem l_G {d n:Nat} {A:LM} (hA:A.length=n) (hw:∀ r∈A,r.length=d):Ln d n (c_e d A) (List.zipWith (·++·) A (idM n)) (idM n):=by
 have il:(idM n).length=n:=by simp [idM]
 have mem:∀ r∈List.zipWith (·++·) A (idM n),∃ (i:Nat) (a:List Int),A[i]?=some a/\i < n/\r=a++b_Y n i:=fun r hr=>by
  obtain ⟨i,hi,e⟩:=List.getElem_of_mem hr
  obtain ⟨a,h⟩:=j_a hA (show (List.zipWith (·++·) A (idM n))[i]?=some r by rw [zqd hi,e])
  exact ⟨i,a,h⟩
 have dr:∀ {a:List Int} {i:Nat},a∈A->(a++b_Y n i).drop d=b_Y n i:=fun {a i} ha=>by rw [← hw a ha,List.drop_left]
 refine ⟨by rw [List.length_zipWith,hA,il,Nat.min_self],fun r hr=>?_,fun r hr=>?_,fun v hv hz x hx=>?_,il,fun r hr=>?_,fun i j r s er es=>?_⟩
 ·obtain ⟨i,a,ea,_,rfl⟩:=mem r hr
  rw [List.length_append,hw a (zqb ea),g_y]
 ·obtain ⟨i,a,ea,hi,rfl⟩:=mem r hr
  have ma:=zqb ea
  rw [dr ma]
  have e1:(a++b_Y n i).take d=a:=by rw [← hw a ma,List.take_left]
  rw [e1]
  refine g_z (by rw [e_P,hw a ma]; simp [c_e]) fun k hk=>?_
  rw [e_Q (by rw [← hw a ma]; exact hk),← j_I (k:=k) ea,← e_k,c_O,hA]
 ·obtain ⟨i,hi,rfl⟩:=List.getElem_of_mem hx
  have ha:A[i]?=some A[i]:=zqd (by omega)
  have:=hz (A[i]++b_Y n i) (zqb (i:=i) (by rw [List.getElem?_zipWith,ha,j_H (by omega)]))
  rw [dr (zqb ha),← hv,e_k,zqc,zqd hi] at this
  exact this
 ·obtain ⟨i,hi,rfl⟩:=List.getElem_of_mem hr
  obtain ⟨_,e⟩:=i_Z (zqd hi)
  rw [e,g_y]
 ·obtain ⟨a,ea,hi,rfl⟩:=j_a hA er
  obtain ⟨hj,rfl⟩:=i_Z es
  rw [dr (zqb ea)]
  have:=e_k (b_Y n j) i
  rw [g_y] at this
  rw [this,n_F hi]
  by_cases q:i=j
  ·rw [if_pos q,if_pos q.symm]
  ·rw [if_neg q,if_neg (fun z=>q z.symm)]
theorem l_H {d n B:Nat} {A:LM} (hA:A.length=n) (hw:∀ r∈A,r.length=d) (hB:BdM (2 ^ B) A):Ec d n 0 (c_e d A) [] (bR n B 0) (uR n B 0) (cR n B 0) (List.zipWith (·++·) A (idM n)) (idM n):=by
 have one:1<=2 ^ B:=Nat.two_pow_pos B
 have un:∀ {i:Nat},∀ z∈b_Y n i,z.natAbs<=2 ^ B:=fun {i} z hz=>by
  unfold b_Y at hz
  obtain ⟨k,_,rfl⟩:=List.mem_map.mp hz
  split <;> simp <;> omega
 have bl:BdM (2 ^ B) (List.zipWith (·++·) A (idM n)):=fun r hr z hz=>by
  obtain ⟨i,hi,e⟩:=List.getElem_of_mem hr
  obtain ⟨a,ea,_,rfl⟩:=j_a hA (show (List.zipWith (·++·) A (idM n))[i]?=some r by rw [zqd hi,e])
  rcases List.mem_append.mp hz with q | q
  ·exact hB a (zqb ea) z q
  ·exact un z q
 refine ⟨l_G hA hw,Nat.zero_le _,.nil,(fun j hj=>by cases hj),(fun i r j er ej=>by cases ej),(fun i i' r r' j _ _ _ ej=>by cases ej),(fun i r hi er m hm=>by omega),fun i r hi er=>bl r (zqb er),bl,fun r hr z hz=>?_⟩
 obtain ⟨i,hi,rfl⟩:=List.getElem_of_mem hr
 obtain ⟨_,e⟩:=i_Z (zqd hi)
 rw [e] at hz
 exact un z hz
structure Sta (d n:Nat) (A:LM) (ks:List Nat) (F R C:LM):Prop where
 fl:F.length=n
 fw:∀ r∈F,r.length=d
 rl:R.length=n
 rw:∀ r∈R,r.length=n
 cl:C.length=n
 cw:∀ r∈C,r.length=n
 lin:∀ (i:Nat) r s,F[i]?=some r->R[i]?=some s->r=rowT (c_e d A) s
 inj:∀ v:List Int,v.length=n->(∀ r∈R,dotI r v=0)->∀ x∈v,x=0
 dual:∀ (i j:Nat) r s,R[i]?=some r->C[j]?=some s->dotI r s=if i=j then 1 else 0
 kn:ks.length<=n
 ksS:ks.Pairwise (· < ·)
 ksK:∀ j∈ks,j < d
 lead:∀ (i:Nat) r j,F[i]?=some r->ks[i]?=some j->0 < r.getD j 0/\∀ m,m < j->r.getD m 0=0
 above:∀ (i i':Nat) r r' j,i' < i->F[i]?=some r->F[i']?=some r'->ks[i]?=some j->0<=r'.getD j 0/\r'.getD j 0 < r.getD j 0
 zero:∀ (i:Nat) r,ks.length<=i->F[i]?=some r->∀ m,r.getD m 0=0
 bf:BdM (2 ^ uS) F
 br:BdM (2 ^ uS) R
 bc:BdM (2 ^ bS) C
theorem o_D {d n:Nat} {A:LM} {ks:List Nat} {b u c:Nat} {L C:LM} (h:Ec d n d (c_e d A) ks b u c L C) (hu:u<=uS) (hc:c<=bS):Sta d n A ks (L.map fun r=>r.take d) (L.map fun r=>r.drop d) C:=by
 have gt:∀ (r:List Int) (m:Nat),m < d->(r.take d).getD m 0=r.getD m 0:=fun r m hm=>by
  rw [zqc,zqc,List.getElem?_take_of_lt hm]
 have at':∀ {f:List Int->List Int} {i:Nat} {r:List Int},(L.map f)[i]?=some r->∃ l,L[i]?=some l/\r=f l:=fun {f i r} e=>by
  rw [List.getElem?_map] at e
  cases q:L[i]? with
  | none=>rw [q] at e; cases e
  | some l=>rw [q] at e; cases e; exact ⟨l,rfl,rfl⟩
 have kd:∀ {i j:Nat},ks[i]?=some j->j < d:=fun e=>h.ksK _ (zqb e)
 have up:∀ {M:LM} {e S:Nat},e<=S->BdM (2 ^ e) M->BdM (2 ^ S) M:=fun he hM r hr z hz=>Nat.le_trans (hM r hr z hz) (Nat.pow_le_pow_right (by decide) he)
 refine ⟨by rw [zqe]; exact h.ln.len,fun r hr=>?_,by rw [zqe]; exact h.ln.len,fun r hr=>?_,h.ln.clen,h.ln.cwid,fun i r s er es=>?_,fun v hv hz=>h.ln.inj v hv fun r hr=>hz _ (List.mem_map_of_mem hr),fun i j r s er es=>?_,h.kn,h.ksS,h.ksK,fun i r j er ej=>?_,fun i i' r r' j hi er er' ej=>?_,fun i r hi er m=>?_,up hu fun r hr z hz=>?_,up hu fun r hr z hz=>?_,up hc h.bc⟩
 ·obtain ⟨l,hl,rfl⟩:=List.mem_map.mp hr
  rw [List.length_take,h.ln.wid l hl]; omega
 ·obtain ⟨l,hl,rfl⟩:=List.mem_map.mp hr
  rw [List.length_drop,h.ln.wid l hl]; omega
 ·obtain ⟨l,el,rfl⟩:=at' er
  obtain ⟨l',el',rfl⟩:=at' es
  rw [el] at el'
  cases el'
  exact h.ln.lin l (zqb el)
 ·obtain ⟨l,el,rfl⟩:=at' er
  exact h.ln.dual i j l s el es
 ·obtain ⟨l,el,rfl⟩:=at' er
  obtain ⟨q1,q3⟩:=h.lead i l j el ej
  have jd:=kd ej
  rw [gt l j jd]
  exact ⟨q1,fun m hm=>by rw [gt l m (by omega)]; exact q3 m hm⟩
 ·obtain ⟨l,el,rfl⟩:=at' er
  obtain ⟨l',el',rfl⟩:=at' er'
  rw [gt l j (kd ej),gt l' j (kd ej)]
  exact h.above i i' l l' j hi el el' ej
 ·obtain ⟨l,el,rfl⟩:=at' er
  rcases Nat.lt_or_ge m d with q | q
  ·rw [gt l m q]; exact h.zero i l hi el m q
  ·rw [zqc,List.getElem?_eq_none (by rw [List.length_take]; omega)]; rfl
 ·obtain ⟨l,hl,rfl⟩:=List.mem_map.mp hr
  exact h.bl l hl z (List.mem_of_mem_take hz)
 ·obtain ⟨l,hl,rfl⟩:=List.mem_map.mp hr
  exact h.bl l hl z (List.mem_of_mem_drop hz)
theorem i_o:∀ (j:Nat) (r c:List Int),j < r.length->j < c.length->dotI (r.take (j+1)) c=dotI (r.take j) c+r.getD j 0*c.getD j 0
 | j,[],c,h,_=>by simp at h
 | j,a :: r,[],_,h=>by simp at h
 | 0,a :: r,b :: c,_,_=>by simp [dotI]
 | j+1,a :: r,b :: c,h1,h2=>by
  have ih:=i_o j r c (by simpa using h1) (by simpa using h2)
  simp only [dotI,List.take_succ_cons,List.zipWith_cons_cons,List.sum_cons,List.getD_cons_succ] at ih ⊢
  rw [ih]
  omega
noncomputable def sumN:Nat->(Nat->Int)->Int
 | 0,_=>0
 | n+1,f=>sumN n f+f n
theorem b_A:∀ (n:Nat) {f g:Nat->Int},(∀ i,i < n->f i=g i)->sumN n f=sumN n g
 | 0,_,_,_=>rfl
 | n+1,f,g,h=>by
  show sumN n f+f n=sumN n g+g n
  rw [b_A n (fun i hi=>h i (by omega)),h n (by omega)]
theorem c_P (x y:Int) (f g:Nat->Int):∀ n,sumN n (fun i=>x*f i+y*g i)=x*sumN n f+y*sumN n g
 | 0=>by simp [sumN]
 | n+1=>by
  show sumN n _+_=x*(sumN n f+f n)+y*(sumN n g+g n)
  rw [c_P x y f g n]
  grind
theorem e_R (x:Int) (f:Nat->Int) (n:Nat):sumN n (fun i=>x*f i)=x*sumN n f:=by
 have:=c_P x 0 f f n
 simp only [Int.zero_mul,Int.add_zero] at this
 exact this
theorem d_G:∀ (n:Nat) {f:Nat->Int},(∀ i,i < n->f i=0)->sumN n f=0
 | 0,_,_=>rfl
 | n+1,f,h=>by
  show sumN n f+f n=0
  rw [d_G n (fun i hi=>h i (by omega)),h n (by omega)]
  rfl
theorem e_l:∀ (n:Nat) {f:Nat->Int} {i:Nat},i < n->(∀ j,j < n->j≠i->f j=0)->sumN n f=f i
 | 0,_,_,h,_=>by omega
 | n+1,f,i,h,hz=>by
  show sumN n f+f n=f i
  by_cases e:i=n
  ·subst e
   rw [d_G i fun j hj=>hz j (by omega) (by omega)]
   simp
  ·rw [e_l n (i:=i) (by omega) fun j hj hn=>hz j (by omega) hn,hz n (by omega) (fun z=>e z.symm)]
   simp
theorem f_F (f:Nat->Nat->Int) (n:Nat):∀ m,sumN m (fun i=>sumN n fun j=>f i j)=sumN n fun j=>sumN m fun i=>f i j
 | 0=>(d_G n fun _ _=>rfl).symm
 | m+1=>by
  show sumN m (fun i=>sumN n fun j=>f i j)+(sumN n fun j=>f m j)=sumN n fun j=>sumN m (fun i=>f i j)+f m j
  rw [f_F f n m]
  have:=c_P 1 1 (fun j=>sumN m fun i=>f i j) (fun j=>f m j) n
  simp only [Int.one_mul] at this
  exact this.symm
theorem c_I {x y:List Int} (h:x.length=y.length):dotI x y=sumN x.length fun i=>x.getD i 0*y.getD i 0:=by
 have key:∀ j,j<=x.length->dotI (x.take j) y=sumN j fun i=>x.getD i 0*y.getD i 0:=by
  intro j
  induction j with
  | zero=>intro _; simp [dotI,sumN]
  | succ j ih =>
   intro hj
   rw [i_o j x y (by omega) (by omega),ih (by omega)]
   rfl
 have:=key x.length (Nat.le_refl _)
 rw [List.take_length] at this
 exact this
noncomputable def atN (A:LM) (i k:Nat):Int:=(A.getD i []).getD k 0
theorem d_B {A:LM} {i k:Nat} {r:List Int} (e:A[i]?=some r):atN A i k=r.getD k 0:=by
 unfold atN
 have:A.getD i []=r:=by rw [zqc,e]; rfl
 rw [this]
theorem j_b (A:LM) (k i:Nat):(colI k A).getD i 0=atN A i k:=by
 cases e:A[i]? with
 | some r=>rw [j_I e,d_B e]
 | none =>
  have hi:A.length<=i:=List.getElem?_eq_none_iff.mp e
  unfold atN
  rw [zqc,List.getElem?_eq_none (by rw [c_O]; exact hi),zqc (l:=A),e]
  rfl
noncomputable def Lat (d:Nat) (A:LM) (v:List Int):Prop:=v.length=d/\∃ c:Nat->Int,∀ k,k < d->v.getD k 0=sumN A.length fun i=>c i*atN A i k
theorem Lat.row {d i:Nat} {A:LM} {r:List Int} (e:A[i]?=some r) (hr:r.length=d):Lat d A r:=by
 have hi:=(zqa e).1
 refine ⟨hr,fun j=>if j=i then 1 else 0,fun k _=>?_⟩
 rw [e_l A.length (i:=i) hi fun j _ hn=>by dsimp only; rw [if_neg hn,Int.zero_mul]]
 dsimp only
 rw [if_pos rfl,Int.one_mul,d_B e]
theorem Lat.mix {d:Nat} {A:LM} {u v w:List Int} (x y:Int) (hu:Lat d A u) (hv:Lat d A v) (hw:w.length=d) (h:∀ k,k < d->w.getD k 0=x*u.getD k 0+y*v.getD k 0):Lat d A w:=by
 obtain ⟨_,c,hc⟩:=hu
 obtain ⟨_,e,he⟩:=hv
 refine ⟨hw,fun i=>x*c i+y*e i,fun k hk=>?_⟩
 rw [h k hk,hc k hk,he k hk,← c_P]
 refine b_A _ fun i _=>?_
 grind
theorem Lat.trans {d:Nat} {A B:LM} {v:List Int} (hB:∀ r∈B,Lat d A r) (hv:Lat d B v):Lat d A v:=by
 obtain ⟨hl,c,hc⟩:=hv
 have key:∀ m,m<=B.length->∃ e:Nat->Int,∀ k,k < d->(sumN m fun i=>c i*atN B i k)=sumN A.length fun i=>e i*atN A i k:=by
  intro m
  induction m with
  | zero=>exact fun _=>⟨fun _=>0,fun k _=>(d_G _ fun i _=>Int.zero_mul _).symm⟩
  | succ m ih =>
   intro hm
   obtain ⟨e,he⟩:=ih (by omega)
   have er:B[m]?=some B[m]:=zqd (by omega)
   obtain ⟨_,g,hg⟩:=hB _ (zqb er)
   refine ⟨fun i=>1*e i+c m*g i,fun k hk=>?_⟩
   show (sumN m fun i=>c i*atN B i k)+c m*atN B m k=_
   rw [he k hk,d_B er,hg k hk]
   have:=c_P 1 (c m) (fun i=>e i*atN A i k) (fun i=>g i*atN A i k) A.length
   rw [Int.one_mul] at this
   rw [← this]
   refine b_A _ fun i _=>?_
   grind
 obtain ⟨e,he⟩:=key B.length (Nat.le_refl _)
 exact ⟨hl,e,fun k hk=>by rw [hc k hk,he k hk]⟩
theorem j_J {d n:Nat} {A:LM} {ks:List Nat} {F R C:LM} (h:Sta d n A ks F R C) (hA:A.length=n):∀ r∈F,Lat d A r:=fun r hr=>by
 obtain ⟨i,hi,rfl⟩:=List.getElem_of_mem hr
 have fl:=h.fl
 have rl:=h.rl
 have ir:i < R.length:=by omega
 have e:=h.lin i _ _ (zqd hi) (zqd ir)
 have wr:=h.rw _ (List.getElem_mem ir)
 refine ⟨h.fw _ (List.getElem_mem hi),fun j=>R[i].getD j 0,fun k hk=>?_⟩
 rw [e,e_Q hk,c_I (by rw [c_O,wr,hA]),wr,hA]
 exact b_A _ fun j _=>by rw [j_b]
theorem j_K {d n:Nat} {A:LM} {ks:List Nat} {F R C:LM} (h:Sta d n A ks F R C) (hA:A.length=n) (hw:∀ r∈A,r.length=d):∀ r∈A,Lat d F r:=fun r hr=>by
 obtain ⟨i,hi,rfl⟩:=List.getElem_of_mem hr
 have fl:=h.fl
 have rl:=h.rl
 have cl:=h.cl
 refine ⟨hw _ (List.getElem_mem hi),fun j=>atN C j i,fun k hk=>?_⟩
 rw [fl]
 have fat:∀ m,m < n->atN F m k=dotI (R.getD m []) (colI k A):=fun m hm=>by
  have ef:F[m]?=some F[m]:=zqd (by omega)
  have er:R[m]?=some R[m]:=zqd (by omega)
  rw [d_B ef,h.lin m _ _ ef er,e_Q hk,zqc,er]
  rfl
 have zl:((List.range n).map fun p=>atN A p k - sumN n fun j=>atN C j p*atN F j k).length=n:=by simp
 have zat:∀ p,p < n->((List.range n).map fun p=>atN A p k - sumN n fun j=>atN C j p*atN F j k).getD p 0=atN A p k - sumN n fun j=>atN C j p*atN F j k:=fun p hp=>by
  rw [zqc,List.getElem?_map,List.getElem?_range hp]
  rfl
 have key:=h.inj _ zl fun s hs=>by
  obtain ⟨m,hm,rfl⟩:=List.getElem_of_mem hs
  have er:R[m]?=some R[m]:=zqd hm
  have wr:=h.rw _ hs
  rw [c_I (by rw [zl,wr]),wr]
  have e1:(sumN n fun p=>R[m].getD p 0*((List.range n).map fun p=>atN A p k - sumN n fun j=>atN C j p*atN F j k).getD p 0)=sumN n fun p=>1*(R[m].getD p 0*atN A p k)+(-1)*(R[m].getD p 0*sumN n fun j=>atN C j p*atN F j k) :=
   b_A _ fun p hp=>by rw [zat p hp]; grind
  rw [e1,c_P]
  have e2:(sumN n fun p=>R[m].getD p 0*atN A p k)=atN F m k:=by
   rw [fat m (by omega),zqc,er]
   show _=dotI R[m] (colI k A)
   rw [c_I (by rw [c_O,wr,hA]),wr]
   exact b_A _ fun p _=>by rw [j_b]
  have e3:(sumN n fun p=>R[m].getD p 0*sumN n fun j=>atN C j p*atN F j k)=atN F m k:=by
   have e4:(sumN n fun p=>R[m].getD p 0*sumN n fun j=>atN C j p*atN F j k)=sumN n fun p=>sumN n fun j=>R[m].getD p 0*(atN C j p*atN F j k) :=
    b_A _ fun p _=>(e_R _ _ n).symm
   rw [e4,f_F]
   have e5:(sumN n fun j=>sumN n fun p=>R[m].getD p 0*(atN C j p*atN F j k))=sumN n fun j=>(if m=j then 1 else 0)*atN F j k:=b_A _ fun j hj=>by
    have ec:C[j]?=some (C[j]'(by omega)):=zqd (by omega)
    have wc:=h.cw _ (zqb ec)
    have du:=h.dual m j _ _ er ec
    rw [c_I (by rw [wr,wc]),wr] at du
    rw [← du,Int.mul_comm _ (atN F j k),← e_R]
    exact b_A _ fun p _=>by rw [d_B ec]; grind
   rw [e5,e_l n (i:=m) (by omega) fun j _ hn=>by rw [if_neg (fun z=>hn z.symm),Int.zero_mul],if_pos rfl,Int.one_mul]
  rw [e2,e3]
  omega
 have hin:i < n:=by omega
 have:=key _ (L2.getD_mem (show i < ((List.range n).map fun p=>atN A p k - sumN n fun j=>atN C j p*atN F j k).length by rw [zl]; exact hin))
 rw [zat i hin] at this
 rw [← d_B (k:=k) (zqd hi)]
 dsimp only
 omega
theorem l_I:∀ (t:Nat) (P:Nat->Prop),(∃ i,i < t/\P i)->∃ i,i < t/\P i/\∀ j,j < i->¬ P j
 | 0,_,⟨_,h,_⟩=>by omega
 | t+1,P,h=>by
  by_cases q:∃ i,i < t/\P i
  ·obtain ⟨i,h1,h2,h3⟩:=l_I t P q
   exact ⟨i,by omega,h2,h3⟩
  ·obtain ⟨i,h1,h2⟩:=h
   have:i=t:=by
    rcases Nat.lt_or_ge i t with w | w
    ·exact absurd ⟨i,w,h2⟩ q
    ·omega
   subst this
   exact ⟨i,by omega,h2,fun j hj pj=>q ⟨j,hj,pj⟩⟩
structure Frm (d n:Nat) (ks:List Nat) (F:LM):Prop where
 fl:F.length=n
 fw:∀ r∈F,r.length=d
 kn:ks.length<=n
 ksS:ks.Pairwise (· < ·)
 ksK:∀ j∈ks,j < d
 lead:∀ (i:Nat) r j,F[i]?=some r->ks[i]?=some j->0 < r.getD j 0/\∀ m,m < j->r.getD m 0=0
 above:∀ (i i':Nat) r r' j,i' < i->F[i]?=some r->F[i']?=some r'->ks[i]?=some j->0<=r'.getD j 0/\r'.getD j 0 < r.getD j 0
 zero:∀ (i:Nat) r,ks.length<=i->F[i]?=some r->∀ m,r.getD m 0=0
theorem Sta.frm {d n:Nat} {A:LM} {ks:List Nat} {F R C:LM} (h:Sta d n A ks F R C):Frm d n ks F:=⟨h.fl,h.fw,h.kn,h.ksS,h.ksK,h.lead,h.above,h.zero⟩
theorem g_A {ks:List Nat} (h:ks.Pairwise (· < ·)) {i i' j j':Nat} (e:ks[i]?=some j) (e':ks[i']?=some j'):(i < i'->j < j')/\(i=i'->j=j'):=by
 obtain ⟨a1,a2⟩:=zqa e
 obtain ⟨b1,b2⟩:=zqa e'
 refine ⟨fun hl=>?_,fun hq=>?_⟩
 ·have:=List.pairwise_iff_getElem.mp h i i' a1 b1 hl
  omega
 ·subst hq
  omega
theorem Frm.first {d n:Nat} {ks:List Nat} {F:LM} (h:Frm d n ks F) {v:List Int} (hv:Lat d F v) {p:Nat} (hp:p < d) (nz:v.getD p 0≠0) (lo:∀ m,m < p->v.getD m 0=0):∃ i c,ks[i]?=some p/\v.getD p 0=c*atN F i p:=by
 obtain ⟨hl,c,hc⟩:=hv
 have fl:=h.fl
 have kn:=h.kn
 rw [fl] at hc
 have row:∀ i,i < n->F[i]?=some (F.getD i []):=fun i hi=>by
  rw [zqc,zqd (by omega)]
  rfl
 have zr:∀ i k,i < n->ks.length<=i->atN F i k=0:=fun i k hi hk=>h.zero i _ hk (row i hi) k
 by_cases q:∃ i,i < ks.length/\c i≠0
 ·obtain ⟨i,hi,ci,lo'⟩:=l_I ks.length (fun i=>c i≠0) q
  have ej:=zqd hi
  generalize ks[i]=j at ej
  obtain ⟨l1,l2⟩:=h.lead i _ j (row i (by omega)) ej
  have jd:=h.ksK j (zqb ej)
  have other:∀ k,k<=j->∀ m,m < n->m≠i->c m*atN F m k=0:=fun k hk m hm hne=>by
   rcases Nat.lt_or_ge m i with w | w
   ·have:c m=0:=Decidable.not_not.mp (lo' m w)
    rw [this,Int.zero_mul]
   ·rcases Nat.lt_or_ge m ks.length with u | u
    ·have em:=zqd u
     have:=(g_A h.ksS ej em).1 (by omega)
     rw [show atN F m k=0 from (h.lead m _ _ (row m hm) em).2 k (by omega),Int.mul_zero]
    ·rw [zr m k hm u,Int.mul_zero]
  have vj:v.getD j 0=c i*atN F i j:=by
   rw [hc j jd]
   exact e_l n (i:=i) (by omega) (other j (Nat.le_refl _))
  have vk:∀ k,k < j->v.getD k 0=0:=fun k hk=>by
   rw [hc k (by omega),e_l n (i:=i) (by omega) (other k (by omega)),show atN F i k=0 from l2 k hk,Int.mul_zero]
  have vn:v.getD j 0≠0:=fun z=>by
   rw [vj] at z
   rcases Int.mul_eq_zero.mp z with w | w
   ·exact ci w
   ·have:0 < atN F i j:=l1
    omega
  have pj:p=j:=by
   rcases Nat.lt_trichotomy p j with w | w | w
   ·exact absurd (vk p w) nz
   ·exact w
   ·exact absurd (lo j w) vn
  subst pj
  exact ⟨i,c i,ej,vj⟩
 ·refine absurd ?_ nz
  rw [hc p hp]
  refine d_G n fun i hi=>?_
  rcases Nat.lt_or_ge i ks.length with w | w
  ·have:c i=0:=Decidable.not_not.mp fun z=>q ⟨i,w,z⟩
   rw [this,Int.zero_mul]
  ·rw [zr i p hi w,Int.mul_zero]
theorem l_J:∀ {ks ks':List Nat},ks.Pairwise (· < ·)->ks'.Pairwise (· < ·)->(∀ j,j∈ks ↔ j∈ks')->ks=ks'
 | [],[],_,_,_=>rfl
 | [],b :: r,_,_,h=>absurd ((h b).mpr (List.mem_cons_self ..)) (by simp)
 | a :: r,[],_,_,h=>absurd ((h a).mp (List.mem_cons_self ..)) (by simp)
 | a :: r,b :: r',h1,h2,h=>by
  obtain ⟨p1,p2⟩:=List.pairwise_cons.mp h1
  obtain ⟨q1,q2⟩:=List.pairwise_cons.mp h2
  have ab:a=b:=by
   rcases List.mem_cons.mp ((h a).mp (List.mem_cons_self ..)) with e | e
   ·exact e
   ·rcases List.mem_cons.mp ((h b).mpr (List.mem_cons_self ..)) with e' | e'
    ·exact e'.symm
    ·have:=q1 a e
     have:=p1 b e'
     omega
  subst ab
  have:r=r':=l_J p2 q2 fun j=>by
   constructor
   ·intro hj
    rcases List.mem_cons.mp ((h j).mp (List.mem_cons_of_mem _ hj)) with e | e
    ·have:=p1 j hj; omega
    ·exact e
   ·intro hj
    rcases List.mem_cons.mp ((h j).mpr (List.mem_cons_of_mem _ hj)) with e | e
    ·have:=q1 j hj; omega
    ·exact e
  rw [this]
theorem Frm.half {d n n':Nat} {ks ks':List Nat} {F F':LM} (h:Frm d n ks F) (h':Frm d n' ks' F') (g:∀ r∈F,Lat d F' r) {i j:Nat} {r:List Int} (er:F[i]?=some r) (ej:ks[i]?=some j):∃ i' c,ks'[i']?=some j/\r.getD j 0=c*atN F' i' j:=by
 obtain ⟨l1,l2⟩:=h.lead i r j er ej
 exact h'.first (g r (zqb er)) (h.ksK j (zqb ej)) (by omega) l2
theorem k_r {a b c e:Int} (ha:0 < a) (hb:0 < b) (h1:a=c*b) (h2:b=e*a):a=b:=by
 have c1:1<=c:=by
  rcases Int.lt_or_le c 1 with w | w
  ·have:c*b<=0:=Int.mul_nonpos_of_nonpos_of_nonneg (by omega) (by omega)
   omega
  ·exact w
 have e1:1<=e:=by
  rcases Int.lt_or_le e 1 with w | w
  ·have:e*a<=0:=Int.mul_nonpos_of_nonpos_of_nonneg (by omega) (by omega)
   omega
  ·exact w
 have h3:1*b<=c*b:=Int.mul_le_mul_of_nonneg_right c1 (by omega)
 have h4:1*a<=e*a:=Int.mul_le_mul_of_nonneg_right e1 (by omega)
 omega
theorem Frm.one {d n n':Nat} {ks ks':List Nat} {F F':LM} (h:Frm d n ks F) (h':Frm d n' ks' F') (g:∀ r∈F,Lat d F' r) (g':∀ r∈F',Lat d F r):ks=ks'/\∀ (i:Nat) r r',i < ks.length->F[i]?=some r->F'[i]?=some r'->r=r':=by
 have kl:∀ {n:Nat} {ks:List Nat} {F:LM},Frm d n ks F->∀ j,j∈ks->∃ (i:Nat) (r:List Int),F[i]?=some r/\ks[i]?=some j:=fun {n ks F} h j hj=>by
  obtain ⟨i,hi,rfl⟩:=List.getElem_of_mem hj
  have:=h.kn
  have:=h.fl
  exact ⟨i,_,zqd (by omega),zqd hi⟩
 have e:ks=ks':=l_J h.ksS h'.ksS fun j=>⟨fun hj=>by
  obtain ⟨i,r,er,ej⟩:=kl h j hj
  obtain ⟨i',_,q,_⟩:=h.half h' g er ej
  exact zqb q,fun hj=>by
  obtain ⟨i,r,er,ej⟩:=kl h' j hj
  obtain ⟨i',_,q,_⟩:=h'.half h g' er ej
  exact zqb q⟩
 subst e
 have uniq:∀ {i i' j:Nat},ks[i]?=some j->ks[i']?=some j->i=i':=fun {i i' j} a b=>by
  rcases Nat.lt_trichotomy i i' with w | w | w
  ·have:=(g_A h.ksS a b).1 w; omega
  ·exact w
  ·have:=(g_A h.ksS b a).1 w; omega
 have leads:∀ (i:Nat) r r' j,F[i]?=some r->F'[i]?=some r'->ks[i]?=some j->r.getD j 0=r'.getD j 0:=fun i r r' j er er' ej=>by
  obtain ⟨i1,c,q1,q2⟩:=h.half h' g er ej
  obtain ⟨i2,c',q3,q4⟩:=h'.half h g' er' ej
  have w1:=uniq ej q1
  have w2:=uniq ej q3
  subst w1 w2
  rw [d_B er'] at q2
  rw [d_B er] at q4
  exact k_r (h.lead i r j er ej).1 (h'.lead i r' j er' ej).1 q2 q4
 refine ⟨rfl,fun i r r' hi er er'=>?_⟩
 have ej:=zqd hi
 generalize ks[i]=j at ej
 have wr:=h.fw r (zqb er)
 have wr':=h'.fw r' (zqb er')
 refine g_z (by omega) fun k hk=>Decidable.not_not.mp fun nk=>?_
 obtain ⟨p,hp,np,lo⟩:=l_I d (fun k=>r.getD k 0≠r'.getD k 0) ⟨k,by omega,nk⟩
 have dat:∀ m,m < d->((List.range d).map fun m=>r.getD m 0 - r'.getD m 0).getD m 0=r.getD m 0 - r'.getD m 0:=fun m hm=>by
  rw [zqc,List.getElem?_map,List.getElem?_range hm]
  rfl
 have hD:Lat d F ((List.range d).map fun m=>r.getD m 0 - r'.getD m 0):=Lat.mix 1 (-1) (Lat.row er wr) (g' r' (zqb er')) (by simp) fun m hm=>by rw [dat m hm]; omega
 obtain ⟨i',c,q1,q2⟩:=h.first hD hp (by rw [dat p hp]; omega) fun m hm=>by
  rw [dat m (by omega)]
  have:=Decidable.not_not.mp (lo m hm)
  omega
 rw [dat p hp] at q2
 have hj:j < p:=by
  rcases Nat.lt_or_ge j p with w | w
  ·exact w
  ·rcases Nat.lt_or_ge p j with u | u
   ·have z1:=(h.lead i r j er ej).2 p u
    have z2:=(h'.lead i r' j er' ej).2 p u
    omega
   ·have:p=j:=by omega
    subst this
    have:=leads i r r' p er er' ej
    omega
 have ii:i < i':=by
  rcases Nat.lt_trichotomy i i' with w | w | w
  ·exact w
  ·have:=(g_A h.ksS ej q1).2 w; omega
  ·have:=(g_A h.ksS q1 ej).1 w; omega
 have hi':=(zqa q1).1
 have k1:=h.kn
 have k2:=h'.kn
 have f1:=h.fl
 have f2:=h'.fl
 have es:F[i']?=some F[i']:=zqd (by omega)
 have es':F'[i']?=some F'[i']:=zqd (by omega)
 obtain ⟨a1,a2⟩:=h.above i' i _ r p ii es er q1
 obtain ⟨b1,b2⟩:=h'.above i' i _ r' p ii es' er' q1
 have el:=leads i' _ _ p es es' q1
 have lp:=(h.lead i' _ p es q1).1
 rw [d_B es] at q2
 generalize (F[i']'(by omega)).getD p 0=l at *
 have:c=0:=by
  rcases Int.lt_trichotomy c 0 with w | w | w
  ·have:c*l<=(-1)*l:=Int.mul_le_mul_of_nonneg_right (by omega) (by omega)
   omega
  ·exact w
  ·have:1*l<=c*l:=Int.mul_le_mul_of_nonneg_right (by omega) (by omega)
   omega
 rw [this,Int.zero_mul] at q2
 omega
theorem e_m {r:List Int} {d:Nat} (hl:r.length=d) (h:∀ m,r.getD m 0=0):r=(List.range d).map fun _=>(0:Int) :=
 g_z (by simp [hl]) fun k hk=>by
  rw [h k,zqc,List.getElem?_map,List.getElem?_range (by omega)]
  rfl
theorem Frm.same {d n:Nat} {ks ks':List Nat} {F F':LM} (h:Frm d n ks F) (h':Frm d n ks' F') (g:∀ r∈F,Lat d F' r) (g':∀ r∈F',Lat d F r):F=F':=by
 obtain ⟨rfl,hr⟩:=h.one h' g g'
 have f1:=h.fl
 have f2:=h'.fl
 refine List.ext_getElem (by omega) fun i h1 h2=>?_
 have e1:=zqd h1
 have e2:=zqd h2
 rcases Nat.lt_or_ge i ks.length with w | w
 ·exact hr i _ _ w e1 e2
 ·rw [e_m (h.fw _ (List.getElem_mem h1)) (h.zero i _ w e1),e_m (h'.fw _ (List.getElem_mem h2)) (h'.zero i _ w e2)]
theorem Frm.more {d n:Nat} {ks ks':List Nat} {F F':LM} (h:Frm d n ks F) (h':Frm d (n+1) ks' F') (g:∀ r∈F,Lat d F' r) (g':∀ r∈F',Lat d F r):F'=F++[(List.range d).map fun _=>(0:Int)]:=by
 obtain ⟨rfl,hr⟩:=h.one h' g g'
 have f1:=h.fl
 have f2:=h'.fl
 have kn:=h.kn
 refine List.ext_getElem (by simp; omega) fun i h1 h2=>?_
 have e1:=zqd h1
 rcases Nat.lt_or_ge i n with u | u
 ·rw [List.getElem_append_left (by omega)]
  have e2:F[i]?=some F[i]:=zqd (by omega)
  rcases Nat.lt_or_ge i ks.length with w | w
  ·exact (hr i _ _ w e2 e1).symm
  ·rw [e_m (h.fw _ (zqb e2)) (h.zero i _ w e2),e_m (h'.fw _ (List.getElem_mem h1)) (h'.zero i _ w e1)]
 ·rw [List.getElem_append_right (by omega),e_m (h'.fw _ (List.getElem_mem h1)) (h'.zero i _ (by omega) e1)]
  simp
theorem j_L:∀ (r ns:List Int) (j:Nat) (v:Int),j < ns.length->dotI r (ns.set j v)=dotI r ns+r.getD j 0*(v - ns.getD j 0)
 | [],ns,j,v,_=>by simp [dotI]
 | a :: r,[],j,v,h=>by simp at h
 | a :: r,b :: ns,0,v,h=>by simp [dotI]; grind
 | a :: r,b :: ns,j+1,v,h=>by
  have ih:=j_L r ns j v (by simpa using h)
  simp only [dotI,List.set_cons_succ,List.zipWith_cons_cons,List.sum_cons,List.getD_cons_succ] at ih ⊢
  rw [ih]; grind
theorem h_K {c:Int}:∀ (r ns:List Int),(∀ z∈ns,c∣z)->c∣dotI r ns
 | [],ns,_=>by simp [dotI]
 | a :: r,[],_=>by simp [dotI]
 | a :: r,b :: ns,h=>by
  have ih:=h_K r ns fun z hz=>h z (List.mem_cons_of_mem _ hz)
  simp only [dotI,List.zipWith_cons_cons,List.sum_cons] at ih ⊢
  exact Int.dvd_add (Int.dvd_mul_of_dvd_right (h b List.mem_cons_self)) ih
theorem h_L {A B:Nat}:∀ (r ns:List Int),(∀ z∈r,z.natAbs<=A)->(∀ z∈ns,z.natAbs<=B)->(dotI r ns).natAbs<=r.length*(A*B)
 | [],ns,_,_=>by simp [dotI]
 | a :: r,[],_,_=>by simp [dotI]
 | a :: r,b :: ns,h1,h2=>by
  have ih:=h_L r ns (fun z hz=>h1 z (List.mem_cons_of_mem _ hz)) fun z hz=>h2 z (List.mem_cons_of_mem _ hz)
  have e:dotI (a :: r) (b :: ns)=a*b+dotI r ns:=by simp [dotI]
  rw [e]
  have hab:(a*b).natAbs<=A*B:=by rw [Int.natAbs_mul]; exact Nat.mul_le_mul (h1 a List.mem_cons_self) (h2 b List.mem_cons_self)
  have:=Int.natAbs_add_le (a*b) (dotI r ns)
  rw [List.length_cons,Nat.add_mul,Nat.one_mul]
  omega
noncomputable def c_V (F:LM) (ks:List Nat) (i:Nat):Int:=(F.getD i []).getD (ks.getD i 0) 0
noncomputable def scl (F:LM) (ks:List Nat):Nat->Int
 | 0=>1
 | m+1=>scl F ks m*c_V F ks m
theorem j_M (F:LM) (ks:List Nat) (m:Nat):∀ k,scl F ks m∣scl F ks (m+k)
 | 0=>Int.dvd_refl _
 | k+1=>Int.dvd_trans (j_M F ks m k) ⟨_,rfl⟩
theorem f_G {F:LM} {ks:List Nat} {W:Nat} (h:BdM (2 ^ W) F):∀ m,(scl F ks m).natAbs<=2 ^ (m*W)
 | 0=>by simp [scl]
 | m+1=>by
  have ih:=f_G (ks:=ks) h m
  have hl:(c_V F ks m).natAbs<=2 ^ W:=by
   unfold c_V
   refine d_O fun z hz=>?_
   by_cases hm:m < F.length
   ·exact h _ (by rw [zqc,zqd hm]; exact List.getElem_mem hm) z hz
   ·rw [zqc,List.getElem?_eq_none (by omega)] at hz; cases hz
  show (scl F ks m*c_V F ks m).natAbs<=_
  rw [Int.natAbs_mul,Nat.add_mul,Nat.one_mul,Nat.pow_add]
  exact Nat.mul_le_mul ih hl
structure Cl (d:Nat) (F:LM) (ks:List Nat) (ts:List Int) (W m:Nat) (ns:List Int):Prop where
 len:ns.length=d
 eq:∀ (i:Nat) r x,m<=i->i < ks.length->F[i]?=some r->ts[i]?=some x->dotI r ns=x*scl F ks ks.length
 nul:∀ (i:Nat) j,i < m->ks[i]?=some j->ns.getD j 0=0
 dv:∀ z∈ns,scl F ks m∣z
 bd:∀ z∈ns,z.natAbs<=2 ^ ((ks.length+1)*W+(ks.length - m)*(W+4))
theorem Cl.step {d:Nat} {F:LM} {ks:List Nat} {ts:List Int} {W m j:Nat} {ns r:List Int} {x:Int} (h:Cl d F ks ts W (m+1) ns) (hm:m < ks.length) (hd:d<=12) (ksS:ks.Pairwise (· < ·)) (ej:ks[m]?=some j) (jd:j < d) (er:F[m]?=some r) (ext:ts[m]?=some x)
  (hlead:∀ (i:Nat) r j,F[i]?=some r->ks[i]?=some j->0 < r.getD j 0/\∀ m,m < j->r.getD m 0=0) (wr:r.length=d) (bF':BdM (2 ^ W) F) (bx:x.natAbs<=2 ^ W) :
  Cl d F ks ts W m (ns.set j ((x*scl F ks ks.length - dotI r ns).fdiv (r.getD j 0))):=by
 obtain ⟨lp,_⟩:=hlead m r j er ej
 have hlv:c_V F ks m=r.getD j 0:=by
  unfold c_V
  rw [zqc (l:=F),er,zqc (l:=ks),ej]
  rfl
 have sm:scl F ks (m+1)=scl F ks m*r.getD j 0:=by show scl F ks m*c_V F ks m=_; rw [hlv]
 have d1:scl F ks (m+1)∣scl F ks ks.length:=by
  have:=j_M F ks (m+1) (ks.length - (m+1))
  rwa [show m+1+(ks.length - (m+1))=ks.length by omega] at this
 have d2:scl F ks (m+1)∣x*scl F ks ks.length - dotI r ns:=Int.dvd_sub (Int.dvd_mul_of_dvd_right d1) (h_K r ns h.dv)
 obtain ⟨c,hc⟩:=d2
 have ne:r.getD j 0≠0:=by omega
 have ev:(x*scl F ks ks.length - dotI r ns).fdiv (r.getD j 0)=scl F ks m*c:=by
  rw [hc,sm,show scl F ks m*r.getD j 0*c=(scl F ks m*c)*r.getD j 0 by grind,Int.mul_fdiv_cancel _ ne]
 have ex2:r.getD j 0*(x*scl F ks ks.length - dotI r ns).fdiv (r.getD j 0)=x*scl F ks ks.length - dotI r ns:=by rw [ev,hc,sm]; grind
 have jl:j < ns.length:=by rw [h.len]; exact jd
 have vb:((x*scl F ks ks.length - dotI r ns).fdiv (r.getD j 0)).natAbs<=2 ^ ((ks.length+1)*W+(ks.length - m)*(W+4)):=by
  refine Nat.le_trans (e_j _ _ lp) ?_
  have b1:=f_G (ks:=ks) bF' ks.length
  have b2:=h_L r ns (bF' r (zqb er)) h.bd
  have e1:(x*scl F ks ks.length).natAbs<=2 ^ ((ks.length+1)*W):=by
   rw [Int.natAbs_mul,Nat.add_mul,Nat.one_mul,Nat.add_comm,Nat.pow_add]
   exact Nat.mul_le_mul bx b1
  have eE:ks.length - m=(ks.length - (m+1))+1:=by omega
  have e4:2 ^ ((ks.length+1)*W+(ks.length - m)*(W+4))=16*2 ^ (W+((ks.length+1)*W+(ks.length - (m+1))*(W+4))):=by
   rw [eE,Nat.add_mul (ks.length - (m+1)) 1,Nat.one_mul,show (ks.length+1)*W+((ks.length - (m+1))*(W+4)+(W+4))=(W+((ks.length+1)*W+(ks.length - (m+1))*(W+4)))+4 by omega,Nat.pow_add]
   omega
  have e2:(dotI r ns).natAbs<=12*2 ^ (W+((ks.length+1)*W+(ks.length - (m+1))*(W+4))):=by
   rw [Nat.pow_add]
   exact Nat.le_trans b2 (Nat.mul_le_mul_right _ (by omega))
  have e3:2 ^ ((ks.length+1)*W)<=2 ^ (W+((ks.length+1)*W+(ks.length - (m+1))*(W+4))):=Nat.pow_le_pow_right (by decide) (by omega)
  have e5:=Int.natAbs_sub_le (x*scl F ks ks.length) (dotI r ns)
  rw [e4]
  omega
 refine ⟨by rw [List.length_set]; exact h.len,fun i r' x' hi hil er' ex'=>?_,fun i j' hi ej'=>?_,fun z hz=>?_,fun z hz=>?_⟩
 ·rw [j_L r' ns j _ jl]
  by_cases e:i=m
  ·subst e
   rw [er] at er'; cases er'
   rw [ext] at ex'; cases ex'
   rw [h.nul i j (by omega) ej,Int.sub_zero,ex2]
   omega
  ·have hi2:m < i:=by omega
   obtain ⟨j',ej'⟩:∃ j',ks[i]?=some j':=⟨_,zqd hil⟩
   have lt:j < j':=by
    obtain ⟨a1,a2⟩:=zqa ej
    obtain ⟨b1,b2⟩:=zqa ej'
    have:=List.pairwise_iff_getElem.mp ksS m i a1 b1 hi2
    rw [a2,b2] at this
    exact this
   rw [(hlead i r' j' er' ej').2 j lt,Int.zero_mul,Int.add_zero]
   exact h.eq i r' x' (by omega) hil er' ex'
 ·have lt:j' < j:=by
   obtain ⟨a1,a2⟩:=zqa ej'
   obtain ⟨b1,b2⟩:=zqa ej
   have:=List.pairwise_iff_getElem.mp ksS i m a1 b1 hi
   rw [a2,b2] at this
   exact this
  rw [zqc,List.getElem?_set_ne (by omega),← zqc]
  exact h.nul i j' (by omega) ej'
 ·rcases b_S hz with e | e
  ·rw [e,ev]; exact ⟨c,rfl⟩
  ·exact Int.dvd_trans ⟨_,sm⟩ (h.dv z e)
 ·rcases b_S hz with e | e
  ·rw [e]; exact vb
  ·exact Nat.le_trans (h.bd z e) (Nat.pow_le_pow_right (by decide) (Nat.add_le_add_left (Nat.mul_le_mul_right _ (by omega)) _))
theorem h_M {F:LM} {ks:List Nat} (h:∀ (i:Nat) r j,F[i]?=some r->ks[i]?=some j->0 < r.getD j 0) (hl:ks.length<=F.length):∀ m,m<=ks.length->0 < scl F ks m
 | 0,_=>by show (0:Int) < 1; decide
 | m+1,hm=>by
  obtain ⟨j,hj⟩:∃ j,ks[m]?=some j:=⟨_,zqd (by omega)⟩
  obtain ⟨r,hr⟩:∃ r,F[m]?=some r:=⟨_,zqd (by omega)⟩
  have e:c_V F ks m=r.getD j 0:=by
   unfold c_V
   rw [zqc (l:=F),hr,zqc (l:=ks),hj]
   rfl
  show 0 < scl F ks m*c_V F ks m
  rw [e]
  exact Int.mul_pos (h_M h hl m (by omega)) (h m r j hr hj)
theorem d_P {w c:Int}:∀ (r ns ms:List Int),ns.length=ms.length->(∀ (i:Nat) x y,ns[i]?=some x->ms[i]?=some y->x*w=y*c)->dotI r ns*w=dotI r ms*c
 | [],ns,ms,_,_=>by simp [dotI]
 | a :: r,[],[],_,_=>by simp [dotI]
 | a :: r,x :: ns,y :: ms,hl,h=>by
  have ih:=d_P r ns ms (by simpa using hl) fun i u v e1 e2=>h (i+1) u v (by simpa using e1) (by simpa using e2)
  have h0:=h 0 x y rfl rfl
  have e1:dotI (a :: r) (x :: ns)=a*x+dotI r ns:=by simp [dotI]
  have e2:dotI (a :: r) (y :: ms)=a*y+dotI r ms:=by simp [dotI]
  rw [e1,e2,Int.add_mul,Int.add_mul,ih,Int.mul_assoc,h0,Int.mul_assoc]
theorem f_H {d n:Nat} {A:LM} (hA:A.length=n) (hw:∀ r∈A,r.length=d) {s ns ts:List Int} (hs:s.length=n) (hn:ns.length=d) (ht:ts.length=n) (S:Int) :
  dotI s ((List.range n).map fun i=>dotI (A.getD i []) ns - ts.getD i 0*S)=dotI (rowT (c_e d A) s) ns - dotI s ts*S:=by
 rw [c_I (by simp [hs]),c_I (by rw [e_P]; simp [c_e,hn]),c_I (by rw [hs,ht]),e_P,hs]
 have lc:(c_e d A).length=d:=by simp [c_e]
 rw [lc]
 have e1:(sumN n fun i=>s.getD i 0*((List.range n).map fun i=>dotI (A.getD i []) ns - ts.getD i 0*S).getD i 0)=sumN n fun i=>1*(sumN d fun k=>s.getD i 0*(atN A i k*ns.getD k 0))+(-S)*(s.getD i 0*ts.getD i 0):=b_A _ fun i hi=>by
  rw [zqc (l:=(List.range n).map _),List.getElem?_map,List.getElem?_range hi]
  show s.getD i 0*(dotI (A.getD i []) ns - ts.getD i 0*S)=_
  have ea:A[i]?=some (A[i]'(by omega)):=zqd (by omega)
  have eg:A.getD i []=A[i]'(by omega):=by rw [zqc,ea]; rfl
  have wa:=hw _ (zqb ea)
  rw [eg,c_I (by rw [wa,hn]),wa,e_R]
  have e2:(sumN d fun k=>(A[i]'(by omega)).getD k 0*ns.getD k 0)=sumN d fun k=>atN A i k*ns.getD k 0:=b_A _ fun k _=>by rw [d_B ea]
  rw [e2]
  grind
 rw [e1,c_P,f_F]
 have e3:(sumN d fun k=>sumN n fun i=>s.getD i 0*(atN A i k*ns.getD k 0))=sumN d fun k=>(rowT (c_e d A) s).getD k 0*ns.getD k 0:=b_A _ fun k hk=>by
  rw [e_Q hk,c_I (by rw [c_O,hs,hA]),hs,Int.mul_comm _ (ns.getD k 0),← e_R]
  exact b_A _ fun i _=>by rw [j_b]; grind
 rw [e3]
 grind
theorem k_s {d n:Nat} {A F R C:LM} {ks:List Nat} {ts ns:List Int} (hA:A.length=n) (hw:∀ r∈A,r.length=d) (h:Sta d n A ks F R C) (ht:ts.length=n) (hn:ns.length=d) {S:Int}
  (e1:∀ (i:Nat) r s,i < ks.length->F[i]?=some r->R[i]?=some s->dotI r ns=dotI s ts*S) (e2:∀ (i:Nat) s,ks.length<=i->R[i]?=some s->dotI s ts=0) :
  ∀ (i:Nat) row x,A[i]?=some row->ts[i]?=some x->dotI row ns=x*S:=by
 have z:=h.inj ((List.range n).map fun i=>dotI (A.getD i []) ns - ts.getD i 0*S) (by simp) fun s hs=>by
  obtain ⟨m,hm,rfl⟩:=List.getElem_of_mem hs
  have es:=zqd hm
  have ml:m < F.length:=by rw [h.fl,← h.rl]; exact hm
  have ef:=zqd ml
  rw [f_H hA hw (h.rw _ (List.getElem_mem hm)) hn ht,← h.lin m _ _ ef es]
  rcases Nat.lt_or_ge m ks.length with q | q
  ·rw [e1 m _ _ q ef es]; omega
  ·rw [e2 m _ q es,Int.zero_mul,Int.sub_zero]
   exact e_O _ _ fun z hz=>by
    obtain ⟨k,hk,rfl⟩:=List.getElem_of_mem hz
    have:=h.zero m _ q ef k
    rw [zqc,zqd hk] at this
    exact this
 intro i row x er ex
 have hi:i < n:=by rw [← ht]; exact (zqa ex).1
 have:=z _ (List.mem_map.mpr ⟨i,List.mem_range.mpr hi,rfl⟩)
 rw [zqc (l:=A),er,zqc (l:=ts),ex] at this
 have this':dotI row ns - x*S=0:=this
 omega
theorem e_n:∀ (x y:List Int),dotI x y=dotI y x
 | [],[]=>rfl
 | [],b :: y=>by simp [dotI]
 | a :: x,[]=>by simp [dotI]
 | a :: x,b :: y=>by
  have ih:=e_n x y
  have e1:dotI (a :: x) (b :: y)=a*b+dotI x y:=by simp [dotI]
  have e2:dotI (b :: y) (a :: x)=b*a+dotI y x:=by simp [dotI]
  rw [e1,e2,ih,Int.mul_comm]
theorem Sta.injM {d n:Nat} {A F R C:LM} {ks:List Nat} (h:Sta d n A ks F R C) {c:Int} (v:List Int) (hv:v.length=n) (hz:∀ r∈R,c∣dotI r v):∀ x∈v,c∣x:=by
 have al:(R.map fun r=>dotI r v).length=n:=by rw [zqe]; exact h.rl
 have ul:(rowT (c_e n C) (R.map fun r=>dotI r v)).length=n:=by rw [e_P]; simp [c_e]
 have ga:∀ (j:Nat) r,R[j]?=some r->(R.map fun r=>dotI r v).getD j 0=dotI r v:=fun j r e=>by
  rw [zqc,List.getElem?_map,e]; rfl
 have key:∀ (j:Nat) r,R[j]?=some r->dotI r (rowT (c_e n C) (R.map fun r=>dotI r v))=dotI r v:=by
  intro j r e
  have hj:j < n:=by rw [← h.rl]; exact (zqa e).1
  have:=f_H h.cl h.cw (s:=R.map fun r=>dotI r v) (ns:=r) (ts:=List.replicate n 0) al (h.rw r (zqb e)) (by simp) 0
  rw [Int.mul_zero,Int.sub_zero] at this
  rw [e_n,← this]
  have el:((List.range n).map fun i=>dotI (C.getD i []) r - (List.replicate n (0:Int)).getD i 0*0)=b_Y (R.map fun r=>dotI r v).length j:=by
   rw [al]
   refine List.ext_getElem (by simp [b_Y]) fun i h1 h2=>?_
   have hi:i < n:=by simpa using h1
   have ec:C[i]?=some (C[i]'(by rw [h.cl]; exact hi)):=zqd _
   have gc:C.getD i []=C[i]'(by rw [h.cl]; exact hi):=by rw [zqc,ec]; rfl
   have du:=h.dual j i r _ e ec
   simp only [List.getElem_map,List.getElem_range,Int.mul_zero,Int.sub_zero,b_Y,gc]
   rw [e_n,du]
  rw [el,e_n,e_k,ga j r e]
 have w0:=h.inj (a_N v (rowT (c_e n C) (R.map fun r=>dotI r v)) 1) (by simp [a_N,hv,ul]) fun r hr=>by
  obtain ⟨j,hj,rfl⟩:=List.getElem_of_mem hr
  rw [d_F 1 _ _ _ (by rw [hv,ul]),key j _ (zqd hj)]
  omega
 intro x hx
 obtain ⟨k,hk,rfl⟩:=List.getElem_of_mem hx
 have kn:k < n:=by omega
 have e1:(rowT (c_e n C) (R.map fun r=>dotI r v))[k]?=some (dotI (R.map fun r=>dotI r v) (colI k C)):=by
  have:=e_Q (A:=C) (r:=R.map fun r=>dotI r v) kn
  rw [zqc,zqd (by omega)] at this
  rw [zqd (by omega)]
  exact congrArg some this
 have e2:(a_N v (rowT (c_e n C) (R.map fun r=>dotI r v)) 1)[k]?=some (v[k] - 1*dotI (R.map fun r=>dotI r v) (colI k C)):=by
  unfold a_N
  rw [List.getElem?_zipWith,zqd hk,e1]
 have e3:=w0 _ (zqb e2)
 have e4:v[k]=dotI (R.map fun r=>dotI r v) (colI k C):=by omega
 rw [e4,e_n]
 exact h_K _ _ fun z hz'=>by
  obtain ⟨r,hr,rfl⟩:=List.mem_map.mp hz'
  exact hz r hr
theorem j_c {d n:Nat} {A F R C:LM} {ks:List Nat} {ts ns:List Int} (hA:A.length=n) (hw:∀ r∈A,r.length=d) (h:Sta d n A ks F R C) (ht:ts.length=n) (hn:ns.length=d) {S mm:Int}
  (e1:∀ (i:Nat) r s,i < ks.length->F[i]?=some r->R[i]?=some s->dotI r ns=dotI s ts*S) (e2:∀ (i:Nat) s,ks.length<=i->R[i]?=some s->mm∣dotI s ts) :
  ∀ (i:Nat) row x,A[i]?=some row->ts[i]?=some x->mm*S∣dotI row ns - x*S:=by
 have z:=h.injM (c:=mm*S) ((List.range n).map fun i=>dotI (A.getD i []) ns - ts.getD i 0*S) (by simp) fun s hs=>by
  obtain ⟨m,hm,rfl⟩:=List.getElem_of_mem hs
  have es:=zqd hm
  have ml:m < F.length:=by rw [h.fl,← h.rl]; exact hm
  have ef:=zqd ml
  rw [f_H hA hw (h.rw _ (List.getElem_mem hm)) hn ht,← h.lin m _ _ ef es]
  rcases Nat.lt_or_ge m ks.length with q | q
  ·rw [e1 m _ _ q ef es,Int.sub_self]; exact Int.dvd_zero _
  ·obtain ⟨y,hy⟩:=e2 m _ q es
   rw [e_O _ _ fun z hz=>by
    obtain ⟨k,hk,rfl⟩:=List.getElem_of_mem hz
    have:=h.zero m _ q ef k
    rw [zqc,zqd hk] at this
    exact this,hy]
   exact ⟨-y,by grind⟩
 intro i row x er ex
 have hi:i < n:=by rw [← ht]; exact (zqa ex).1
 have:=z _ (List.mem_map.mpr ⟨i,List.mem_range.mpr hi,rfl⟩)
 rw [zqc (l:=A),er,zqc (l:=ts),ex] at this
 exact this
theorem n_G {row ns ms:List Int} {u S w x mm:Int} (hl:ns.length=ms.length) (hS:S≠0) (h:mm*S∣dotI row ns - x*S) (c:∀ (i:Nat) a b,ns[i]?=some a->ms[i]?=some b->a*w=b*(u*S)):mm*w∣dotI row ms*u - x*w:=by
 have e:=d_P (w:=w) (c:=u*S) row ns ms hl c
 obtain ⟨y,hy⟩:=h
 refine ⟨y,?_⟩
 refine Int.eq_of_mul_eq_mul_right hS ?_
 have:dotI row ns=x*S+mm*S*y:=by omega
 rw [this] at e
 grind
theorem i_p {w:Int}:∀ (r ns:List Int),w∣dotI r ns - dotI r (d_E w ns)
 | [],ns=>by simp [dotI]
 | a :: r,[]=>by simp [dotI,d_E]
 | a :: r,x :: ns=>by
  have ih:=i_p (w:=w) r ns
  have e1:dotI (a :: r) (x :: ns)=a*x+dotI r ns:=by simp [dotI]
  have e2:dotI (a :: r) (d_E w (x :: ns))=a*x.fmod w+dotI r (d_E w ns):=by simp [dotI,d_E]
  rw [e1,e2]
  have e3:x=w*x.fdiv w+x.fmod w:=(Int.mul_fdiv_add_fmod x w).symm
  obtain ⟨y,hy⟩:=ih
  exact ⟨a*x.fdiv w+y,by
   have:dotI r ns=dotI r (d_E w ns)+w*y:=by omega
   rw [this]
   generalize x.fmod w=f at *
   generalize x.fdiv w=q at *
   subst e3
   grind⟩
theorem c_J {H H':Hp} {p:Addr} (s:Same H H') (h:H' p=none):H p=none:=by
 cases w:H p with
 | none=>rfl
 | some o=>rw [s _ _ w] at h; cases h
noncomputable def RowN (H0:Hp) (a:Addr) (f:Nat->List Int) (j:Nat) (y:V) (H:Hp):Prop:=∃ p,y=.ref p/\p≠a/\H0 p=none/\H p=some (.lst ((f j).map V.int))
theorem RowN.mono {H0:Hp} {a:Addr} {f:Nat->List Int} (i:Nat) (y:V) (H1 H2:Hp) (h:RowN H0 a f i y H1) (s:e_d a H1 H2):RowN H0 a f i y H2:=let ⟨p,e,n,z,q⟩:=h; ⟨p,e,n,z,s _ _ n q⟩
noncomputable def MatP (H:Hp) (a:Addr) (ps:List Addr) (A:LM):Prop:=H a=some (.lst (ps.map V.ref))/\ps.length=A.length/\∀ (i:Nat) p r,ps[i]?=some p->A[i]?=some r->p≠a/\H p=some (.lst (r.map V.int))
theorem MatP.l {H:Hp} {a:Addr} {ps:List Addr} {A:LM} (h:MatP H a ps A):MatL H a A:=⟨ps,h⟩
theorem MatP.up {H H':Hp} {a:Addr} {ps:List Addr} {A:LM} (h:MatP H a ps A) (s:Same H H'):MatP H' a ps A:=⟨s _ _ h.1,h.2.1,fun i p r e1 e2=>⟨(h.2.2 i p r e1 e2).1,s _ _ (h.2.2 i p r e1 e2).2⟩⟩
theorem j_N {H:Hp} {a x:Addr} {ps:List Addr} {A:LM} (h:MatP H a ps A) (hx:x=a\/x∈ps):∃ xs,H x=some (.lst xs):=by
 rcases hx with rfl | hx
 ·exact ⟨_,h.1⟩
 ·obtain ⟨i,hi,rfl⟩:=List.getElem_of_mem hx
  have:=h.2.1
  exact ⟨_,(h.2.2 i _ _ (zqd hi) (zqd (by omega))).2⟩
noncomputable def NewL (H0 H:Hp) (a:Addr) (A:LM):Prop:=∃ ps,MatP H a ps A/\∀ x,x=a\/x∈ps->H0 x=none
theorem NewL.up {H0 H H':Hp} {a:Addr} {A:LM} (h:NewL H0 H a A) (s:Same H H'):NewL H0 H' a A:=let ⟨ps,h1,h2⟩:=h; ⟨ps,h1.up s,h2⟩
theorem j_O:∀ (ys:List V),(∀ (j:Nat) y,ys[j]?=some y->∃ p:Addr,y=.ref p)->∃ ps:List Addr,ys=ps.map V.ref
 | [],_=>⟨[],rfl⟩
 | y :: ys,h=>by
  obtain ⟨p,rfl⟩:=h 0 y rfl
  obtain ⟨ps,rfl⟩:=j_O ys fun j z e=>h (j+1) z (by simpa using e)
  exact ⟨p :: ps,rfl⟩
theorem NewL.of {H0 H:Hp} {a:Addr} {f:Nat->List Int} {ys:List V} (h:H a=some (.lst ys)) (h0:H0 a=none) (hr:∀ (j:Nat) y,ys[j]?=some y->RowN H0 a f j y H):NewL H0 H a ((List.range ys.length).map f):=by
 obtain ⟨ps,rfl⟩:=j_O ys fun j y e=>let ⟨p,e,_⟩:=hr j y e; ⟨p,e⟩
 refine ⟨ps,⟨h,by simp,fun i p r e1 e2=>?_⟩,fun x hx=>?_⟩
 ·obtain ⟨p',e,n,_,q⟩:=hr i (.ref p) (by rw [List.getElem?_map,e1]; rfl)
  cases e
  have hi:=(zqa e1).1
  rw [List.getElem?_map,List.getElem?_range (by simpa using hi)] at e2
  cases e2
  exact ⟨n,q⟩
 ·rcases hx with rfl | hx
  ·exact h0
  ·obtain ⟨i,hi,rfl⟩:=List.getElem_of_mem hx
   obtain ⟨p',e,_,z,_⟩:=hr i (.ref ps[i]) (by rw [List.getElem?_map,zqd hi]; rfl)
   cases e
   exact z
noncomputable def Told (H:Hp) (f g h:Addr) (F R U:LM):Prop:=∃ ps qs us,MatP H f ps F/\MatP H g qs R/\MatP H h us U/\(∀ x,x=f\/x∈ps->x≠g/\x ∉ qs/\x≠h/\x ∉ us)/\∀ x,x=g\/x∈qs->x≠h/\x ∉ us
theorem n_H {H3 H4 H5 H6 H:Hp} {f g h:Addr} {F R U:LM} (n1:NewL H3 H4 f F) (n2:NewL H4 H5 g R) (s5:Same H4 H5) (n3:NewL H5 H6 h U) (s6:Same H5 H6) (s7:Same H6 H):Told H f g h F R U:=by
 obtain ⟨ps,p1,p2⟩:=n1
 obtain ⟨qs,q1,q2⟩:=n2
 obtain ⟨us,u1,u2⟩:=n3
 refine ⟨ps,qs,us,((p1.up s5).up s6).up s7,(q1.up s6).up s7,u1.up s7,fun x hx=>?_,fun x hx=>?_⟩
 ·obtain ⟨xs,e⟩:=j_N p1 hx
  have e5:=s5 _ _ e
  refine ⟨fun z=>?_,fun z=>?_,fun z=>?_,fun z=>?_⟩
  ·rw [q2 x (.inl z)] at e; cases e
  ·rw [q2 x (.inr z)] at e; cases e
  ·rw [u2 x (.inl z)] at e5; cases e5
  ·rw [u2 x (.inr z)] at e5; cases e5
 ·obtain ⟨xs,e5⟩:=j_N q1 hx
  refine ⟨fun z=>?_,fun z=>?_⟩
  ·rw [u2 x (.inl z)] at e5; cases e5
  ·rw [u2 x (.inr z)] at e5; cases e5
noncomputable def j_d (K:Frag):Sp:=fun vs H Q _=>∃ (b1 b2:Bool) (a:Addr) (rows:LM) (w:Nat),vs=[.ref a]/\MatB b1 b2 K H a rows/\rows≠[]/\(∀ r∈rows,r.length=w)/\w<=1000/\rows.length<=1000 /\
 ∀ r H',Same H H'->NewL H H' r (g_v w rows)->Q (.ref r) H'
theorem ok_t (T:Txt K mg t):FnOk P w K mg base CX0 1 t.a_t t.d_t ["rows"] (j_d K):=by
 refine T.F_t.ok sc_t (by walk_at "v") (fun cdv A outer s H vs Q E hr h=>?_)
 ·obtain ⟨b1,b2,a,rows,w,rfl,hM,hne,hw,hw1,hl1,hQ⟩:=h
  refine ⟨_,(a_I (a_S (b_G (xs:=["k"]) (fr:=[("rows",0)]) (g:=(a_R 0)) (tt:=(tEl (c_E (iSeq K (tVar 1)) (a_R 0) (tEl (tOp (rIxB K) (tVar 0) (tVar 1))) 1 [("k",0)]))) (a_T (sc:=a_G s_t) (N:=N_t) rfl rfl (by decide +kernel)) rfl (c_f rfl T.z_range (a_A (a_J a_U rfl T.z_len (by decide +kernel) (a_A (px (pv 0) a_D) a_B)) a_B)) (fun _ _ _ hE1=>(h_D (N:=["k","rows"]) (i:=0) hE1 rfl (by decide +kernel) rfl)) (fun _ _ _ hE1=>(c_g (b_G (xs:=["row"]) (fr:=[("k",0)]) (g:=(a_R 0)) (tt:=(tEl (tOp (rIxB K) (tVar 0) (tVar 1)))) (a_T (N:=["k","rows"]) hE1 rfl (by decide +kernel)) rfl (c_r (pv 1)) (fun _ _ _ hE2=>(b_z (N:=["row","k"]) (i:=0) hE2 rfl (by decide +kernel))) (fun _ _ _ hE2=>(c_g (px (pv 0) (pv 1)))))))))),?_⟩
  show tRet _ _ [some (.ref a)] H
  walk_at "r"
  refine a_Y fun B eB=>?_
  simp only [d_W]
  walk_at "r"
  obtain ⟨r0,e0⟩:∃ r0,rows[0]?=some r0:=by cases rows with | nil=>exact absurd rfl hne | cons r _=>exact ⟨r,rfl⟩
  have w0:r0.length=w:=hw r0 (zqb e0)
  obtain ⟨ps,p,k1,k2,k3,k4⟩:=hM.row e0
  refine ⟨b1,a,_,0,_,rfl,rfl,k1,b_H k2 rfl,b2,p,_,rfl,k4,?_⟩
  rw [zqe,w0]
  refine ⟨_,rfl,by omega,by omega,fun a1 ha1=>?_⟩
  rw [Int.toNat_natCast]
  refine e_e (RowN H a1 fun k=>colI k rows) ha1 hw1 (RowN.mono (a:=a1)) ?_ ?_
  ·intro i H1 zs hi s1 ez Q' hQ'
   subst eB
   show c_E _ _ _ _ _ [some (.int (0+(i:Int))),some (.ref a)] H1 Q'
   refine a_Y fun B eB=>?_
   simp only [iSeq]
   walk_at "r"
   obtain ⟨xs,x1,x2,x3⟩:=(hM.up s1).walk
   refine ⟨b1,⟨_,x1⟩,fun a2 ha2=>?_⟩
   refine c_M (fun j y _=>∃ r,rows[j]?=some r/\y=.int (r.getD i 0)) ha2 x1 (by omega) (fun _ _ _ _ r _=>r) ?_ ?_
   ·intro j x H2 zs2 ex s2 ez2 Q2 hQ2
    obtain ⟨p,r,rfl,er,hp⟩:=x3 j x ex
    subst eB
    show tOp _ _ _ [some (.ref p),some (.int (0+(i:Int)))] H2 Q2
    walk_at "r"
    have hri:i < r.length:=by rw [hw r (zqb er)]; exact hi
    exact ⟨b2,p,_,_,_,rfl,rfl,hp.up s2,b_H (c_N (b_R hri)) (by omega),hQ2 _ _ (Same.refl _) ⟨r,er,rfl⟩⟩
   ·intro H2 ys s2 e2 hly hr2
    have ey:ys=(colI i rows).map V.int:=by
     refine c_k (by simp [colI]; omega) fun j y e=>?_
     obtain ⟨r,er,rfl⟩:=hr2 j y e
     exact ⟨r.getD i 0,by unfold colI; rw [List.getElem?_map,er]; rfl,rfl⟩
    subst ey
    exact hQ' _ _ s2 ⟨a2,rfl,Ne.symm (a_H ez ha2),c_J s1 ha2,e2⟩
  ·intro H1 ys s1 e1 hly hr1
   have:=NewL.of e1 ha1 hr1
   rw [hly] at this
   exact hQ a1 H1 s1 this
noncomputable def noE:Expr:=.Name "" ⟨0,0,0,0⟩
noncomputable def retE:Stmt->Expr
 | .Return (some e) _=>e
 | _=>noE
noncomputable def argE (i:Nat):Expr->Expr
 | .Call _ as _ _=>as.getD i noE
 | _=>noE
noncomputable def kwE:Expr->Expr
 | .Call _ _ (k :: _) _=>k.value
 | _=>noE
noncomputable def lamP:Expr->Arguments
 | .Lambda p _ _ _=>p
 | _=>⟨[],[],none,[],[],none,[]⟩
noncomputable def lamB:Expr->Expr
 | .Lambda _ b _ _=>b
 | _=>noE
noncomputable def lamS:Expr->Scope
 | .Lambda _ _ s _=>s
 | _=>a_G (.Pass ⟨0,0,0,0⟩)
noncomputable def f_I:Expr->Pos
 | .Lambda _ _ _ p=>p
 | _=>⟨0,0,0,0⟩
noncomputable def c_u:Expr:=argE 2 (retE ((c_j s_u).getD 0 (.Pass ⟨0,0,0,0⟩)))
noncomputable def asgE:Stmt->Expr
 | .Assign _ e _=>e
 | _=>noE
noncomputable def a_M:Expr:=argE 2 (asgE ((c_j s_1).getD 1 (.Pass ⟨0,0,0,0⟩)))
theorem f_J:LamC (lamS a_M) "top" "spot" := ⟨rfl,by decide +kernel,by decide +kernel,by decide +kernel⟩
noncomputable def g_B:Expr:=kwE (retE ((c_j s_0).getD 2 (.Pass ⟨0,0,0,0⟩)))
structure TT (K:Frag) (t:Adr) (H:Hp):Prop where
 r:c_t H (tabP K t.a_0) (f_I g_B) "Steps.rising.<locals>.<lambda>"
 m:c_t H (tabP K t.a_u) (f_I c_u) "met.<locals>.<lambda>"
 w:c_t H (tabP K t.a_1) (f_I a_M) "whole_met.<locals>.<lambda>"
 ne:tabP K t.a_0≠tabP K t.a_u
 nw:tabP K t.a_0≠tabP K t.a_1
 mw:tabP K t.a_u≠tabP K t.a_1
noncomputable def Ev (K:Frag) (t:Adr) (S:List Addr) (H H':Hp):Prop:=(∀ b o,b ∉ S->(∀ ps,o≠.tbl ps)->H b=some o->H' b=some o)/\(TT K t H->TT K t H')
noncomputable def Bt (S:List Addr) (H H':Hp):Prop:=∀ b o,b ∉ S->H b=some o->H' b=some o
theorem f_K {S:List Addr} {H H':Hp} {P:Addr} {pos:Pos} {q:Str} (h:c_t H P pos q) (b:Bt S H H') (hS:∀ a∈S,H a=none\/(∃ zs,H a=some (.lst zs))\/∃ C dx fs,H a=some (.ins C dx fs)):c_t H' P pos q:=by
 have no:∀ {a:Addr} {o:HO},H a=some o->(∀ zs,o≠.lst zs)->(∀ C dx fs,o≠.ins C dx fs)->a ∉ S:=fun {a o} e n1 n2 z=>by
  rcases hS a z with w | ⟨zs,w⟩ | ⟨C,dx,fs,w⟩ <;> (rw [e] at w; cases w)
  ·exact n1 _ rfl
  ·exact n2 _ _ _ rfl
 rcases h with h | ⟨c,h1,h2⟩
 ·exact .inl (b _ _ (no h (fun _ z=>by cases z) fun _ _ _ z=>by cases z) h)
 ·refine .inr ⟨c,b _ _ (no h1 (fun _ z=>by cases z) fun _ _ _ z=>by cases z) h1,b _ _ (no h2 (fun _ z=>?_) fun _ _ _ z=>?_) h2⟩ <;> (unfold c_a at z; cases z)
theorem Bt.ev {K:Frag} {t:Adr} {S:List Addr} {H H':Hp} (b:Bt S H H') (hS:∀ a∈S,H a=none\/(∃ zs,H a=some (.lst zs))\/∃ C dx fs,H a=some (.ins C dx fs)):Ev K t S H H' :=
 ⟨fun a o h1 _ e=>b a o h1 e,fun T=>⟨f_K T.r b hS,f_K T.m b hS,f_K T.w b hS,T.ne,T.nw,T.mw⟩⟩
theorem n_I {S:List Addr} {H H':Hp} (s:Same H H'):Bt S H H':=fun a o _ e=>s a o e
theorem a_P {K:Frag} {t:Adr} {S:List Addr} {H H':Hp} (s:Same H H'):Ev K t S H H' :=
 have b:Bt [] H H':=n_I s
 ⟨fun a o _ _ e=>s a o e,fun T=>⟨f_K T.r b (fun a z=>nomatch z),f_K T.m b (fun a z=>nomatch z),f_K T.w b (fun a z=>nomatch z),T.ne,T.nw,T.mw⟩⟩
theorem Ev.trans {K:Frag} {t:Adr} {S:List Addr} {H H1 H2:Hp} (a:Ev K t S H H1) (b:Ev K t S H1 H2):Ev K t S H H2:=⟨fun c o h1 h2 e=>b.1 c o h1 h2 (a.1 c o h1 h2 e),fun T=>b.2 (a.2 T)⟩
theorem Ev.sub {K:Frag} {t:Adr} {S S':List Addr} {H H1:Hp} (a:Ev K t S H H1) (h:∀ x∈S,x∈S'):Ev K t S' H H1:=⟨fun c o h1 h2 e=>a.1 c o (fun z=>h1 (h c z)) h2 e,a.2⟩
theorem Ev.new {K:Frag} {t:Adr} {S:List Addr} {H H1 H2:Hp} (a:Ev K t [] H H1) (b:Ev K t S H1 H2) (h:∀ x∈S,H x=none):Ev K t [] H H2 :=
 ⟨fun c o _ h2 e=>b.1 c o (fun z=>by rw [h c z] at e; cases e) h2 (a.1 c o (fun z=>nomatch z) h2 e),fun T=>b.2 (a.2 T)⟩
theorem e_o {H:Hp} {l p:Addr} {qs:List Addr} {ns:List Int} (h:H l=some (.lst (qs.map V.ref))) (h1:qs≠[]) (h2:H p=some (.lst (ns.map V.int))):p≠l:=fun z=>by
 rw [z,h] at h2
 cases qs with
 | nil=>exact h1 rfl
 | cons a r =>
  cases ns with
  | nil=>cases h2
  | cons n m=>cases h2
theorem c_W {K:Frag} {t:Adr} {S:List Addr} {H H':Hp} {a:Addr} {A:LM} (h:MatL H a A) (e:Ev K t S H H') (ha:a ∉ S) (hr:∀ p∈S,∀ ns:List Int,H p≠some (.lst (ns.map V.int))):MatL H' a A:=by
 obtain ⟨ps,h1,h2,h3⟩:=h
 refine ⟨ps,e.1 _ _ ha (fun _ z=>by cases z) h1,h2,fun i p r e1 e2=>?_⟩
 obtain ⟨n1,n2⟩:=h3 i p r e1 e2
 exact ⟨n1,e.1 _ _ (fun z=>hr p z r n2) (fun _ z=>by cases z) n2⟩
theorem l_K {b:Bool} {K:Frag} {t:Adr} {H H':Hp} {a:Addr} {xs:List V} (h:SqB b K H a xs) (e:Ev K t [] H H'):SqB b K H' a xs:=by
 cases b
 ·rcases h with (h | ⟨o,h⟩) | h
  ·exact .inl (.inl (e.1 _ _ (fun z=>nomatch z) (fun _ z=>by cases z) h))
  ·exact .inl (.inr ⟨o,e.1 _ _ (fun z=>nomatch z) (fun _ z=>by cases z) h⟩)
  ·exact .inr h
 ·rcases h with (h | ⟨o,h⟩) | h
  ·exact .inl (.inl (e.1 _ _ (fun z=>nomatch z) (fun _ z=>by cases z) h))
  ·exact .inl (.inr ⟨o,e.1 _ _ (fun z=>nomatch z) (fun _ z=>by cases z) h⟩)
  ·exact .inr h
theorem j_P {b1 b2:Bool} {K:Frag} {t:Adr} {H H':Hp} {a:Addr} {A:LM} (h:MatB b1 b2 K H a A) (e:Ev K t [] H H'):MatB b1 b2 K H' a A:=let ⟨ps,h1,h2,h3⟩:=h; ⟨ps,l_K h1 e,h2,fun i p r e1 e2=>l_K (h3 i p r e1 e2) e⟩
theorem e_S {K:Frag} {t:Adr} {H H':Hp} {p:Addr} {ns:List Int} {u:Int} (h:c_b H p ns u) (e:Ev K t [] H H'):c_b H' p ns u:=let ⟨x,h1,h2⟩:=h; ⟨x,e.1 _ _ (fun z=>nomatch z) (fun _ z=>by cases z) h1,e.1 _ _ (fun z=>nomatch z) (fun _ z=>by cases z) h2⟩
noncomputable def stF (l c:Addr):List (Str × V):=putF "columns" (.ref c) (putF "lines" (.ref l) [])
theorem b_J (l c:Addr):(stF l c).lookup ("lines" : Str)=some (.ref l):=by unfold stF; rw [c_c,if_neg (by decide),c_c,if_pos rfl]
theorem c_o (l c:Addr):(stF l c).lookup ("columns" : Str)=some (.ref c):=by unfold stF; rw [c_c,if_pos rfl]
theorem g_C (l c:Addr) {m:Str} (h1:¬ m = "columns") (h2:¬ m = "lines"):(stF l c).lookup m=none:=by unfold stF; rw [c_c,if_neg h1,c_c,if_neg h2]; rfl
structure b_I (t:Adr) (H:Hp) (x l c:Addr) (L C:LM):Prop where
 ob:∃ dx,H x=some (.ins t.a_m dx (stF l c))
 li:MatL H l L
 co:MatL H c C
 ne:l≠c
 l0:L≠[]
 c0:C≠[]
noncomputable def at2 (L:LM) (i:Int) (k:Nat):Int:=(L.getD i.toNat []).getD k 0
noncomputable def e_T (L:LM) (top k:Nat):List Int:=((List.range (L.length - top)).map fun i=>((top+i:Nat):Int)).filter fun i=>decide (at2 L i k≠0)
noncomputable def j_Q (L:LM) (top k:Nat) (ns:List Int):Prop:=ns.Perm (e_T L top k)/\ns.Pairwise fun a b=>(at2 L a k).natAbs<=(at2 L b k).natAbs
noncomputable def sp_s:Sp:=fun vs H Q _=>∃ a b:Int,vs=[.int a,.int b]/\b≠0/\Q (.int ((2*a+b).fdiv (2*b))) H
noncomputable def sp_v (K:Frag):Sp:=fun vs H Q _=>∃ (b1 b2:Bool) (a b:Addr) (xs ys:List Int) (q:Int),vs=[.ref a,.ref b,.int q]/\SqB b1 K H a (xs.map V.int)/\SqB b2 K H b (ys.map V.int)/\xs.length=ys.length/\xs.length<=1000/\(∀ y∈ys,IntMulOk q y) /\
 ∀ p H',Same H H'->H p=none->H' p=some (.lst ((a_N xs ys q).map V.int))->Q (.ref p) H'
noncomputable def sp_p:Sp:=fun vs H Q _=>∃ (l:Addr) (zs:List V) (i j:Nat) (x y:V),vs=[.ref l,.int i,.int j]/\H l=some (.lst zs)/\zs[i]?=some x/\zs[j]?=some y/\Q .non (upd H l (.lst ((zs.set i y).set j x)))
noncomputable def sp_c:Sp:=fun vs H Q _=>∃ (l:Addr) (L:LM) (i:Nat) (r:List Int),vs=[.ref l,.int i]/\MatL H l L/\L[i]?=some r/\r.length<=1000/\∀ H',Bt [l] H H'->MatL H' l (L.set i (r.map fun z=>-z))->Q .non H'
noncomputable def g_L (K:Frag) (t:Adr):Sp:=fun vs H Q _=>∃ (x dx a:Addr) (b1 b2:Bool) (A:LM) (d:Nat),vs=[.ref x,.ref a]/\H x=some (.ins t.a_m dx [])/\MatB b1 b2 K H a A/\1<=A.length/\A.length<=63/\(∀ r∈A,r.length=d)/\d<=63 /\
 ∀ l c H',Bt [x] H H'->b_I t H' x l c (List.zipWith (·++·) A (idM A.length)) (idM A.length)->H l=none->H c=none->Q .non H'
noncomputable def sp_g (t:Adr):Sp:=fun vs H Q _=>∃ (x l c:Addr) (L C:LM) (i j:Nat) (q:Int) (xi xj ci cj:List Int),vs=[.ref x,.int i,.int j,.int q]/\b_I t H x l c L C/\L[i]?=some xi/\L[j]?=some xj/\C[i]?=some ci/\C[j]?=some cj /\
 xi.length=xj.length/\xi.length<=1000/\ci.length=cj.length/\ci.length<=1000/\(∀ z∈xj,IntMulOk q z)/\(∀ z∈ci,IntMulOk (-q) z) /\
 ∀ H',Bt [l,c] H H'->b_I t H' x l c (L.set i (a_N xi xj q)) (C.set j (a_N cj ci (-q)))->Q .non H'
noncomputable def sp_0 (K:Frag) (t:Adr):Sp:=fun vs H Q _=>∃ (x l c:Addr) (L C:LM) (top k:Nat),vs=[.ref x,.int top,.int k]/\b_I t H x l c L C/\TT K t H/\top<=L.length/\L.length<=63/\(∀ r∈L,k < r.length) /\
 ∀ q (ns:List Int) H',Ev K t [] H H'->TT K t H'->H q=none->H' q=some (.lst (ns.map V.int))->j_Q L top k ns->Q (.ref q) H'
theorem b_V {K:Frag} {σ:St} {H:Hp} {Q:VK} {i:Nat} {x C dx:Addr} {fs:List (Str × V)} {f:Str} {v:V} (hv:σ[i]?=some (some (.ref x))) (ob:H x=some (.ins C dx fs)) (cl:Cls K C) (no:e_z K C f) (l:fs.lookup f=some v) (q:Q v H):tFld K (tVar i) f σ H Q :=
 ⟨.ref x,hv,x,C,dx,fs,v,rfl,ob,cl,no,l,q⟩
theorem g_D {b:Bool} {K:Frag} {H:Hp} {Q:VK} {a:Addr} {xs:List V} {i:Nat} {v:V} (h:SqB b K H a xs) (e:xs[i]?=some v) (q:Q v H):rIxB K (.ref a) (.int i) H Q:=⟨b,a,_,_,_,rfl,rfl,h,b_H e rfl,q⟩
theorem h_e {a:Addr} {H:Hp} {tt:St->Hp->(Option V->Hp->Prop)->Prop} {fr:List (Str × Nat)} {σ:St} {Q:VK} {lo:Int} {len:Nat} (P:Nat->List V->Hp->Prop) (ha:H a=none) (hz:len<=1000) (h0:P 0 [] (upd H a (.lst [])))
  (hl:∀ i zs H1,P i zs H1->zs.length<=i) (mono:∀ i zs H1 H2,P i zs H1->e_d a H1 H2->P i zs H2)
  (he:∀ (i:Nat) H1 zs,i < len->Same H H1->H1 a=some (.lst zs)->P i zs H1->∀ C:Option V->Hp->Prop,
   (∀ y H2,Same H1 H2->P (i+1) (zs++[y]) H2->C (some y) H2)->(∀ H2,Same H1 H2->P (i+1) zs H2->C none H2)->tt (some (.int (lo+i)) :: b_X fr σ) H1 C)
  (hd:∀ H1 ys,Same H H1->H1 a=some (.lst ys)->P len ys H1->Q (.ref a) H1):c_w (Itr lo len) (a_R 0) tt 1 fr σ a H Q:=by
 refine h_E len P ha hz h0 hl mono (fun i H1 hi s=>hi) (fun H1 s=>Nat.le_refl _) ?_ hd
 intro i H1 zs hi s1 ez p ys x H3 hys hy C hC1 hC2
 obtain ⟨e1,e2⟩:=hy
 subst e1 e2
 match ys,hys with
 | [o],_=>exact ⟨⟨[_],rfl,rfl⟩,he i H3 zs hi s1 ez p C hC1 hC2⟩
theorem o_E {P a:Addr} {H H':Hp} {A:LM} {ps:Array Value} (h:MatL H a A) (e:H P=some (.tbl ps)) (s:d_C P H H'):MatL H' a A:=by
 obtain ⟨qs,h1,h2,h3⟩:=h
 refine ⟨qs,s _ _ (fun z=>by rw [z,e] at h1; cases h1) h1,h2,fun i p r e1 e2=>?_⟩
 obtain ⟨n1,n2⟩:=h3 i p r e1 e2
 exact ⟨n1,s _ _ (fun z=>by rw [z,e] at n2; cases n2) n2⟩
theorem h_f {H H':Hp} {P P':Addr} {pos:Pos} {q:Str} {ps:Array Value} (h:c_t H P pos q) (n:P≠P') (et:H P'=some (.tbl ps)) (s:d_C P' H H'):c_t H' P pos q:=by
 rcases h with q | ⟨c,q1,q2⟩
 ·exact .inl (s _ _ n q)
 ·exact .inr ⟨c,s _ _ n q1,s _ _ (fun z=>by rw [z,et] at q2; unfold c_a at q2; cases q2) q2⟩
theorem j_e {K:Frag} {t:Adr} {H H':Hp} {P:Addr} {ps:Array Value} (et:H P=some (.tbl ps)) (s:d_C P H H') (T:TT K t H'):Ev K t [] H H' :=
 ⟨fun b o _ ho e=>s b o (fun z=>by rw [z,et] at e; cases e; exact ho _ rfl) e,fun _=>T⟩
theorem TT.rise {K:Frag} {t:Adr} {H H':Hp} (T:TT K t H) (s:d_C (tabP K t.a_0) H H') (h:c_t H' (tabP K t.a_0) (f_I g_B) "Steps.rising.<locals>.<lambda>"):Ev K t [] H H'/\TT K t H':=by
 obtain ⟨ps,et⟩:=T.r.tbl
 have T':TT K t H':=⟨h,h_f T.m (Ne.symm T.ne) et s,h_f T.w (Ne.symm T.nw) et s,T.ne,T.nw,T.mw⟩
 exact ⟨j_e et s T',T'⟩
theorem TT.meet {K:Frag} {t:Adr} {H H':Hp} (T:TT K t H) (s:d_C (tabP K t.a_u) H H') (h:c_t H' (tabP K t.a_u) (f_I c_u) "met.<locals>.<lambda>"):Ev K t [] H H'/\TT K t H':=by
 obtain ⟨ps,et⟩:=T.m.tbl
 have T':TT K t H':=⟨h_f T.r T.ne et s,h,h_f T.w (Ne.symm T.mw) et s,T.ne,T.nw,T.mw⟩
 exact ⟨j_e et s T',T'⟩
theorem TT.whole {K:Frag} {t:Adr} {H H':Hp} (T:TT K t H) (s:d_C (tabP K t.a_1) H H') (h:c_t H' (tabP K t.a_1) (f_I a_M) "whole_met.<locals>.<lambda>"):Ev K t [] H H'/\TT K t H':=by
 obtain ⟨ps,et⟩:=T.w.tbl
 have T':TT K t H':=⟨h_f T.r T.nw et s,h_f T.m T.mw et s,h,T.ne,T.nw,T.mw⟩
 exact ⟨j_e et s T',T'⟩
theorem e_U {σ:St} {H:Hp} {Q:VK} {E:XK} {i:Nat} {x C dx:Addr} {fs:List (Str × V)} {m:Str} {sp:Sp} {tg:TA} (hv:σ[i]?=some (some (.ref x))) (ob:H x=some (.ins C dx fs)) (l:fs.lookup m=none)
  (h:tg σ H fun vs H2=>sp (.ref x :: (vs++[])) H2 Q E):j_j C m sp [] E (tVar i) tg σ H Q:=⟨.ref x,hv,x,dx,fs,rfl,ob,l,h⟩
theorem g_E {α:Type} {xs:List α} {m:Nat} {v:α} {I:Int} (h:xs[m]?=some v) (hI:I=(m:Int) - xs.length):atI xs I=some v:=by
 have hm:=(zqa h).1
 unfold atI ixN
 rw [if_neg (by omega),if_pos (by omega),show (I+(xs.length:Int)).toNat=m by omega]
 exact h
theorem f_L {L:LM} {k m:Nat} {r:List Int} (e:L[m]?=some r):at2 L (m:Int) k=r.getD k 0:=by
 unfold at2
 have e0:L.getD m []=r:=by rw [zqc,e]; rfl
 rw [Int.toNat_natCast,e0]
theorem f_M {L:LM} {top k:Nat} {n:Int} (h:n∈e_T L top k):∃ (m:Nat) (r:List Int),n=(m:Int)/\top<=m/\L[m]?=some r/\r.getD k 0≠0:=by
 obtain ⟨h1,h2⟩:=List.mem_filter.mp h
 obtain ⟨m,hm,rfl⟩:=List.mem_map.mp h1
 have:=List.mem_range.mp hm
 have e:L[top+m]?=some L[top+m]:=zqd (by omega)
 refine ⟨top+m,_,rfl,by omega,e,?_⟩
 have h3:at2 L ((top+m:Nat):Int) k≠0:=of_decide_eq_true h2
 rw [f_L e] at h3
 exact h3
theorem e_x {L:LM} {top k m:Nat} {r:List Int} (hm:top<=m) (e:L[m]?=some r) (h:r.getD k 0≠0):(m:Int)∈e_T L top k:=by
 have hl:=(zqa e).1
 refine List.mem_filter.mpr ⟨List.mem_map.mpr ⟨m - top,List.mem_range.mpr (by omega),by omega⟩,decide_eq_true ?_⟩
 rw [f_L e]
 exact h
theorem l_L {L:LM} {top k:Nat}:(e_T L top k).Nodup:=by
 unfold e_T
 refine List.Nodup.sublist List.filter_sublist ?_
 unfold List.Nodup
 rw [List.pairwise_map]
 exact (List.nodup_range (n:=L.length - top)).imp fun {a b} h z=>h (by omega)
theorem h_N {zs:List Addr} {i j:Nat} {a b:Addr}:((zs.map V.ref).set i (.ref b)).set j (.ref a)=((zs.set i b).set j a).map V.ref:=by rw [List.map_set,List.map_set]
theorem h_g {H:Hp} {l:Addr} {L:LM} {i j:Nat} {x y:List Int} (h:MatL H l L) (ei:L[i]?=some x) (ej:L[j]?=some y):∃ zs u v,H l=some (.lst zs)/\zs[i]?=some u/\zs[j]?=some v/\MatL (upd H l (.lst ((zs.set i v).set j u))) l ((L.set i y).set j x):=by
 obtain ⟨ps,h1,h2,h3⟩:=h
 have il:=(zqa ei).1
 have jl:=(zqa ej).1
 obtain ⟨a,ha⟩:∃ p,ps[i]?=some p:=⟨_,zqd (by omega)⟩
 obtain ⟨b,hb⟩:∃ p,ps[j]?=some p:=⟨_,zqd (by omega)⟩
 refine ⟨_,.ref a,.ref b,h1,by rw [List.getElem?_map,ha]; rfl,by rw [List.getElem?_map,hb]; rfl,?_⟩
 rw [h_N]
 refine ⟨(ps.set i b).set j a,a_F,by simp [h2],fun m p r e1 e2=>?_⟩
 rw [c_U ei ej] at e2
 have sw:((ps.set i b).set j a)[m]?=if m=j then some a else if m=i then some b else ps[m]?:=by
  by_cases h1:m=j
  ·subst h1
   rw [if_pos rfl,List.getElem?_set_self (by rw [List.length_set]; omega)]
  ·rw [if_neg h1,List.getElem?_set_ne (fun z=>h1 z.symm)]
   by_cases h2:m=i
   ·subst h2
    rw [if_pos rfl,List.getElem?_set_self (by omega)]
   ·rw [if_neg h2,List.getElem?_set_ne (fun z=>h2 z.symm)]
 rw [sw] at e1
 have go:p≠l/\H p=some (.lst (r.map V.int)):=by
  by_cases h1:m=j
  ·rw [if_pos h1] at e1 e2
   exact h3 i p r (ha.trans e1) (ei.trans e2)
  ·rw [if_neg h1] at e1 e2
   by_cases h2:m=i
   ·rw [if_pos h2] at e1 e2
    exact h3 j p r (hb.trans e1) (ej.trans e2)
   ·rw [if_neg h2] at e1 e2
    exact h3 m p r e1 e2
 exact ⟨go.1,by rw [a_E go.1]; exact go.2⟩
theorem l_M {ns:List Int} (h:2<=ns.length):∃ (us:List Int) (b a:Int),ns=us++[b,a]:=by
 obtain ⟨us,a,rfl⟩:∃ us a,ns=us++[a]:=⟨ns.dropLast,ns.getLast (by intro z; rw [z] at h; simp at h),(List.dropLast_concat_getLast _).symm⟩
 obtain ⟨us',b,rfl⟩:∃ us' b,us=us'++[b]:=⟨us.dropLast,us.getLast (by intro z; rw [z] at h; simp at h),(List.dropLast_concat_getLast _).symm⟩
 exact ⟨us',b,a,by simp⟩
theorem b_I.ev {K:Frag} {t:Adr} {H H':Hp} {x l c:Addr} {L C:LM} (S:b_I t H x l c L C) (e:Ev K t [] H H'):b_I t H' x l c L C:=by
 obtain ⟨⟨dx,ob⟩,li,co,ne,l0,c0⟩:=S
 exact ⟨⟨dx,e.1 _ _ (fun z=>nomatch z) (fun _ z=>by cases z) ob⟩,c_W li e (fun z=>nomatch z) (fun _ z=>nomatch z),c_W co e (fun z=>nomatch z) (fun _ z=>nomatch z),ne,l0,c0⟩
theorem b_I.bt {K:Frag} {t:Adr} {H H':Hp} {x l c:Addr} {L C:LM} (S:b_I t H x l c L C) (b:Bt [l,c] H H'):Ev K t [l,c] H H':=by
 refine b.ev fun a ha=>?_
 obtain ⟨_,⟨ps,h1,_⟩,⟨qs,k1,_⟩,_⟩:=S
 rcases List.mem_cons.mp ha with e | e
 ·rw [e]; exact .inr (.inl ⟨_,h1⟩)
 ·rw [List.mem_singleton.mp e]; exact .inr (.inl ⟨_,k1⟩)
theorem n_J {x:Int} {B:Nat} (h:x.natAbs < 2 ^ B):Builtin.Int.intBits x<=B:=intBits_le_iff.mpr h
theorem b_m {q:Int} {E:Nat} (h:q.natAbs<=2 ^ E):Builtin.Int.intBits q<=E+1:=n_J (Nat.lt_of_le_of_lt h (Nat.pow_lt_pow_right (by decide) (Nat.lt_succ_self E)))
noncomputable def sp_4 (K:Frag) (t:Adr):Sp:=fun vs H Q _=>∃ (x l c:Addr) (L C:LM) (top k d n:Nat) (cs:LM) (b e:Nat),vs=[.ref x,.int top,.int k]/\b_I t H x l c L C/\TT K t H/\Gm d n k top cs b e L L C 1/\(∀ (i:Nat) r,top<=i->L[i]?=some r->∀ z∈r,z.natAbs<=2 ^ b) /\
 n<=63/\k < d/\d<=63/\top<=n/\(n - top)*(b+1)<=bS/\(4*b+2<=bS\/n<=top)/\e<=bS /\
 ∀ v F L' C' H',Ev K t [l,c] H H'->TT K t H'->b_I t H' x l c L' C'->Gm d n k top cs b e L L' C' F->F<=2 ^ ((n - top)*(b+1))->Gat v k top L'->(v=false->L'=L/\C'=C)->Q (.bl v) H'
noncomputable def sp_2 (t:Adr):Sp:=fun vs H Q _=>∃ (x l c:Addr) (L C:LM) (ks:List Nat) (k d n:Nat) (cs:LM) (b u e:Nat),vs=[.ref x,.int ks.length,.int k]/\b_I t H x l c L C/\Sl d n k cs ks b u e 0 L C /\
 n<=63/\k < d/\d<=63/\b<=bS/\u<=bS/\e<=bS /\
 ∀ L' C' H',Bt [l,c] H H'->b_I t H' x l c L' C'->Ec d n (k+1) cs (ks++[k]) b (u+b+1) (e+u+6) L' C'->Q .non H'
noncomputable def n_Z (H H':Hp) (f g h:Addr) (F R U:LM):Prop:=∃ ps qs us,MatP H' f ps F/\MatP H' g qs R/\MatP H' h us U/\g≠f/\h≠f/\h≠g/\∀ x o,(∀ ps,o≠.tbl ps)->H x=some o->x ∉ f :: ps/\x ∉ g :: qs/\x ∉ h :: us
theorem l_N {H H3 H4 H5 H6 H':Hp} {f g h:Addr} {F R U:LM} (n1:NewL H3 H4 f F) (s4:Same H3 H4) (n2:NewL H4 H5 g R) (s5:Same H4 H5) (n3:NewL H5 H6 h U) (s6:Same H5 H6) (s7:Same H6 H') (k:∀ x o,(∀ ps,o≠.tbl ps)->H x=some o->H3 x=some o):n_Z H H' f g h F R U:=by
 obtain ⟨ps,p1,p2⟩:=n1
 obtain ⟨qs,q1,q2⟩:=n2
 obtain ⟨us,u1,u2⟩:=n3
 refine ⟨ps,qs,us,((p1.up s5).up s6).up s7,(q1.up s6).up s7,u1.up s7,fun z=>?_,fun z=>?_,fun z=>?_,fun x o ho e=>⟨fun z=>?_,fun z=>?_,fun z=>?_⟩⟩
 ·have:=q2 g (.inl rfl); rw [z,p1.1] at this; cases this
 ·have:=u2 h (.inl rfl); rw [z,s5 _ _ p1.1] at this; cases this
 ·have:=u2 h (.inl rfl); rw [z,q1.1] at this; cases this
 ·have e3:=k x o ho e
  rw [p2 x (List.mem_cons.mp z)] at e3; cases e3
 ·have e3:=s4 _ _ (k x o ho e)
  rw [q2 x (List.mem_cons.mp z)] at e3; cases e3
 ·have e3:=s5 _ _ (s4 _ _ (k x o ho e))
  rw [u2 x (List.mem_cons.mp z)] at e3; cases e3
noncomputable def sp_f (K:Frag) (t:Adr):Sp:=fun vs H Q _=>∃ (b1 b2:Bool) (a:Addr) (A:LM) (d n B:Nat),vs=[.ref a]/\MatB b1 b2 K H a A/\A.length=n/\(∀ r∈A,r.length=d)/\1<=n/\n<=63/\d<=63/\BdM (2 ^ B) A/\FitS n d B/\TT K t H /\
 ∀ r f g h F R C ks H',Ev K t [] H H'->TT K t H'->H' r=some (.tup [.ref f,.ref g,.ref h])->Told H' f g h F R (g_v n C)->Sta d n A ks F R C->n_Z H H' f g h F R (g_v n C)->Q (.ref r) H'
theorem n_K {L:LM} {top k:Nat} {us:List Int} {i j:Nat} {xj:List Int} (h:j_Q L top k (us++[(j:Int),(i:Int)])) (ej:L[j]?=some xj) {m:Nat} {r:List Int} (hm:top<=m) (ne:m≠i) (e:L[m]?=some r):(r.getD k 0).natAbs<=(xj.getD k 0).natAbs:=by
 by_cases z:r.getD k 0=0
 ·rw [z]; exact Nat.zero_le _
 ·have h1:=h.1.mem_iff.mpr (e_x hm e z)
  rcases List.mem_append.mp h1 with q | q
  ·have:=(List.pairwise_append.mp h.2).2.2 _ q (j:Int) (List.mem_cons_self ..)
   rw [f_L e,f_L ej] at this
   exact this
  ·rcases List.mem_cons.mp q with q | q
   ·have:m=j:=by omega
    subst this
    rw [e] at ej
    cases ej
    exact Nat.le_refl _
   ·exact absurd (show m=i by have:=List.mem_singleton.mp q; omega) ne
noncomputable def j_R (H:Hp) (q:Addr) (ks:List Nat):Prop:=∃ ps:List Addr,H q=some (.lst (ps.map V.ref))/\ps.length=ks.length/\∀ (i:Nat) p j,ps[i]?=some p->ks[i]?=some j->H p=some (.tup [.int i,.int j])
noncomputable def l_O (d:Nat) (F:LM) (ks:List Nat):Prop:=ks.length<=F.length/\∀ (i:Nat) r,F[i]?=some r->(∀ j,ks[i]?=some j->j < d/\r.getD j 0≠0/\∀ m,m < j->r.getD m 0=0)/\(ks.length<=i->∀ m,r.getD m 0=0)
noncomputable def sp_k (K:Frag):Sp:=fun vs H Q _=>∃ (b1 b2:Bool) (f:Addr) (F:LM) (d:Nat) (ks:List Nat),vs=[.ref f]/\MatB b1 b2 K H f F/\F.length<=63/\(∀ r∈F,r.length=d)/\d<=63/\l_O d F ks /\
 ∀ q H',Same H H'->H q=none->j_R H' q ks->Q (.ref q) H'
noncomputable def wB:Nat:=4194304
noncomputable def sp_l (K:Frag):Sp:=fun vs H Q _=>∃ (b1 b2 b3:Bool) (f q tp:Addr) (F:LM) (d n:Nat) (ks:List Nat) (ts:List Int) (u:Int),vs=[.ref f,.ref q,.ref tp,.int u]/\MatB b1 b2 K H f F/\j_R H q ks/\SqB b3 K H tp (ts.map V.int) /\
 F.length=n/\(∀ r∈F,r.length=d)/\ts.length=n/\1<=n/\n<=63/\1<=d/\d<=12/\ks.length<=n/\ks.Pairwise (· < ·)/\(∀ j∈ks,j < d) /\
 (∀ (i:Nat) r j,F[i]?=some r->ks[i]?=some j->0 < r.getD j 0/\∀ m,m < j->r.getD m 0=0)/\u≠0/\u.natAbs<=2 ^ wB/\BdM (2 ^ wB) F/\BdM (2 ^ wB) [ts] /\
 ∀ p H' ns,Same H H'->c_b H' p (redT (u*scl F ks ks.length) ns) (redU (u*scl F ks ks.length) ns)->ns.length=d->(∀ z∈ns,z.natAbs<=2 ^ (25*wB+48))->(∀ (i:Nat) r x,i < ks.length->F[i]?=some r->ts[i]?=some x->dotI r ns=x*scl F ks ks.length)->Q (.ref p) H'
noncomputable def c_H (H:Hp) (v:V) (A:LM) (ts:List Int) (u mm:Int) (d n:Nat):Prop:=∃ r,v=.ref r /\
  ((∃ p ns w,H r=some (.tup [.str "place",.ref p])/\c_b H p ns w/\0 < w/\w.natAbs<=2 ^ (13*wB)/\gl w ns=1/\ns.length=d/\(∀ z∈ns,z.natAbs<=2 ^ (25*wB+48))/\∀ (i:Nat) row x,A[i]?=some row->ts[i]?=some x->mm*w∣dotI row ns*u - x*w) \/
   (∃ p ns,H r=some (.tup [.str "row",.ref p])/\H p=some (.tup (ns.map V.int))/\ns.length=n/\(∀ z∈ns,z.natAbs<=2 ^ wB)/\(∀ k,k < d->dotI ns (colI k A)=0)/\¬ mm∣dotI ns ts))
noncomputable def sp_a (K:Frag) (t:Adr):Sp:=fun vs H Q _=>∃ (b1 b2:Bool) (a sp f c:Addr) (pm ctv:Value) (A:LM) (ts:List Int) (u:Int) (d n B:Nat),vs=[.ref a,.ref sp,.ref f]/\MatB b1 b2 K H a A/\A.length=n/\(∀ r∈A,r.length=d)/\1<=n/\n<=63/\1<=d/\d<=12/\BdM (2 ^ B) A/\FitS n d B /\
 c_b H sp ts u/\0 < u/\u.natAbs<=2 ^ 90/\ts.length=n/\(∀ z∈ts,z.natAbs<=2 ^ (B+90))/\TT K t H/\H f=some (lamO f c "met.<locals>.<lambda>" (lamP c_u) (lamB c_u) (lamS c_u) [] pm ctv)/\H c=some (c_a c "met.<locals>.<lambda>") /\
 ∀ v H',Ev K t [] H H'->TT K t H'->c_H H' v A ts u 0 d n->Q v H'
noncomputable def f_T (K:Frag) (t:Adr):Sp:=fun vs H Q _=>∃ (b1 b2:Bool) (a sp f c cc:Addr) (ob:Obj) (pm ctv:Value) (A:LM) (ts:List Int) (u:Int) (d n B:Nat),vs=[.ref a,.ref sp,.ref f]/\MatB b1 b2 K H a A/\A.length=n/\(∀ r∈A,r.length=d)/\1<=n/\n<=63/\1<=d/\d<=12/\BdM (2 ^ B) A/\FitS n d B /\
 c_b H sp ts u/\0 < u/\u.natAbs<=2 ^ 90/\ts.length=n/\(∀ z∈ts,z.natAbs<=2 ^ (B+90))/\TT K t H/\H f=some (lamO f c "whole_met.<locals>.<lambda>" (lamP a_M) (lamB a_M) (lamS a_M) [("spot",cc)] pm ctv)/\H c=some (c_a c "whole_met.<locals>.<lambda>")/\H cc=some (b_D cc ob)/\ob.data=.cell (some (.ref sp)) /\
 ∀ v H',Ev K t [] H H'->TT K t H'->c_H H' v A ts u u d n->Q v H'
noncomputable def sp_u (K:Frag) (t:Adr):Sp:=fun vs H Q E=>∃ (b1 b2 b3:Bool) (a tp:Addr) (A:LM) (ts:List Int) (u:Int) (d n B:Nat),vs=[.ref a,.ref tp,.int u]/\MatB b1 b2 K H a A/\SqB b3 K H tp (ts.map V.int)/\A.length=n/\(∀ r∈A,r.length=d)/\1<=n/\n<=63/\1<=d/\d<=12/\BdM (2 ^ B) A/\FitS n d B /\
 u.natAbs<=2 ^ 90/\ts.length=n/\(∀ z∈ts,z.natAbs<=2 ^ (B+90))/\TT K t H/\(u=0->E (.ref t.a_8) none H)/\(u≠0->∀ v H',Ev K t [] H H'->TT K t H'->c_H H' v A (redT u ts) (redU u ts) 0 d n->Q v H')
noncomputable def sp_1 (K:Frag) (t:Adr):Sp:=fun vs H Q E=>∃ (b1 b2 b3:Bool) (a tp:Addr) (A:LM) (ts:List Int) (u:Int) (d n B:Nat),vs=[.ref a,.ref tp,.int u]/\MatB b1 b2 K H a A/\SqB b3 K H tp (ts.map V.int)/\A.length=n/\(∀ r∈A,r.length=d)/\1<=n/\n<=63/\1<=d/\d<=12/\BdM (2 ^ B) A/\FitS n d B /\
 u.natAbs<=2 ^ 90/\ts.length=n/\(∀ z∈ts,z.natAbs<=2 ^ (B+90))/\TT K t H/\(u=0->E (.ref t.a_8) none H)/\(u≠0->∀ v H',Ev K t [] H H'->TT K t H'->c_H H' v A (redT u ts) (redU u ts) (redU u ts) d n->Q v H')
theorem c_X {n k:Nat} (h:k < n):ixN n (k:Int)=some k:=by
 unfold ixN
 rw [if_pos (by omega),if_pos (by omega)]
 simp
theorem ok_s (T:Txt K mg t) (Gs:Gd P mg base):FnOk P w K mg base CX0 33 t.a_s t.d_s ["one","other"] sp_s:=by
 refine T.F_s.ok sc_s (by walk_at "v") (fun cdv A outer s H vs Q E hr h=>?_)
 ·obtain ⟨b,a,rfl,h0,q⟩:=h
  refine ⟨_,(a_I (a_S (a_O (e_J Gs (e_g hr (by decide))) (a_O c_K (a_O b_P a_D (pv 0)) (pv 1)) (a_O b_P a_D (pv 1))))),?_⟩
  show tRet _ _ [some (.int b),some (.int a)] H
  walk_at "r"
  exact ⟨IntMulOk.of_left (by decide),IntMulOk.of_left (by decide),by omega,q⟩
theorem ok_v (T:Txt K mg t):FnOk P w K mg base CX0 1 t.a_v t.d_v ["one","other","count"] (sp_v K):=by
 refine T.F_v.ok sc_v (by walk_at "v") (fun cdv A outer s H vs Q E hr h=>?_)
 ·obtain ⟨b1,b2,a,b,xs,ys,c,rfl,h1,h2,hl,hz,hm,hQ⟩:=h
  refine ⟨_,(a_I (a_S (b_G (xs:=["left","right"]) (fr:=[("count",2)]) (g:=(gTup K 2 (c_i (a_R 0) (c_i (a_R 1) gNil)))) (tt:=(tEl (tOp (rI0 fun i j=>.int (i - j)) (tVar 0) (tOp (rI (fun i j=>IntMulOk i j) fun i j=>.int (i*j)) (tVar 2) (tVar 1))))) (a_T (sc:=a_G s_v) (N:=N_v) rfl rfl (by decide +kernel)) rfl (f_B rfl T.z_zip (a_A (pv 0) (a_A (pv 1) a_B))) (fun _ _ _ hE1=>(d_T rfl (b_F (b_z (N:=["left","right","count"]) (i:=0) hE1 rfl (by decide +kernel)) (b_F (b_z (N:=["left","right","count"]) (i:=1) hE1 rfl (by decide +kernel)) c_S)))) (fun _ _ _ hE1=>(c_g (a_O d_m (pv 0) (a_O b_P (pv 2) (pv 1)))))))),?_⟩
  show tRet _ _ [some (.ref a),some (.ref b),some (.int c)] H
  walk_at "r"
  refine a_Y fun B eB=>?_
  simp only [iZip]
  walk_at "r"
  refine ⟨b1,⟨_,h1⟩,b2,⟨_,h2⟩,fun p hp=>?_⟩
  refine g_s (fun j y _=>∃ m n,xs[j]?=some m/\ys[j]?=some n/\y=.int (m - c*n)) hp h1 h2 (by simpa using hl) (by simpa using hz) (fun _ _ _ _ r _=>r) ?_ ?_
  ·intro i x y H1 zs ex ey s1 ez Q' hQ'
   obtain ⟨m,em,rfl⟩:=b_Z ex
   obtain ⟨n,en,rfl⟩:=b_Z ey
   subst eB
   show tOp _ _ _ [some (.int m),some (.int n),some (.int c)] H1 Q'
   walk_at "r"
   exact ⟨hm n (zqb en),hQ' _ _ (Same.refl _) ⟨m,n,em,en,rfl⟩⟩
  ·intro H1 zs s1 ez hlz hr'
   have ey:zs=(a_N xs ys c).map V.int:=by
    refine c_k (by unfold a_N; simp at hlz ⊢; omega) fun j y e=>?_
    obtain ⟨m,n,em,en,rfl⟩:=hr' j y e
    exact ⟨m - c*n,by unfold a_N; rw [List.getElem?_zipWith,em,en],rfl⟩
   subst ey
   exact hQ p H1 s1 hp ez
theorem ok_p (T:Txt K mg t):FnOk P w K mg base CX0 1 t.a_p t.d_p ["table","i","j"] sp_p:=by
 refine T.F_p.ok sc_p (by walk_at "v") (fun cdv A outer s H vs Q E hr h=>?_)
 ·obtain ⟨l,zs,i,j,x,y,rfl,h1,hi,hj,q⟩:=h
  have il:=(zqa hi).1
  have jl:=(zqa hj).1
  refine ⟨_,(a_C (a_L (i:=3) sc_p.nd rfl (Or.inl rfl) (px (pv 0) (pv 1)))
   (a_C (d_V (px (pv 0) (pv 2)) (d_U (pv 0) (pv 1) c_A))
   (a_I (d_V (pv 3) (d_U (pv 0) (pv 2) c_A))))),?_⟩
  show tSeq _ _ _ [some (.ref l),some (.int i),some (.int j),none] H
  refine st fun N1 e1=>?_
  walk_at "r"
  refine ⟨false,l,_,_,_,rfl,rfl,SqB.lst h1,b_H hi rfl,?_⟩
  subst e1
  refine st fun N1 e1=>?_
  simp only [tAsg,gSub,g_l]
  walk_at "r"
  refine ⟨false,l,_,_,_,rfl,rfl,SqB.lst h1,b_H hj rfl,_,h1,i,c_X il,?_⟩
  subst e1
  simp only [tAsg,gSub,g_l]
  walk_at "r"
  refine ⟨_,a_F,j,c_X (by rw [List.length_set]; exact jl),?_⟩
  rw [l_V]
  exact q
theorem ok_c (T:Txt K mg t):FnOk P w K mg base CX0 1 t.a_c t.d_c ["table","i"] sp_c:=by
 refine T.F_c.ok sc_c (by walk_at "v") (fun cdv A outer s H vs Q E hr h=>?_)
 ·obtain ⟨l,L,i,r,rfl,hM,hi,hl,hQ⟩:=h
  refine ⟨_,(a_I (d_V (b_G (xs:=["number"]) (fr:=[]) (g:=(a_R 0)) (tt:=(tEl (tUn (rU fun i=>.int (-i)) (tVar 0)))) (a_T (sc:=a_G s_c) (N:=N_c) rfl rfl (by decide +kernel)) rfl (c_r (px (pv 0) (pv 1))) (fun _ _ _ hE1=>(b_z (N:=["number"]) (i:=0) hE1 rfl (by decide +kernel))) (fun _ _ _ hE1=>(c_g (g_O e_Y (pv 0))))) (d_U (pv 0) (pv 1) c_A))),?_⟩
  show tAsg _ _ _ [some (.ref l),some (.int i)] H
  have il:=(zqa hi).1
  obtain ⟨ps,h1,h2,h3⟩:=id hM
  obtain ⟨p,hp⟩:∃ p,ps[i]?=some p:=⟨_,zqd (by omega)⟩
  obtain ⟨hne,hr'⟩:=h3 i p r hp hi
  simp only [tAsg,gSub,g_l]
  walk_at "r"
  refine a_Y fun B eB=>?_
  simp only [iSeq]
  walk_at "r"
  refine ⟨false,l,_,_,_,rfl,rfl,SqB.lst h1,b_H (show (ps.map V.ref)[i]?=some (.ref p) by rw [List.getElem?_map,hp]; rfl) rfl,false,p,rfl,⟨_,SqB.lst hr'⟩,fun a1 ha1=>?_⟩
  refine c_M (fun k z _=>∃ n,r[k]?=some n/\z=.int (-n)) ha1 (SqB.lst hr') (by rw [zqe]; exact hl) (fun _ _ _ _ r _=>r) ?_ ?_
  ·intro k z H3 zs3 ez2 s3 _ Q2 hQ2
   obtain ⟨n,en,rfl⟩:=b_Z ez2
   subst eB
   show tUn _ _ [some (.int n)] H3 Q2
   walk_at "r"
   exact hQ2 _ _ (Same.refl _) ⟨n,en,rfl⟩
  ·intro H1 zs s1 ez hlz hr2
   have ey:zs=(r.map fun z=>-z).map V.int:=by
    refine c_k (by simpa using hlz) fun j y e=>?_
    obtain ⟨n,en,rfl⟩:=hr2 j y e
    exact ⟨-n,by rw [List.getElem?_map,en]; rfl,rfl⟩
   subst ey
   have nea:a1≠l:=fun z=>by rw [z,h1] at ha1; cases ha1
   refine ⟨_,s1 _ _ h1,i,c_X (by rw [zqe]; omega),?_⟩
   refine hQ _ (fun b o hb e=>by rw [a_E (by simpa using hb)]; exact s1 b o e) ⟨ps.set i a1,by rw [a_F,List.map_set],by simp [h2],fun m p' r' e1 e2=>?_⟩
   by_cases e:m=i
   ·subst e
    rw [List.getElem?_set_self (by omega)] at e1
    rw [List.getElem?_set_self il] at e2
    cases e1; cases e2
    exact ⟨nea,by rw [a_E nea]; exact ez⟩
   ·rw [List.getElem?_set_ne (fun w=>e w.symm)] at e1 e2
    obtain ⟨n1,n2⟩:=h3 m p' r' e1 e2
    exact ⟨n1,by rw [a_E n1]; exact s1 _ _ n2⟩
theorem ok_0 (T:Txt K mg t) (Gs:Gd P mg base):FnOk P w K mg base CX0 1 t.a_0 t.d_0 ["self","top","k"] (sp_0 K t):=by
 have Bm:=Gs.bm
 refine T.F_0.okL T.tb_0 sc_0 (fun vs H Q E h=>?_) (fun A outer s H vs Q E hr h=>?_)
 ·obtain ⟨x,l,c,L,C,top,k,rfl,_⟩:=h
  rfl
 ·obtain ⟨x,l,c,L,C,top,k,rfl,S,tt,ht,h4,hk,hQ⟩:=h
  obtain ⟨⟨dx,ob⟩,li,co,ne,l0,c0⟩:=S
  refine ⟨_,(a_C (a_L (i:=3) sc_0.nd rfl (Or.inr rfl) (b_U (pv 0) rfl))
   (a_C (c_q (i:=4) (xs:=["i"]) (fr:=[("k",2),("lines",3)]) (g:=(a_R 0)) (tt:=(d_R (g_h (tOp (rI0 fun i j=>.bl (!decide (i=j))) (tOp (rIxB K) (tOp (rIxB K) (tVar 2) (tVar 0)) (tVar 1)) (tC (.int 0)))) (tVar 0))) (a_T (sc:=a_G s_0) (N:=N_0) rfl rfl (by decide +kernel)) rfl sc_0.nd rfl rfl (e_X rfl T.z_range (a_A (pv 1) (a_A (a_J a_U rfl T.z_len (by decide +kernel) (a_A (pv 3) a_B)) a_B))) (fun _ _ _ hE1=>(b_z (N:=["i","k","lines"]) (i:=0) hE1 rfl (by decide +kernel))) (fun _ _ _ hE1=>(k_V (a_X e_a (px (px (pv 2) (pv 0)) (pv 1)) a_D (a_V _)) (pv 0))))
   (a_I (a_S (l_m (x := "i") (fr:=[("k",2),("lines",3)]) (qual := "Steps.rising.<locals>.<lambda>") (f0:=t.a_0) (g_a (sc:=a_G s_0) (N:=N_0) rfl rfl (by decide +kernel)) ⟨rfl,rfl,fun _ _ _ _ _ _ _ _=>rfl⟩ T.tb_0 rfl Bm hr.depth rfl T.z_sorted (pv 4) (te:=(tCB (fun xs H Q=>∃ i,xs=[.int i]/\Q (.int (if i < 0 then -i else i)) H) (b_O (tOp (rIxB K) (tOp (rIxB K) (tVar 2) (tVar 0)) (tVar 1)) tNil))) (fun _ _ _ _=>(a_J e_D rfl T.z_abs (by decide +kernel) (a_A (px (px (pv 2) (pv 0)) (pv 1)) a_B)))))))),?_⟩
  show tSeq _ _ _ [some (.ref x),some (.int top),some (.int k),none,none] H
  refine st fun N1 e1=>?_
  show tFld _ _ _ [some (.ref x),some (.int top),some (.int k),none,none] H _
  refine b_V rfl ob T.cl_m T.h_k (b_J l c) ?_
  show N1 [some (.ref x),some (.int top),some (.int k),some (.ref l),none] H
  subst e1
  refine st fun N1 e1=>?_
  show c_F _ _ _ [some (.ref x),some (.int top),some (.int k),some (.ref l),none] H
  simp only [c_F]
  refine g_u fun C0 B0 eC eB=>?_
  simp only [j_i]
  walk_at "r"
  have hM:MatB false false K H l L:=li.b
  refine e_u hM ?_
  walk_at "r"
  refine ⟨by omega,by omega,by omega,by omega,fun p hp=>?_⟩
  have en:((L.length:Int) - (top:Int)).toNat=L.length - top:=by omega
  rw [en]
  have at_is:∀ {m:Nat} {r:List Int},L[m]?=some r->at2 L (m:Int) k=r.getD k 0:=fun {m r} e=>by
   unfold at2
   have e0:L.getD m []=r:=by rw [zqc,e]; rfl
   rw [Int.toNat_natCast,e0]
  refine h_e (fun i zs _=>zs=((((List.range i).map fun m=>((top+m:Nat):Int)).filter fun z=>decide (at2 L z k≠0)).map V.int)) hp (by omega) rfl (fun i zs _ e=>?_) (fun _ _ _ _ e _=>e) ?_ ?_
  ·rw [e,zqe]
   exact Nat.le_trans (List.length_filter_le _ _) (by simp)
  ·intro i H1 zs hi s1 ez eP C' hC1 hC2
   obtain ⟨r,er⟩:∃ r,L[top+i]?=some r:=⟨_,zqd (by omega)⟩
   have hkr:k < r.length:=hk r (zqb er)
   subst eC
   subst eB
   show d_R _ _ [some (.int ((top:Int)+i)),some (.int k),some (.ref l)] H1 C'
   simp only [d_R]
   walk_at "r"
   refine e_C ((li.up s1).b (K:=K)) er (b_R hkr) (by omega) rfl ?_
   walk_at "r"
   have e2:at2 L ((top+i:Nat):Int) k=r.getD k 0:=at_is er
   refine ite2 (fun z=>?_) (fun z=>?_)
   ·have zn:r.getD k 0≠0:=by simpa using z
    refine hC1 _ _ (Same.refl _) ?_
    rw [eP,List.range_succ,List.map_append,List.filter_append,List.map_append,List.map_singleton,List.filter_cons_of_pos (by rw [e2]; simpa using zn)]
    simp
   ·have zn:r.getD k 0=0:=by simpa using z
    refine hC2 _ (Same.refl _) ?_
    rw [eP,List.range_succ,List.map_append,List.filter_append,List.map_append,List.map_singleton,List.filter_cons_of_neg (by rw [e2,zn]; simp)]
    simp
  ·intro H1 ys s1 ey eP
   subst eP
   subst e1
   show tRet _ _ [some (.ref x),some (.int top),some (.int k),some (.ref l),some (.ref p)] H1
   have tt1:TT K t H1:=(a_P (S:=[]) s1).2 tt
   obtain ⟨pt,et⟩:=tt1.r.tbl
   have memS:∀ n∈e_T L top k,∃ (m:Nat) (r:List Int),n=(m:Int)/\L[m]?=some r:=fun n hn=>by
    obtain ⟨h1,_⟩:=List.mem_filter.mp hn
    obtain ⟨m,hm,rfl⟩:=List.mem_map.mp h1
    have:=List.mem_range.mp hm
    exact ⟨top+m,_,rfl,zqd (by omega)⟩
   refine ⟨.ref p,rfl,tt1.r,p,e_T L top k,fun n=>if at2 L n k < 0 then -(at2 L n k) else at2 L n k,rfl,SqL.of ey,?_,?_,?_⟩
   ·have:(e_T L top k).length<=L.length - top:=by
     unfold e_T
     exact Nat.le_trans (List.length_filter_le _ _) (by simp)
    omega
   ·intro n hn H2 sp Q' hQ'
    obtain ⟨m,r,rfl,er⟩:=memS n hn
    have hkr:k < r.length:=hk r (zqb er)
    have li2:MatL H2 l L:=o_E (li.up s1) et sp
    show tCB _ _ [some (.int (m:Int)),some (.int k),some (.ref l)] H2 Q'
    walk_at "r"
    refine e_C (li2.b (K:=K)) er (b_R hkr) rfl rfl ?_
    refine ⟨_,rfl,?_⟩
    dsimp only at hQ'
    rw [at_is er] at hQ'
    exact hQ'
   ·intro q ns' H2 sp tb hq e p' o'
    obtain ⟨ev,tt2⟩:=tt1.rise sp tb
    refine hQ q ns' H2 ((a_P s1).trans ev) tt2 ?_ e ⟨p',?_⟩
    ·cases w:H q with
     | none=>rfl
     | some z=>rw [s1 _ _ w] at hq; cases hq
    ·refine o'.imp fun {a b} hab=>?_
     dsimp only at hab
     split at hab <;> split at hab <;> omega
theorem ok_g (T:Txt K mg t):FnOk P w K mg base CX0 2 t.a_g t.d_g ["self","i","j","count"] (sp_g t):=by
 have G_v:=@ok_v P w K mg base t T
 refine T.F_g.ok sc_g (by walk_at "v") (fun cdv A outer s H vs Q E hr h=>?_)
 ·obtain ⟨x,l,c,L,C,i,j,q,xi,xj,ci,cj,rfl,S,exi,exj,eci,ecj,hl,hz,hl2,hz2,hm,hm2,hQ⟩:=h
  obtain ⟨⟨dx,ob⟩,li,co,ne,l0,c0⟩:=S
  refine ⟨_,(a_C (d_V (a_K G_v hr.mo rfl T.m_v T.F_v.kp T.b_v .nil a_W (a_A (px (b_U (pv 0) rfl) (pv 1)) (a_A (px (b_U (pv 0) rfl) (pv 2)) (a_A (pv 3) a_B)))) (d_U (b_U (pv 0) rfl) (pv 1) c_A))
   (a_I (d_V (a_K G_v hr.mo rfl T.m_v T.F_v.kp T.b_v .nil a_W (a_A (px (b_U (pv 0) rfl) (pv 2)) (a_A (px (b_U (pv 0) rfl) (pv 1)) (a_A (g_O e_Y (pv 3)) a_B)))) (d_U (b_U (pv 0) rfl) (pv 2) c_A)))),?_⟩
  show tSeq _ _ _ [some (.ref x),some (.int i),some (.int j),some (.int q)] H
  have lnl:=T.h_k
  have lnc:=T.h_8
  obtain ⟨ps,h1,h2,h3⟩:=id li
  obtain ⟨qs,k1,k2,k3⟩:=id co
  have il:=(zqa exi).1
  have jl:=(zqa exj).1
  have ic:=(zqa eci).1
  have jc:=(zqa ecj).1
  have ps0:ps≠[]:=fun z=>l0 (List.eq_nil_of_length_eq_zero (by rw [← h2,z]; rfl))
  have qs0:qs≠[]:=fun z=>c0 (List.eq_nil_of_length_eq_zero (by rw [← k2,z]; rfl))
  obtain ⟨pi,hpi⟩:∃ p,ps[i]?=some p:=⟨_,zqd (by omega)⟩
  obtain ⟨pj,hpj⟩:∃ p,ps[j]?=some p:=⟨_,zqd (by omega)⟩
  obtain ⟨qi,hqi⟩:∃ p,qs[i]?=some p:=⟨_,zqd (by omega)⟩
  obtain ⟨qj,hqj⟩:∃ p,qs[j]?=some p:=⟨_,zqd (by omega)⟩
  have mref:∀ {zs:List Addr} {m:Nat} {p:Addr},zs[m]?=some p->(zs.map V.ref)[m]?=some (.ref p):=fun e=>by rw [List.getElem?_map,e]; rfl
  refine st fun N1 e1=>?_
  simp only [tAsg,gSub,g_l]
  walk_at "r"
  refine b_V rfl ob T.cl_m lnl (b_J l c) (g_D (SqB.lst h1) (mref hpi) (b_V rfl ob T.cl_m lnl (b_J l c) (g_D (SqB.lst h1) (mref hpj) ?_)))
  refine ⟨false,false,pi,pj,xi,xj,q,rfl,SqB.lst (h3 i pi xi hpi exi).2,SqB.lst (h3 j pj xj hpj exj).2,hl,hz,hm,fun p H1 s1 hp ep=>?_⟩
  have pl:p≠l:=fun z=>by rw [z,h1] at hp; cases hp
  refine b_V rfl (s1 _ _ ob) T.cl_m lnl (b_J l c) ⟨l,rfl,_,s1 _ _ h1,i,c_X (by rw [zqe]; omega),?_⟩
  have b1:Bt [l] H (upd H1 l (.lst ((ps.map V.ref).set i (.ref p)))):=fun b o hb e=>by rw [a_E (by simpa using hb)]; exact s1 b o e
  have li1:MatL (upd H1 l (.lst ((ps.map V.ref).set i (.ref p)))) l (L.set i (a_N xi xj q)):=by
   refine ⟨ps.set i p,by rw [a_F,List.map_set],by simp [h2],fun m p' r' e1 e2=>?_⟩
   by_cases e:m=i
   ·subst e
    rw [List.getElem?_set_self (by omega)] at e1
    rw [List.getElem?_set_self il] at e2
    cases e1; cases e2
    exact ⟨pl,by rw [a_E pl]; exact ep⟩
   ·rw [List.getElem?_set_ne (fun w=>e w.symm)] at e1 e2
    obtain ⟨n1,n2⟩:=h3 m p' r' e1 e2
    exact ⟨n1,by rw [a_E n1]; exact s1 _ _ n2⟩
  have nl:∀ {b:Addr} {o:HO},H b=some o->b≠l->(upd H1 l (.lst ((ps.map V.ref).set i (.ref p)))) b=some o:=fun e n=>by rw [a_E n]; exact s1 _ _ e
  have xl:x≠l:=fun z=>by rw [z,h1] at ob; cases ob
  have ob1:=nl ob xl
  have co1:(upd H1 l (.lst ((ps.map V.ref).set i (.ref p)))) c=some (.lst (qs.map V.ref)):=nl k1 (Ne.symm ne)
  have rows1:∀ (m:Nat) p' r',qs[m]?=some p'->C[m]?=some r'->p'≠c/\(upd H1 l (.lst ((ps.map V.ref).set i (.ref p)))) p'=some (.lst (r'.map V.int)):=fun m p' r' e1 e2=>by
   obtain ⟨n1,n2⟩:=k3 m p' r' e1 e2
   exact ⟨n1,nl n2 (e_o h1 ps0 n2)⟩
  generalize upd H1 l (.lst ((ps.map V.ref).set i (.ref p)))=H2 at *
  subst e1
  simp only [tAsg,gSub,g_l]
  walk_at "r"
  refine b_V rfl ob1 T.cl_m lnc (c_o l c) (g_D (SqB.lst co1) (mref hqj) (b_V rfl ob1 T.cl_m lnc (c_o l c) (g_D (SqB.lst co1) (mref hqi) ?_)))
  refine ⟨false,false,qj,qi,cj,ci,-q,rfl,SqB.lst (rows1 j qj cj hqj ecj).2,SqB.lst (rows1 i qi ci hqi eci).2,hl2.symm,by omega,hm2,fun p2 H3 s3 hp2 ep2=>?_⟩
  have pc:p2≠c:=fun z=>by rw [z,co1] at hp2; cases hp2
  refine b_V rfl (s3 _ _ ob1) T.cl_m lnc (c_o l c) ⟨c,rfl,_,s3 _ _ co1,j,c_X (by rw [zqe]; omega),?_⟩
  have xc:x≠c:=fun z=>by rw [z,k1] at ob; cases ob
  refine hQ _ (fun b o hb e=>?_) ⟨⟨dx,by rw [a_E xc]; exact s3 _ _ ob1⟩,?_,?_,ne,fun z=>?_,fun z=>?_⟩
  ·have hb':b≠l/\b≠c:=by simpa using hb
   rw [a_E hb'.2]
   exact s3 _ _ (b1 b o (by simpa using hb'.1) e)
  ·obtain ⟨rs,r1,r2,r3⟩:=li1
   refine ⟨rs,by rw [a_E ne]; exact s3 _ _ r1,r2,fun m p' r' e1 e2=>?_⟩
   obtain ⟨n1,n2⟩:=r3 m p' r' e1 e2
   exact ⟨n1,by rw [a_E (e_o co1 qs0 n2)]; exact s3 _ _ n2⟩
  ·refine ⟨qs.set j p2,by rw [a_F,List.map_set],by simp [k2],fun m p' r' e1 e2=>?_⟩
   by_cases e:m=j
   ·subst e
    rw [List.getElem?_set_self (by omega)] at e1
    rw [List.getElem?_set_self jc] at e2
    cases e1; cases e2
    exact ⟨pc,by rw [a_E pc]; exact ep2⟩
   ·rw [List.getElem?_set_ne (fun w=>e w.symm)] at e1 e2
    obtain ⟨n1,n2⟩:=rows1 m p' r' e1 e2
    exact ⟨n1,by rw [a_E n1]; exact s3 _ _ n2⟩
  ·exact l0 (List.eq_nil_of_length_eq_zero (by have:=congrArg List.length z; simpa using this))
  ·exact c0 (List.eq_nil_of_length_eq_zero (by have:=congrArg List.length z; simpa using this))
theorem o_F {A U:LM} (h:A.length=U.length):(List.range A.length).map (fun i=>A.getD i []++U.getD i [])=List.zipWith (·++·) A U:=by
 refine List.ext_getElem (by simp [h]) fun i h1 h2=>?_
 have hi:i < A.length:=by simpa using h1
 rw [List.getElem_map,List.getElem_range,List.getElem_zipWith]
 rw [zqc,zqc,zqd hi,zqd (by omega)]
 rfl
theorem ok_5 (T:Txt K mg t):FnOk P w K mg base CX0 2 t.a_5 t.d_5 ["self","rows"] (g_L K t):=by
 have G_d:=@ok_d P w K mg base t T
 refine T.F_5.ok sc_5 (by walk_at "v") (fun cdv A outer s H vs Q E hr h=>?_)
 ·obtain ⟨x,dx,a,b1,b2,MA,d,rfl,hx,hM,n1,n4,hw,hd,hQ⟩:=h
  refine ⟨_,(a_C (a_L (i:=2) sc_5.nd rfl (Or.inl rfl) (a_K G_d hr.mo rfl T.m_d T.F_d.kp T.b_d .nil a_W (a_A (a_J a_U rfl T.z_len (by decide +kernel) (a_A (pv 1) a_B)) a_B)))
   (a_C (k_C (pv 0) (b_G (xs:=["row","unit"]) (fr:=[]) (g:=(gTup K 2 (c_i (a_R 0) (c_i (a_R 1) gNil)))) (tt:=(tEl (tOp rCat (tCB (e_c K) (b_O (tVar 0) tNil)) (tVar 1)))) (a_T (sc:=a_G s_5) (N:=N_5) rfl rfl (by decide +kernel)) rfl (f_B rfl T.z_zip (a_A (pv 1) (a_A (pv 2) a_B))) (fun _ _ _ hE1=>(d_T rfl (b_F (b_z (N:=["row","unit"]) (i:=0) hE1 rfl (by decide +kernel)) (b_F (b_z (N:=["row","unit"]) (i:=1) hE1 rfl (by decide +kernel)) c_S)))) (fun _ _ _ hE1=>(c_g (a_O o_p (c_l d_L rfl T.z_list (by decide +kernel) (a_A (pv 0) a_B)) (pv 1))))) rfl)
   (a_I (k_C (pv 0) (a_K G_d hr.mo rfl T.m_d T.F_d.kp T.b_d .nil a_W (a_A (a_J a_U rfl T.z_len (by decide +kernel) (a_A (pv 1) a_B)) a_B)) rfl)))),?_⟩
  show tSeq _ _ _ [some (.ref x),some (.ref a),none] H
  have nz:(idM MA.length).length=MA.length:=by simp [idM]
  have nw:∀ r∈idM MA.length,r.length=MA.length:=fun r hr=>by
   unfold idM at hr
   obtain ⟨i,_,rfl⟩:=List.mem_map.mp hr
   simp
  refine st fun N1 e1=>?_
  walk_at "r"
  refine e_u hM ?_
  refine ⟨MA.length,rfl,by omega,fun un H1 hun s1 hU=>?_⟩
  subst e1
  refine st fun N1 e1=>?_
  show c_E _ _ _ _ _ [some (.ref x),some (.ref a),some (.ref un)] H1 _
  refine a_Y fun B eB=>?_
  simp only [iZip]
  walk_at "r"
  obtain ⟨xs,x1,x2,x3⟩:=(hM.up s1).walk
  obtain ⟨us,u1,u2,u3⟩:=hU
  refine ⟨b1,⟨_,x1⟩,false,⟨_,SqB.lst u1⟩,fun l hl=>?_⟩
  refine g_s (RowR l fun i=>MA.getD i []++(idM MA.length).getD i []) hl x1 (SqB.lst u1) (by rw [x2,zqe,u2,nz]) (by rw [x2]; omega) (RowR.mono (a:=l)) ?_ ?_
  ·intro i u v H2 zs eu ev s2 ez Q' hQ'
   obtain ⟨p,r,rfl,er,hp⟩:=x3 i u eu
   have hin:i < us.length:=by have:=(zqa ev).1; simpa using this
   obtain ⟨p',hp'⟩:∃ p',us[i]?=some p':=⟨_,zqd hin⟩
   obtain ⟨r',er'⟩:∃ r',(idM MA.length)[i]?=some r':=⟨_,zqd (by omega)⟩
   rw [List.getElem?_map,hp'] at ev
   cases ev
   subst eB
   show tOp _ _ _ [some (.ref p),some (.ref p')] H2 Q'
   walk_at "r"
   refine ⟨b2,p,_,rfl,hp.up s2,fun c1 hc1=>?_⟩
   have hp2:H2 p'=some (.lst (r'.map V.int)):=s2 _ _ (u3 i p' r' hp' er').2
   have lr:r.length=d:=hw r (zqb er)
   have lr':r'.length=MA.length:=nw r' (zqb er')
   have e2:(upd H2 c1 (.lst (r.map V.int))) c1=some (.lst (r.map V.int)):=a_F
   have s3:Same H2 (upd H2 c1 (.lst (r.map V.int))):=Same.new hc1
   generalize upd H2 c1 (.lst (r.map V.int))=H3 at *
   refine ⟨c1,p',_,_,rfl,rfl,e2,s3 _ _ hp2,by rw [zqe,zqe]; exact Nat.le_of_lt (c_m (by omega)),fun c2 hc2=>?_⟩
   have ne2:c2≠l:=fun z=>by rw [z,s3 _ _ ez] at hc2; cases hc2
   refine hQ' _ _ (s3.trans (Same.new hc2)) ⟨c2,rfl,ne2,?_⟩
   rw [a_F,← List.map_append]
   congr 2
   show _=List.map V.int (MA.getD i []++(idM MA.length).getD i [])
   rw [zqc,zqc,er,er']
   rfl
  ·intro H2 zs s2 ez hlz hr'
   have hLi:MatL H2 l (List.zipWith (·++·) MA (idM MA.length)):=by
    have:=MatL.of ez hr'
    rw [hlz,x2,o_F (by rw [nz])] at this
    exact this
   have xl:x≠l:=fun z=>by rw [← z,s1 _ _ hx] at hl; cases hl
   have l0:List.zipWith (·++·) MA (idM MA.length)≠[]:=fun z=>by
    have h0:(List.zipWith (·++·) MA (idM MA.length)).length=0:=by rw [z]; rfl
    rw [List.length_zipWith,nz,Nat.min_self] at h0
    omega
   refine ⟨t.a_m,dx,[],s2 _ _ (s1 _ _ hx),T.cl_m,T.h_k,by show 0 < 1000; decide,?_⟩
   have bx:Bt [x] H (upd H2 x (.ins t.a_m dx (putF "lines" (.ref l) []))):=fun b o hb e=>by rw [a_E (by simpa using hb)]; exact s2 _ _ (s1 _ _ e)
   have ex:(upd H2 x (.ins t.a_m dx (putF "lines" (.ref l) []))) x=some (.ins t.a_m dx (putF "lines" (.ref l) [])):=a_F
   have hx2:=s2 _ _ (s1 _ _ hx)
   have hLi2:MatL (upd H2 x (.ins t.a_m dx (putF "lines" (.ref l) []))) l (List.zipWith (·++·) MA (idM MA.length)):=by
    obtain ⟨ps,h1,h2,h3⟩:=hLi
    refine ⟨ps,by rw [a_E (Ne.symm xl)]; exact h1,h2,fun i p r q1 q2=>?_⟩
    obtain ⟨m1,m2⟩:=h3 i p r q1 q2
    exact ⟨m1,by rw [a_E (fun z=>by rw [z,hx2] at m2; cases m2)]; exact m2⟩
   have hM3:MatB b1 b2 K (upd H2 x (.ins t.a_m dx (putF "lines" (.ref l) []))) a MA:=by
    have hMm:=(hM.up s1).up s2
    obtain ⟨ps,h1,h2,h3⟩:=hMm
    have up:∀ {b:Bool} {p:Addr} {us:List V},SqB b K H2 p us->SqB b K (upd H2 x (.ins t.a_m dx (putF "lines" (.ref l) []))) p us:=fun {b p us} h=>by
     have ne:∀ {o:HO},H2 p=some o->(∀ C dx fs,o≠.ins C dx fs)->p≠x:=fun e n z=>by rw [z,hx2] at e; cases e; exact n _ _ _ rfl
     cases b
     ·rcases h with (h | ⟨o,h⟩) | h
      ·exact .inl (.inl (by rw [a_E (ne h (fun _ _ _ z=>by cases z))]; exact h))
      ·exact .inl (.inr ⟨o,by rw [a_E (ne h (fun _ _ _ z=>by cases z))]; exact h⟩)
      ·exact .inr h
     ·rcases h with (h | ⟨o,h⟩) | h
      ·exact .inl (.inl (by rw [a_E (ne h (fun _ _ _ z=>by cases z))]; exact h))
      ·exact .inl (.inr ⟨o,by rw [a_E (ne h (fun _ _ _ z=>by cases z))]; exact h⟩)
      ·exact .inr h
    exact ⟨ps,up h1,h2,fun i p r q1 q2=>up (h3 i p r q1 q2)⟩
   generalize upd H2 x (.ins t.a_m dx (putF "lines" (.ref l) []))=H3 at *
   subst e1
   show (d_Q _ _ _ _) [some (.ref x),some (.ref a),some (.ref un)] H3 _
   walk_at "r"
   refine e_u hM3 ?_
   refine ⟨MA.length,rfl,by omega,fun c H4 hc s4 hC=>?_⟩
   have xc:x≠c:=fun z=>by rw [← z,ex] at hc; cases hc
   refine ⟨t.a_m,dx,_,s4 _ _ ex,T.cl_m,T.h_8,by show 1 < 1000; decide,?_⟩
   have hLi4:=hLi2.up s4
   have lc:l≠c:=fun z=>by obtain ⟨ps,h1,_⟩:=hLi2; rw [z,hc] at h1; cases h1
   have hnl:H l=none:=by
    cases w:H l with
    | none=>rfl
    | some o=>rw [s1 _ _ w] at hl; cases hl
   have hnc:H c=none:=by
    cases w:H c with
    | none=>rfl
    | some o=>rw [bx c o (by simpa using Ne.symm xc) w] at hc; cases hc
   have hx4:=s4 _ _ ex
   have keep:∀ {z:Addr} {X:LM},MatL H4 z X->z≠x->MatL (upd H4 x (.ins t.a_m dx (putF "columns" (.ref c) (putF "lines" (.ref l) [])))) z X:=fun {z X} h ne=>by
    obtain ⟨ps,h1,h2,h3⟩:=h
    refine ⟨ps,by rw [a_E ne]; exact h1,h2,fun i p r q1 q2=>?_⟩
    obtain ⟨m1,m2⟩:=h3 i p r q1 q2
    exact ⟨m1,by rw [a_E (fun z=>by rw [z,hx4] at m2; cases m2)]; exact m2⟩
   refine hQ l c _ (fun b o hb e=>?_) ⟨⟨dx,a_F⟩,keep hLi4 (Ne.symm xl),keep hC (Ne.symm xc),lc,l0,fun z=>?_⟩ hnl hnc
   ·rw [a_E (by simpa using hb)]; exact s4 _ _ (bx b o hb e)
   ·have h0:(idM MA.length).length=0:=by rw [z]; rfl
    omega
noncomputable def GL (K:Frag) (t:Adr) (H:Hp) (x l c:Addr) (L:LM) (top k d n:Nat) (cs:LM) (b e:Nat) (C:LM) (m:Nat) (σ:St) (H2:Hp):Prop :=
 ∃ (q:Addr) (v4 v5:Option V) (ns:List Int) (L' C':LM) (F:Nat),σ=[some (.ref x),some (.int top),some (.int k),some (.ref q),v4,v5]/\Ev K t [l,c] H H2/\TT K t H2/\b_I t H2 x l c L' C'/\Gm d n k top cs b e L L' C' F/\Pot n k top b L' F/\(ns=[]->L'=L/\C'=C)/\H2 q=some (.lst (ns.map V.int))/\j_Q L' top k ns/\m=c_v (colW k top L')
theorem ok_4 (T:Txt K mg t) (Gs:Gd P mg base):FnOk P w K mg base CX0 34 t.a_4 t.d_4 ["self","top","k"] (sp_4 K t):=by
 have G_0:FnOk P w K mg base CX0 1 t.a_0 t.d_0 ["self","top","k"] (sp_0 K t):=ok_0 T Gs
 have G_g:=@ok_g P w K mg base t T
 have G_s:FnOk P w K mg base CX0 33 t.a_s t.d_s ["one","other"] sp_s:=ok_s T Gs
 have G_p:=@ok_p P w K mg base t T
 refine T.F_4.ok sc_4 (by walk_at "v") (fun cdv A outer s H vs Q E hr h=>?_)
 ·obtain ⟨x,l,c,L,C,top,k,d,n,cs,b,e,rfl,S,tt,md,bs0,n3,kd,d3,tn,hg,hb,he,hQ⟩:=h
  have eS:bS=33554432:=rfl
  refine ⟨_,(a_C (a_L (i:=3) sc_4.nd rfl (Or.inl rfl) (e_p (C:=t.a_m) (pv 0) T.cl_m T.me_0 G_0 hr.mo T.b_0 .nil a_W (a_A (pv 1) (a_A (pv 2) a_B))))
   (a_C (h_S PassesOwn.never (a_X h_W (a_J a_U rfl T.z_len (by decide +kernel) (a_A (pv 3) a_B)) a_D (a_V _))
   (a_C (a_L (i:=4) sc_4.nd rfl (Or.inl rfl) (px (pv 3) (g_O e_Y a_D)))
   (a_C (a_L (i:=5) sc_4.nd rfl (Or.inl rfl) (px (pv 3) (g_O e_Y a_D)))
   (a_C (b_L (e_p (C:=t.a_m) (pv 0) T.cl_m T.me_g G_g hr.mo T.b_g .nil a_W (a_A (pv 4) (a_A (pv 5) (a_A (a_K G_s hr.mo rfl T.m_s T.F_s.kp T.b_s .nil a_W (a_A (px (px (b_U (pv 0) rfl) (pv 4)) (pv 2)) (a_A (px (px (b_U (pv 0) rfl) (pv 5)) (pv 2)) a_B))) a_B)))))
   (a_I (a_L (i:=3) sc_4.nd rfl (Or.inl rfl) (e_p (C:=t.a_m) (pv 0) T.cl_m T.me_0 G_0 hr.mo T.b_0 .nil a_W (a_A (pv 1) (a_A (pv 2) a_B)))))))))
   (a_C (b_W (a_X c_D (a_J a_U rfl T.z_len (by decide +kernel) (a_A (pv 3) a_B)) a_D (a_V _))
   (a_C (b_L (a_K G_p hr.mo rfl T.m_p T.F_p.kp T.b_p .nil a_W (a_A (b_U (pv 0) rfl) (a_A (pv 1) (a_A (px (pv 3) a_D) a_B)))))
   (a_I (b_L (a_K G_p hr.mo rfl T.m_p T.F_p.kp T.b_p .nil a_W (a_A (b_U (pv 0) rfl) (a_A (pv 1) (a_A (px (pv 3) a_D) a_B)))))))
   b_y)
   (a_I (a_S (c_y c_D (a_J a_U rfl T.z_len (by decide +kernel) (a_A (pv 3) a_B)) a_D (a_V _))))))),?_⟩
  show tSeq _ _ _ [some (.ref x),some (.int top),some (.int k),none,none,none] H
  have rise:∀ {H1:Hp} {L' C':LM} {F:Nat} {σ:St} {Q':VK},σ[0]?=some (some (.ref x))->σ[1]?=some (some (.int top))->σ[2]?=some (some (.int k))->b_I t H1 x l c L' C'->TT K t H1->Gm d n k top cs b e L L' C' F ->
    (∀ q (ns:List Int) H',Ev K t [] H1 H'->TT K t H'->H' q=some (.lst (ns.map V.int))->j_Q L' top k ns->Q' (.ref q) H') ->
    j_j t.a_m "rising" (sp_0 K t) [] E0 (tVar 0) (b_O (tVar 1) (b_O (tVar 2) tNil)) σ H1 Q':=fun {H1 L' C' F σ Q'} s0 s1 s2 S1 tt1 md1 hq=>by
   obtain ⟨dx,ob⟩:=S1.ob
   refine e_U s0 ob (g_C l c (by decide) (by decide)) ⟨_,s1,_,s2,?_⟩
   exact ⟨x,l,c,L',C',top,k,rfl,S1,tt1,by rw [md1.ln.len]; exact tn,by rw [md1.ln.len]; omega,fun r hr'=>by rw [md1.ln.wid r hr']; omega,fun q ns H' ev tt' _ e r=>hq q ns H' ev tt' e r⟩
  refine st fun N1 e1=>?_
  refine rise rfl rfl rfl S tt md fun q ns H1 ev tt1 eq rs=>?_
  show N1 [some (.ref x),some (.int top),some (.int k),some (.ref q),none,none] H1
  subst e1
  refine st fun N1 e1=>k_S fun B eB=>?_
  refine ⟨GL K t H x l c L top k d n cs b e C,
   ⟨_,q,none,none,ns,L,C,1,rfl,ev.sub (fun _ z=>nomatch z),tt1,S.ev ev,md,Pot.start md.ln.len (fun i r hi er=>d_O (bs0 i r hi er)),fun _=>⟨rfl,rfl⟩,eq,rs,rfl⟩,?_⟩
  rintro m σ H2 ⟨q,v4,v5,ns,L',C',F,rfl,ev2,tt2,S2,md2,po,sm,eq2,rs2,rfl⟩
  walk_at "r"
  refine c_s (b:=false) (SqB.lst eq2) ?_
  walk_at "r"
  refine ite2 (fun z=>?_) (fun z=>?_)
  ·have hlen:1 < ns.length:=by have:=of_decide_eq_true z; omega
   obtain ⟨us,b',a',rfl⟩:=l_M (ns:=ns) (by omega)
   have rs3:=rs2
   obtain ⟨perm,pw⟩:=rs2
   have nd:(us++[b',a']).Nodup:=(perm.nodup_iff).mpr l_L
   have hab:b'≠a':=by
    have:=(List.nodup_append.mp nd).2.1
    simpa using this
   obtain ⟨i,xi,rfl,ti,exi,nzi⟩:=f_M (perm.mem_iff.mp (show a'∈us++[b',a'] by simp))
   obtain ⟨j,xj,rfl,tj,exj,nzj⟩:=f_M (perm.mem_iff.mp (show b'∈us++[b',(i:Int)] by simp))
   have hij:i≠j:=fun w=>hab (by rw [w])
   have hle:(xj.getD k 0).natAbs<=(xi.getD k 0).natAbs:=by
    have:=(List.pairwise_append.mp pw).2.1
    have:=(List.pairwise_cons.mp this).1 (i:Int) (List.mem_singleton.mpr rfl)
    rw [f_L exi,f_L exj] at this
    exact this
   have il:=(zqa exi).1
   have jl:=(zqa exj).1
   have wi:=md2.ln.wid xi (zqb exi)
   have wj:=md2.ln.wid xj (zqb exj)
   have ln:=md2.ln.len
   have cn:=md2.ln.clen
   obtain ⟨ci,eci⟩:∃ u,C'[i]?=some u:=⟨_,zqd (by omega)⟩
   obtain ⟨cj,ecj⟩:∃ u,C'[j]?=some u:=⟨_,zqd (by omega)⟩
   have wci:=md2.ln.cwid ci (zqb eci)
   have wcj:=md2.ln.cwid cj (zqb ecj)
   have near:=n_A (a:=xi.getD k 0) (b:=xj.getD k 0) nzj
   have po':=po.step (q:=(2*xi.getD k 0+xj.getD k 0).fdiv (2*xj.getD k 0)) ti exi (by omega) (by omega) nzj hle near
   have md':=md2.step (q:=(2*xi.getD k 0+xj.getD k 0).fdiv (2*xj.getD k 0)) kd ti tj hij exi exj eci ecj nzj hle near (fun m r hm nm em=>n_K rs3 exj hm nm em)
   obtain ⟨dx,ob⟩:=S2.ob
   have hM2:MatB false false K H2 l L':=S2.li.b
   have atm:∀ {u:Nat} {z:Int},(us++[(j:Int),(i:Int)])[u]?=some z->((us++[(j:Int),(i:Int)]).map V.int)[u]?=some (.int z):=fun e=>by rw [List.getElem?_map,e]; rfl
   refine ⟨fun σ' H'=>∃ m',m' < c_v (colW k top L')/\GL K t H x l c L top k d n cs b e C m' σ' H',fun σ' H' h=>h,?_⟩
   subst eB
   show tSeq _ _ _ [some (.ref x),some (.int top),some (.int k),some (.ref q),v4,v5] H2
   refine st fun N2 e2=>?_
   walk_at "r"
   refine ⟨false,q,_,_,_,rfl,rfl,SqB.lst eq2,g_E (atm (u:=us.length+1) (z:=(i:Int)) (by simp)) (by simp; omega),?_⟩
   subst e2
   refine st fun N2 e2=>?_
   walk_at "r"
   refine ⟨false,q,_,_,_,rfl,rfl,SqB.lst eq2,g_E (atm (u:=us.length) (z:=(j:Int)) (by simp)) (by simp; omega),?_⟩
   subst e2
   refine st fun N2 e2=>?_
   simp only [h_R]
   refine e_U rfl ob (g_C l c (by decide) (by decide)) ?_
   walk_at "r"
   refine b_V rfl ob T.cl_m T.h_k (b_J l c) ?_
   refine e_C hM2 exi (b_R (by omega)) rfl rfl ?_
   refine b_V rfl ob T.cl_m T.h_k (b_J l c) ?_
   refine e_C hM2 exj (b_R (by omega)) rfl rfl ?_
   refine ⟨_,_,rfl,nzj,?_⟩
   generalize (2*xi.getD k 0+xj.getD k 0).fdiv (2*xj.getD k 0)=qq at *
   have hF':=po'.1.end
   have hF0:=po.end
   have f1:=md2.f1
   have hqb:qq.natAbs<=2 ^ ((n - top)*(b+1)):=by
    have:1*(1+qq.natAbs)<=(1+qq.natAbs)*F:=by rw [Nat.mul_comm]; exact Nat.mul_le_mul_left _ f1
    omega
   refine ⟨x,l,c,L',C',i,j,qq,xi,xj,ci,cj,rfl,S2,exi,exj,eci,ecj,by omega,by omega,by omega,by omega,fun z hz=>?_,fun z hz=>?_,fun H3 b3 S3=>?_⟩
   ·exact mulOk_of_bits (b_m hqb) (b_m (md2.bs j xj tj exj z hz)) (by omega)
   ·exact mulOk_of_bits (b_m (by rw [Int.natAbs_neg]; exact hqb)) (b_m (h_J (md2.bc ci (zqb eci) z hz) hF0)) (by omega)
   ·have ev3:=S2.bt (K:=K) b3
    have tt3:=ev3.2 tt2
    subst e2
    show j_j _ _ _ _ _ _ _ [some (.ref x),some (.int top),some (.int k),some (.ref q),some (.int i),some (.int j)] H3 _
    refine rise rfl rfl rfl S3 tt3 md' fun q' ns' H4 ev4 tt4 eq4 rs4=>?_
    refine ⟨_,po'.2,q',_,_,ns',_,_,_,rfl,(ev2.trans ev3).trans (ev4.sub fun _ z=>nomatch z),tt4,S3.ev ev4,md',po'.1,fun z0=>?_,eq4,rs4,rfl⟩
    have:=rs4.1.mem_iff.mpr (e_x tj (show (L'.set i (a_N xi xj qq))[j]?=some xj by rw [List.getElem?_set_ne hij]; exact exj) nzj)
    rw [z0] at this
    cases this
  ·have hlen:ns.length<=1:=by
    have hz:¬ (1:Int) < ns.length:=fun w=>z (decide_eq_true w)
    omega
   obtain ⟨perm,pw⟩:=rs2
   subst e1
   refine st fun N1 e1=>?_
   walk_at "r"
   refine c_s (b:=false) (SqB.lst eq2) ?_
   walk_at "r"
   refine ite2 (fun z1=>?_) (fun z1=>?_)
   ·have h1:ns.length=1:=by have:=of_decide_eq_true z1; omega
    obtain ⟨a',rfl⟩:∃ a',ns=[a']:=by match ns,h1 with | [a'],_=>exact ⟨a',rfl⟩
    obtain ⟨p0,y,rfl,tb,ey,nz⟩:=f_M (perm.mem_iff.mp (show a'∈[a'] by simp))
    have bl:=(zqa ey).1
    have ln:=md2.ln.len
    have cn:=md2.ln.clen
    obtain ⟨y0,ey0⟩:∃ u,L'[top]?=some u:=⟨_,zqd (by omega)⟩
    obtain ⟨u,eu⟩:∃ u,C'[top]?=some u:=⟨_,zqd (by omega)⟩
    obtain ⟨v,ev'⟩:∃ u,C'[p0]?=some u:=⟨_,zqd (by omega)⟩
    obtain ⟨dx,ob⟩:=S2.ob
    obtain ⟨zs,z1a,z1b,hz1,hz2,hz3,hz4⟩:=h_g S2.li ey0 ey
    refine b_V rfl ob T.cl_m T.h_k (b_J l c) ?_
    refine ⟨false,q,_,_,_,rfl,rfl,SqB.lst eq2,b_H (show (([(p0:Int)]:List Int).map V.int)[0]?=some (.int p0) from rfl) rfl,?_⟩
    refine ⟨l,zs,top,p0,_,_,rfl,hz1,hz2,hz3,?_⟩
    have xl:x≠l:=fun z=>by rw [z,hz1] at ob; cases ob
    have ql:q≠l:=by
     obtain ⟨ps,p1,p2,p3⟩:=S2.li
     have ps0:ps≠[]:=fun z=>S2.l0 (List.eq_nil_of_length_eq_zero (by rw [← p2,z]; rfl))
     exact e_o p1 ps0 eq2
    have ob3:(upd H2 l (.lst ((zs.set top z1b).set p0 z1a))) x=some (.ins t.a_m dx (stF l c)):=by rw [a_E xl]; exact ob
    have eq3:(upd H2 l (.lst ((zs.set top z1b).set p0 z1a))) q=some (.lst (([(p0:Int)]:List Int).map V.int)):=by rw [a_E ql]; exact eq2
    have co3:MatL (upd H2 l (.lst ((zs.set top z1b).set p0 z1a))) c C':=by
     obtain ⟨ps,p1,p2,p3⟩:=S2.co
     obtain ⟨ps',p1',p2',p3'⟩:=S2.li
     have ps0:ps'≠[]:=fun z=>S2.l0 (List.eq_nil_of_length_eq_zero (by rw [← p2',z]; rfl))
     refine ⟨ps,by rw [a_E (Ne.symm S2.ne)]; exact p1,p2,fun i p r q1 q2=>?_⟩
     obtain ⟨m1,m2⟩:=p3 i p r q1 q2
     exact ⟨m1,by rw [a_E (e_o p1' ps0 m2)]; exact m2⟩
    have b3:Bt [l,c] H2 (upd H2 l (.lst ((zs.set top z1b).set p0 z1a))):=fun a o ha e=>by rw [a_E (fun z=>ha (by simp [z]))]; exact e
    generalize upd H2 l (.lst ((zs.set top z1b).set p0 z1a))=H3 at *
    refine b_V rfl ob3 T.cl_m T.h_8 (c_o l c) ?_
    refine ⟨false,q,_,_,_,rfl,rfl,SqB.lst eq3,b_H (show (([(p0:Int)]:List Int).map V.int)[0]?=some (.int p0) from rfl) rfl,?_⟩
    obtain ⟨ws,w1a,w1b,hw1,hw2,hw3,hw4⟩:=h_g co3 eu ev'
    refine ⟨c,ws,top,p0,_,_,rfl,hw1,hw2,hw3,?_⟩
    have xc:x≠c:=fun z=>by rw [z,hw1] at ob3; cases ob3
    have qc:q≠c:=by
     obtain ⟨ps,p1,p2,p3⟩:=co3
     have ps0:ps≠[]:=fun z=>S2.c0 (List.eq_nil_of_length_eq_zero (by rw [← p2,z]; rfl))
     exact e_o p1 ps0 eq3
    have li4:MatL (upd H3 c (.lst ((ws.set top w1b).set p0 w1a))) l ((L'.set top y).set p0 y0):=by
     obtain ⟨ps,p1,p2,p3⟩:=hz4
     obtain ⟨ps',p1',p2',p3'⟩:=co3
     have ps0:ps'≠[]:=fun z=>S2.c0 (List.eq_nil_of_length_eq_zero (by rw [← p2',z]; rfl))
     refine ⟨ps,by rw [a_E S2.ne]; exact p1,p2,fun i p r q1 q2=>?_⟩
     obtain ⟨m1,m2⟩:=p3 i p r q1 q2
     exact ⟨m1,by rw [a_E (e_o p1' ps0 m2)]; exact m2⟩
    have b4:Bt [l,c] H2 (upd H3 c (.lst ((ws.set top w1b).set p0 w1a))):=fun a o ha e=>by rw [a_E (fun z=>ha (by simp [z]))]; exact b3 a o ha e
    have S4:b_I t (upd H3 c (.lst ((ws.set top w1b).set p0 w1a))) x l c ((L'.set top y).set p0 y0) ((C'.set top v).set p0 u):=by
     refine ⟨⟨dx,by rw [a_E xc]; exact ob3⟩,li4,hw4,S2.ne,fun z=>?_,fun z=>?_⟩
     ·have:=congrArg List.length z
      rw [List.length_set,List.length_set] at this
      exact S2.l0 (List.eq_nil_of_length_eq_zero this)
     ·have:=congrArg List.length z
      rw [List.length_set,List.length_set] at this
      exact S2.c0 (List.eq_nil_of_length_eq_zero this)
    have eq4:(upd H3 c (.lst ((ws.set top w1b).set p0 w1a))) q=some (.lst (([(p0:Int)]:List Int).map V.int)):=by rw [a_E qc]; exact eq3
    generalize upd H3 c (.lst ((ws.set top w1b).set p0 w1a))=H4 at *
    have ev4:=S2.bt (K:=K) b4
    subst e1
    show tRet _ _ [some (.ref x),some (.int top),some (.int k),some (.ref q),v4,v5] H4
    walk_at "r"
    refine c_s (b:=false) (SqB.lst eq4) ?_
    walk_at "r"
    refine hQ true F _ _ H4 (ev2.trans ev4) (ev4.2 tt2) S4 (md2.swap tb ey0 ey eu ev') po.end (.inl ⟨rfl,⟨y,?_,nz⟩,fun i r hi er=>?_⟩) (fun z=>by cases z)
    ·rw [c_U ey0 ey]
     by_cases e:top=p0
     ·rw [if_pos e,← ey,← e,ey0]
     ·rw [if_neg e,if_pos rfl]
    ·have only:∀ (m:Nat) r',top<=m->L'[m]?=some r'->r'.getD k 0≠0->m=p0:=fun m r' hm em hn=>by
      have:=perm.mem_iff.mpr (e_x hm em hn)
      have:=List.mem_singleton.mp this
      omega
     rw [c_U ey0 ey] at er
     by_cases e:i=p0
     ·rw [if_pos e] at er
      cases er
      rcases Decidable.em (y0.getD k 0=0) with w | w
      ·exact w
      ·have:=only top y0 (Nat.le_refl _) ey0 w
       omega
     ·rw [if_neg e,if_neg (by omega)] at er
      rcases Decidable.em (r.getD k 0=0) with w | w
      ·exact w
      ·exact absurd (only i r (by omega) er w) e
   ·have h0:ns=[]:=List.eq_nil_of_length_eq_zero (by
     have hz:¬ (ns.length:Int)=1:=fun w=>z1 (decide_eq_true w)
     omega)
    subst h0
    show N1 [some (.ref x),some (.int top),some (.int k),some (.ref q),v4,v5] H2
    subst e1
    walk_at "r"
    refine c_s (b:=false) (SqB.lst eq2) ?_
    walk_at "r"
    refine hQ false F L' C' H2 ev2 tt2 S2 md2 po.end (.inr ⟨rfl,fun i r hi er=>?_⟩) (fun _=>sm rfl)
    rcases Decidable.em (r.getD k 0=0) with w | w
    ·exact w
    ·have:=perm.mem_iff.mpr (e_x hi er w)
     cases this
noncomputable def SL (t:Adr) (H:Hp) (x l c:Addr) (d n k:Nat) (cs:LM) (ks:List Nat) (b u e:Nat) (i:Nat) (σ:St) (H2:Hp):Prop :=
 ∃ (v3:Option V) (L' C':LM),σ=[some (.ref x),some (.int ks.length),some (.int k),v3]/\Bt [l,c] H H2/\b_I t H2 x l c L' C'/\Sl d n k cs ks b u e i L' C'/\∀ r,L'[ks.length]?=some r->0 < r.getD k 0
theorem ok_2 (T:Txt K mg t) (Gs:Gd P mg base):FnOk P w K mg base CX0 33 t.a_2 t.d_2 ["self","top","k"] (sp_2 t):=by
 have G_g:=@ok_g P w K mg base t T
 have G_c:=@ok_c P w K mg base t T
 refine T.F_2.ok sc_2 (by walk_at "v") (fun cdv A outer s H vs Q E hr h=>?_)
 ·obtain ⟨x,l,c,L,C,ks,k,d,n,cs,b,u,e,rfl,S,sl,n3,kd,d3,hb,hu,he,hQ⟩:=h
  have eS:bS=33554432:=rfl
  refine ⟨_,(a_C (b_W (a_X h_V (px (px (b_U (pv 0) rfl) (pv 1)) (pv 2)) a_D (a_V _))
   (a_C (b_L (a_K G_c hr.mo rfl T.m_c T.F_c.kp T.b_c .nil a_W (a_A (b_U (pv 0) rfl) (a_A (pv 1) a_B))))
   (a_I (b_L (a_K G_c hr.mo rfl T.m_c T.F_c.kp T.b_c .nil a_W (a_A (b_U (pv 0) rfl) (a_A (pv 1) a_B))))))
   b_y)
   (a_I (c_Z PassesOwn.never rfl (c_f rfl T.z_range (a_A (pv 1) a_B)) (b_N (i:=3) sc_2.nd rfl (Or.inl rfl))
   (a_I (b_L (e_p (C:=t.a_m) (pv 0) T.cl_m T.me_g G_g hr.mo T.b_g .nil a_W (a_A (pv 3) (a_A (pv 1) (a_A (a_O (e_J Gs (e_g hr (by decide))) (px (px (b_U (pv 0) rfl) (pv 3)) (pv 2)) (px (px (b_U (pv 0) rfl) (pv 1)) (pv 2))) a_B))))))))),?_⟩
  show tSeq _ _ _ [some (.ref x),some (.int ks.length),some (.int k),none] H
  have lenL:=sl.ln.len
  have lenC:=sl.ln.clen
  have tn:=sl.tn
  obtain ⟨r,er⟩:∃ r,L[ks.length]?=some r:=⟨_,zqd (by omega)⟩
  obtain ⟨s0,es⟩:∃ r,C[ks.length]?=some r:=⟨_,zqd (by omega)⟩
  have wr:=sl.ln.wid r (zqb er)
  have wu:=sl.ln.cwid s0 (zqb es)
  obtain ⟨dx,ob⟩:=S.ob
  refine st fun N1 e1=>?_
  have key:∀ L1 C1 H1,Bt [l,c] H H1->b_I t H1 x l c L1 C1->Sl d n k cs ks b u e 0 L1 C1->(∀ r,L1[ks.length]?=some r->0 < r.getD k 0)->N1 [some (.ref x),some (.int ks.length),some (.int k),none] H1:=by
   intro L1 C1 H1 b1 S1 ec1 po1
   subst e1
   refine d_z fun B' eB=>?_
   simp only [d_W]
   walk_at "r"
   refine ⟨by omega,by omega,?_⟩
   rw [Int.toNat_natCast]
   refine e_f (g:=a_R 3) (tb:=B') (SL t H x l c d n k cs ks b u e) ⟨_,L1,C1,rfl,b1,S1,ec1,po1⟩ ?_ ?_
   ·rintro i σ H2 hi ⟨v3,L',C',rfl,b2,S2,ec2,po2⟩
    have l2:=ec2.ln.len
    have c2:=ec2.ln.clen
    obtain ⟨xi,exi⟩:∃ r,L'[i]?=some r:=⟨_,zqd (by omega)⟩
    obtain ⟨xj,exj⟩:∃ r,L'[ks.length]?=some r:=⟨_,zqd (by omega)⟩
    obtain ⟨ci,eci⟩:∃ r,C'[i]?=some r:=⟨_,zqd (by omega)⟩
    obtain ⟨cj,ecj⟩:∃ r,C'[ks.length]?=some r:=⟨_,zqd (by omega)⟩
    have wi:=ec2.ln.wid xi (zqb exi)
    have wj:=ec2.ln.wid xj (zqb exj)
    have wci:=ec2.ln.cwid ci (zqb eci)
    have wcj:=ec2.ln.cwid cj (zqb ecj)
    have ld:=po2 xj exj
    have nx:=ec2.take hi kd exi exj eci ecj ld
    obtain ⟨dx2,ob2⟩:=S2.ob
    have hM2:MatB false false K H2 l L':=S2.li.b
    subst eB
    show h_R _ _ [some (.ref x),some (.int ks.length),some (.int k),some (.int (0+(i:Int)))] H2
    simp only [h_R]
    refine e_U rfl ob2 (g_C l c (by decide) (by decide)) ?_
    walk_at "r"
    refine b_V rfl ob2 T.cl_m T.h_k (b_J l c) ?_
    refine e_C hM2 exi (b_R (by omega)) (by omega) rfl ?_
    refine b_V rfl ob2 T.cl_m T.h_k (b_J l c) ?_
    refine e_C hM2 exj (b_R (by omega)) rfl rfl ?_
    walk_at "r"
    refine ⟨by omega,?_⟩
    have hqb:((xi.getD k 0).fdiv (xj.getD k 0)).natAbs<=2 ^ u:=Nat.le_trans (e_j _ _ ld) (d_O (ec2.bu i xi (Nat.le_refl _) hi exi))
    generalize (xi.getD k 0).fdiv (xj.getD k 0)=qq at *
    refine ⟨x,l,c,L',C',i,ks.length,qq,xi,xj,ci,cj,by simp,S2,exi,exj,eci,ecj,by omega,by omega,by omega,by omega,fun z hz=>?_,fun z hz=>?_,fun H3 b3 S3=>?_⟩
    ·exact mulOk_of_bits (b_m hqb) (b_m (ec2.bs _ xj (Nat.le_refl _) exj z hz)) (by omega)
    ·exact mulOk_of_bits (b_m (by rw [Int.natAbs_neg]; exact hqb)) (b_m (ec2.bc i ci (by omega) eci z hz)) (by omega)
    ·refine ⟨_,_,_,rfl,fun a o ha e=>b3 a o ha (b2 a o ha e),S3,nx,fun r' er'=>?_⟩
     rw [List.getElem?_set_ne (by omega)] at er'
     exact po2 r' er'
   ·rintro σ H2 ⟨v3,L',C',rfl,b2,S2,ec2,po2⟩
    exact hQ L' C' H2 b2 S2 (ec2.end n3 po2)
  walk_at "r"
  refine b_V rfl ob T.cl_m T.h_k (b_J l c) ?_
  refine e_C (S.li.b (K:=K)) er (b_R (by omega)) rfl rfl ?_
  walk_at "r"
  refine ite2 (fun z=>?_) (fun z=>?_)
  ·have hz:r.getD k 0 < 0:=of_decide_eq_true z
   refine b_V rfl ob T.cl_m T.h_k (b_J l c) ?_
   refine ⟨l,L,ks.length,r,rfl,S.li,er,by omega,fun H1 b1 li1=>?_⟩
   have ne1:∀ {a:Addr} {o:HO},H a=some o->a≠l->H1 a=some o:=fun e n=>b1 _ _ (by simpa using n) e
   obtain ⟨ps,p1,p2,p3⟩:=id S.li
   have ps0:ps≠[]:=fun z=>S.l0 (List.eq_nil_of_length_eq_zero (by rw [← p2,z]; rfl))
   have ob1:=ne1 ob (fun z=>by rw [z,p1] at ob; cases ob)
   have co1:MatL H1 c C:=by
    obtain ⟨qs,q1,q2,q3⟩:=S.co
    refine ⟨qs,ne1 q1 (Ne.symm S.ne),q2,fun m p r' z1 z2=>?_⟩
    obtain ⟨m1,m2⟩:=q3 m p r' z1 z2
    exact ⟨m1,ne1 m2 (e_o p1 ps0 m2)⟩
   refine b_V rfl ob1 T.cl_m T.h_8 (c_o l c) ?_
   refine ⟨c,C,ks.length,s0,rfl,co1,es,by omega,fun H2 b2 co2=>?_⟩
   have ne2:∀ {a:Addr} {o:HO},H1 a=some o->a≠c->H2 a=some o:=fun e n=>b2 _ _ (by simpa using n) e
   obtain ⟨qs,q1,q2,q3⟩:=id co1
   have qs0:qs≠[]:=fun z=>S.c0 (List.eq_nil_of_length_eq_zero (by rw [← q2,z]; rfl))
   refine key (L.set ks.length (r.map fun z=>-z)) (C.set ks.length (s0.map fun z=>-z)) H2 (fun a o ha e=>?_) ⟨⟨dx,ne2 ob1 (fun z=>by rw [z,q1] at ob1; cases ob1)⟩,?_,co2,S.ne,fun z=>?_,fun z=>?_⟩ (sl.neg er es) (fun r' er'=>?_)
   ·have ha':a≠l/\a≠c:=by simpa using ha
    exact ne2 (ne1 e ha'.1) ha'.2
   ·obtain ⟨rs,r1,r2,r3⟩:=li1
    refine ⟨rs,ne2 r1 S.ne,r2,fun m p r' z1 z2=>?_⟩
    obtain ⟨m1,m2⟩:=r3 m p r' z1 z2
    exact ⟨m1,ne2 m2 (e_o q1 qs0 m2)⟩
   ·have:=congrArg List.length z
    rw [List.length_set] at this
    exact S.l0 (List.eq_nil_of_length_eq_zero this)
   ·have:=congrArg List.length z
    rw [List.length_set] at this
    exact S.c0 (List.eq_nil_of_length_eq_zero this)
   ·rw [List.getElem?_set_self (by omega)] at er'
    cases er'
    rw [i_Y]
    omega
  ·have hz:¬ r.getD k 0 < 0:=fun w=>z (decide_eq_true w)
   refine key L C H (fun a o _ e=>e) S sl fun r' er'=>?_
   rw [er] at er'
   cases er'
   have:=sl.topl r er
   omega
theorem i_q:∀ {ks:List Nat} {j:Nat},ks.Pairwise (· < ·)->(∀ i∈ks,j<=i)->∀ m,m < ks.length->∃ i,ks[m]?=some i/\j+m<=i
 | [],_,_,_,m,h=>by simp at h
 | a :: ks,j,hp,hj,0,_=>⟨a,rfl,hj a (List.mem_cons_self ..)⟩
 | a :: ks,j,hp,hj,m+1,h=>by
  obtain ⟨p1,p2⟩:=List.pairwise_cons.mp hp
  have ja:=hj a (List.mem_cons_self ..)
  obtain ⟨i,e,hi⟩:=i_q (j:=j+1) p2 (fun i hi=>by have:=p1 i hi; omega) m (by simpa using h)
  exact ⟨i,e,by omega⟩
theorem g_c {ks:List Nat} {k:Nat} (h1:ks.Pairwise (· < ·)) (h2:∀ j∈ks,j < k):ks.length<=k:=by
 rcases Nat.eq_zero_or_pos ks.length with z | z
 ·omega
 ·obtain ⟨i,e,hi⟩:=i_q (j:=0) h1 (fun _ _=>Nat.zero_le _) (ks.length - 1) (by omega)
  have:=h2 i (zqb e)
  omega
theorem Ec.le {d n k:Nat} {cs:LM} {ks:List Nat} {b u c:Nat} {L C:LM} (h:Ec d n k cs ks b u c L C):ks.length<=k:=g_c h.ksS h.ksK
noncomputable def SR (K:Frag) (t:Adr) (H:Hp) (a x l c:Addr) (A:LM) (d n B:Nat) (k:Nat) (σ:St) (H2:Hp):Prop :=
 ∃ (vk:Option V) (ks:List Nat) (L C:LM),σ=[some (.ref a),some (.int d),some (.ref x),some (.int ks.length),vk,none,none]/\Ev K t [] H H2/\TT K t H2/\b_I t H2 x l c L C/\Ec d n k (c_e d A) ks (bR n B ks.length) (uR n B ks.length) (cR n B ks.length) L C
theorem ok_f (T:Txt K mg t) (Gs:Gd P mg base):FnOk P w K mg base CX0 35 t.a_f t.d_f ["rows"] (sp_f K t):=by
 have G_5:=@ok_5 P w K mg base t T
 have G_4:FnOk P w K mg base CX0 34 t.a_4 t.d_4 ["self","top","k"] (sp_4 K t):=ok_4 T Gs
 have G_2:FnOk P w K mg base CX0 33 t.a_2 t.d_2 ["self","top","k"] (sp_2 t):=ok_2 T Gs
 have G_t:=@ok_t P w K mg base t T
 refine T.F_f.ok sc_f (by walk_at "v") (fun cdv A outer s H vs Q E hr h=>?_)
 ·obtain ⟨b1,b2,a,MA,d,n,B,rfl,hM,sA,wA,n1,n63,d63,bA,hfit,tt,hQ⟩:=h
  have eS:bS=33554432:=rfl
  have eU:uS=1048576:=rfl
  refine ⟨_,(a_C (a_L (i:=1) sc_f.nd rfl (Or.inr rfl) (a_J a_U rfl T.z_len (by decide +kernel) (a_A (px (pv 0) a_D) a_B)))
   (a_C (a_L (i:=2) sc_f.nd rfl (Or.inl rfl) (m_E (C:=t.a_m) (T.mk_m) G_5 hr.mo rfl T.m_m T.b_5 .nil a_W (a_A (pv 0) a_B)))
   (a_C (a_L (i:=3) sc_f.nd rfl (Or.inl rfl) a_D)
   (a_C (c_Z PassesOwn.never rfl (c_f rfl T.z_range (a_A (pv 1) a_B)) (b_N (i:=4) sc_f.nd rfl (Or.inl rfl))
   (a_I (b_W (c_C (e_p (C:=t.a_m) (pv 2) T.cl_m T.me_4 G_4 hr.mo T.b_4 .nil a_W (a_A (pv 3) (a_A (pv 4) a_B))))
   (a_C (b_L (e_p (C:=t.a_m) (pv 2) T.cl_m T.me_2 G_2 hr.mo T.b_2 .nil a_W (a_A (pv 3) (a_A (pv 4) a_B))))
   (a_I (o_h (i:=3) sc_f.nd rfl (Or.inl rfl) a_D o_i)))
   b_y)))
   (a_C (c_q (i:=5) (xs:=["line"]) (fr:=[("width",1)]) (g:=(a_R 0)) (tt:=(tEl (tSl (rSlB K) (tVar 0) f_X (j_m (tVar 1))))) (a_T (sc:=a_G s_f) (N:=N_f) rfl rfl (by decide +kernel)) rfl sc_f.nd rfl rfl (c_r (b_U (pv 2) rfl)) (fun _ _ _ hE1=>(b_z (N:=["line","width"]) (i:=0) hE1 rfl (by decide +kernel))) (fun _ _ _ hE1=>(c_g (g_k sl_B (pv 0) j_n (f_Y (pv 1))))))
   (a_C (c_q (i:=6) (xs:=["line"]) (fr:=[("width",1)]) (g:=(a_R 0)) (tt:=(tEl (tSl (rSlB K) (tVar 0) (j_m (tVar 1)) f_X))) (a_T (sc:=a_G s_f) (N:=N_f) rfl rfl (by decide +kernel)) rfl sc_f.nd rfl rfl (c_r (b_U (pv 2) rfl)) (fun _ _ _ hE1=>(b_z (N:=["line","width"]) (i:=0) hE1 rfl (by decide +kernel))) (fun _ _ _ hE1=>(c_g (g_k sl_B (pv 0) (f_Y (pv 1)) j_n))))
   (a_I (a_S (d_J (a_A (pv 5) (a_A (pv 6) (a_A (a_K G_t hr.mo rfl T.m_t T.F_t.kp T.b_t .nil a_W (a_A (b_U (pv 2) rfl) a_B)) a_B)))))))))))),?_⟩
  show tSeq _ _ _ [some (.ref a),none,none,none,none,none,none] H
  obtain ⟨r0,e0⟩:∃ r0,MA[0]?=some r0:=⟨_,zqd (by omega)⟩
  refine st fun N1 e1=>?_
  walk_at "r"
  refine d_M hM e0 rfl fun p hp=>?_
  refine c_s hp ?_
  rw [wA r0 (zqb e0)]
  show N1 [some (.ref a),some (.int d),none,none,none,none,none] H
  subst e1
  refine st fun N1 e1=>?_
  show k_D _ _ _ _ _ [some (.ref a),some (.int d),none,none,none,none,none] H _
  simp only [k_D]
  walk_at "r"
  intro x dx hx hdx hne
  have s1:Same H (upd (upd H dx (.own x)) x (.ins t.a_m dx [])):=fun b o e=>by rw [a_E (a_H e hx),a_E (a_H e hdx)]; exact e
  refine ⟨x,dx,a,b1,b2,MA,d,rfl,a_F,hM.up s1,by omega,by omega,wA,by omega,fun l c H2 b2' S2 hl hc=>⟨rfl,?_⟩⟩
  rw [sA] at S2
  have ev2:Ev K t [] H H2:=Ev.new (a_P s1) (Bt.ev b2' (fun y hy=>by rw [List.mem_singleton.mp hy]; exact .inr (.inr ⟨_,_,_,a_F⟩))) (fun y hy=>by rw [List.mem_singleton.mp hy]; exact hx)
  have none_of:∀ {y:Addr},(upd (upd H dx (.own x)) x (.ins t.a_m dx [])) y=none->H y=none:=fun {y} e=>by
   cases w:H y with
   | none=>rfl
   | some o=>rw [s1 _ _ w] at e; cases e
  have hl0:=none_of hl
  have hc0:=none_of hc
  have tt2:=ev2.2 tt
  show N1 [some (.ref a),some (.int d),some (.ref x),none,none,none,none] H2
  subst e1
  refine st fun N1 e1=>?_
  walk_at "r"
  subst e1
  refine st fun N1 e1=>d_z fun B' eB=>?_
  simp only [d_W]
  walk_at "r"
  refine ⟨by omega,by omega,?_⟩
  rw [Int.toNat_natCast]
  refine e_f (g:=a_R 4) (tb:=B') (SR K t H a x l c MA d n B) ⟨_,[],_,_,rfl,ev2,tt2,S2,l_H sA wA bA⟩ ?_ ?_
  ·rintro k σ H3 hk ⟨vk,ks,L,C,rfl,ev3,tt3,S3,ec⟩
   have kl:ks.length<=k:=ec.le
   obtain ⟨fu,fc⟩:=hfit ks.length ec.kn (by omega)
   have fb:=l_F n B ks.length
   have fb4:4*bR n B ks.length+2<=bS\/n<=ks.length:=by
    rcases Nat.lt_or_ge ks.length n with q | q
    ·have h1:=(hfit (ks.length+1) q (by omega)).1
     have h2:=l_F n B (ks.length+1)
     have h3:bR n B (ks.length+1)=4*bR n B ks.length+2:=rfl
     exact .inl (by omega)
    ·exact .inr q
   have fg:(n - ks.length)*(bR n B ks.length+1)<=bS:=by
    rcases Nat.lt_or_ge ks.length n with q | q
    ·have h1:=(hfit (ks.length+1) q (by omega)).2
     have h2:cR n B (ks.length+1)=cR n B ks.length+(n - ks.length)*(bR n B ks.length+1)+uR n B ks.length+6:=rfl
     omega
    ·rw [show n - ks.length=0 by omega,Nat.zero_mul]
     exact Nat.zero_le _
   obtain ⟨dx3,ob3⟩:=S3.ob
   subst eB
   show tIfS _ _ _ _ [some (.ref a),some (.int d),some (.ref x),some (.int ks.length),some (.int (0+(k:Int))),none,none] H3
   simp only [tIfS,tB]
   refine e_U rfl ob3 (g_C l c (by decide) (by decide)) ?_
   walk_at "r"
   refine ⟨x,l,c,L,C,ks.length,k,d,n,c_e d MA,bR n B ks.length,cR n B ks.length,by simp,S3,tt3,ec.gm,ec.bs,n63,hk,d63,ec.kn,fg,fb4,fc,fun b F L' C' H4 ev4 tt4 S4 md hF gat sm=>?_⟩
   have ev34:Ev K t [] H H4:=Ev.new ev3 ev4 (fun y hy=>by
    rcases List.mem_cons.mp hy with e | e
    ·rw [e]; exact hl0
    ·rw [List.mem_singleton.mp e]; exact hc0)
   rcases gat with ⟨rfl,⟨r,er,nz⟩,g⟩ | ⟨rfl,g⟩
   ·refine ⟨_,rfl,iteT ?_⟩
    obtain ⟨dx4,ob4⟩:=S4.ob
    have ln:=md.ln.len
    have cn:=md.ln.clen
    have tl:=(zqa er).1
    refine e_U rfl ob4 (g_C l c (by decide) (by decide)) ?_
    walk_at "r"
    have sl:=ec.yes md hF er nz g
    have tn:=sl.tn
    have f1:=hfit (ks.length+1) (by omega) (by omega)
    have f2:=l_F n B (ks.length+1)
    have h2:cR n B (ks.length+1)=cR n B ks.length+(n - ks.length)*(bR n B ks.length+1)+uR n B ks.length+6:=rfl
    have h3:bR n B (ks.length+1)=4*bR n B ks.length+2:=rfl
    refine ⟨x,l,c,L',C',ks,k,d,n,c_e d MA,_,_,_,by simp,S4,sl,n63,hk,d63,by omega,by omega,by omega,fun L5 C5 H5 b5 S5 ec5=>?_⟩
    have ev5:Ev K t [] H H5:=Ev.new ev34 (S4.bt b5) (fun y hy=>by
     rcases List.mem_cons.mp hy with e | e
     ·rw [e]; exact hl0
     ·rw [List.mem_singleton.mp e]; exact hc0)
    simp only [tAug,ipI]
    walk_at "r"
    refine ⟨some (.int (0+(k:Int))),ks++[k],L5,C5,?_⟩
    have el:(ks++[k]).length=ks.length+1:=by simp
    rw [el]
    exact ⟨by simp,ev5,(S4.bt (K:=K) b5).2 tt4,S5,ec5⟩
   ·refine ⟨_,rfl,iteF ?_⟩
    obtain ⟨rfl,rfl⟩:=sm rfl
    exact ⟨_,ks,_,_,rfl,ev34,tt4,S4,ec.no g⟩
  ·rintro σ H3 ⟨vk,ks,L,C,rfl,ev3,tt3,S3,ec⟩
   have kl:ks.length<=d:=ec.le
   obtain ⟨fu,fc⟩:=hfit ks.length ec.kn kl
   have sta:=o_D ec fu fc
   obtain ⟨dx3,ob3⟩:=S3.ob
   have cwl:=ec.ln.cwid
   have lw:=ec.ln.wid
   obtain ⟨ps,p1,p2,p3⟩:=id S3.li
   have ln:=ec.ln.len
   subst e1
   refine st fun N1 e1=>?_
   show c_F _ _ _ [some (.ref a),some (.int d),some (.ref x),some (.int ks.length),vk,none,none] H3
   simp only [c_F]
   refine a_Y fun B' eB=>?_
   simp only [iSeq]
   refine b_V rfl ob3 T.cl_m T.h_k (b_J l c) ?_
   refine ⟨false,l,rfl,⟨_,SqB.lst p1⟩,fun a1 ha1=>?_⟩
   refine c_M (RowN H3 a1 fun i=>(L.getD i []).take d) ha1 (SqB.lst p1) (by rw [zqe,p2,ln]; omega) (RowN.mono (a:=a1)) ?_ ?_
   ·intro i v H4 zs ev s4 ez Q' hQ'
    have hin:i < ps.length:=by have:=(zqa ev).1; simpa using this
    obtain ⟨p',hp'⟩:∃ p',ps[i]?=some p':=⟨_,zqd hin⟩
    obtain ⟨r',er'⟩:∃ r',L[i]?=some r':=⟨_,zqd (by omega)⟩
    rw [List.getElem?_map,hp'] at ev
    cases ev
    have hr4:=s4 _ _ (p3 i p' r' hp' er').2
    have wr:=lw r' (zqb er')
    subst eB
    show tSl _ _ _ _ [some (.ref p'),some (.int d)] H4 Q'
    walk_at "r"
    refine ⟨false,p',_,rfl,SqB.lst hr4,(by intro e; cases e),fun c1 hc1=>?_⟩
    rw [o_v (by omega)]
    have ne1:c1≠a1:=fun z=>by rw [z,ez] at hc1; cases hc1
    refine hQ' _ _ (Same.new hc1) ⟨c1,rfl,ne1,c_J s4 hc1,?_⟩
    show (upd H4 c1 (.lst ((r'.take d).map V.int))) c1=some (.lst (((L.getD i []).take d).map V.int))
    rw [a_F,zqc,er']
    rfl
   ·intro H4 zs s4 ez hlz hr4
    have hF:NewL H3 H4 a1 (L.map fun r=>r.take d):=by
     have:=NewL.of ez ha1 hr4
     rw [hlz,zqe,p2] at this
     have e:(List.range L.length).map (fun i=>(L.getD i []).take d)=L.map fun r=>r.take d:=by
      refine List.ext_getElem (by simp) fun i h1 h2=>?_
      have hi:i < L.length:=by simpa using h1
      rw [List.getElem_map,List.getElem_range,List.getElem_map,zqc,zqd hi]
      rfl
     rw [e] at this
     exact this
    show N1 [some (.ref a),some (.int d),some (.ref x),some (.int ks.length),vk,some (.ref a1),none] H4
    have ob4:=s4 _ _ ob3
    have p14:=s4 _ _ p1
    subst e1
    refine st fun N1 e1=>?_
    show c_F _ _ _ [some (.ref a),some (.int d),some (.ref x),some (.int ks.length),vk,some (.ref a1),none] H4
    simp only [c_F]
    refine a_Y fun B' eB=>?_
    simp only [iSeq]
    refine b_V rfl ob4 T.cl_m T.h_k (b_J l c) ?_
    refine ⟨false,l,rfl,⟨_,SqB.lst p14⟩,fun a2 ha2=>?_⟩
    refine c_M (RowN H4 a2 fun i=>(L.getD i []).drop d) ha2 (SqB.lst p14) (by rw [zqe,p2,ln]; omega) (RowN.mono (a:=a2)) ?_ ?_
    ·intro i v H5 zs5 ev s5 ez5 Q' hQ'
     have hin:i < ps.length:=by have:=(zqa ev).1; simpa using this
     obtain ⟨p',hp'⟩:∃ p',ps[i]?=some p':=⟨_,zqd hin⟩
     obtain ⟨r',er'⟩:∃ r',L[i]?=some r':=⟨_,zqd (by omega)⟩
     rw [List.getElem?_map,hp'] at ev
     cases ev
     have hr5:=s5 _ _ (s4 _ _ (p3 i p' r' hp' er').2)
     have wr:=lw r' (zqb er')
     subst eB
     show tSl _ _ _ _ [some (.ref p'),some (.int d)] H5 Q'
     walk_at "r"
     refine ⟨false,p',_,rfl,SqB.lst hr5,(by intro e; cases e),fun c1 hc1=>?_⟩
     rw [l_g (by omega)]
     have ne1:c1≠a2:=fun z=>by rw [z,ez5] at hc1; cases hc1
     refine hQ' _ _ (Same.new hc1) ⟨c1,rfl,ne1,c_J s5 hc1,?_⟩
     show (upd H5 c1 (.lst ((r'.drop d).map V.int))) c1=some (.lst (((L.getD i []).drop d).map V.int))
     rw [a_F,zqc,er']
     rfl
    ·intro H5 zs5 s5 ez5 hlz5 hr5
     have hR:NewL H4 H5 a2 (L.map fun r=>r.drop d):=by
      have:=NewL.of ez5 ha2 hr5
      rw [hlz5,zqe,p2] at this
      have e:(List.range L.length).map (fun i=>(L.getD i []).drop d)=L.map fun r=>r.drop d:=by
       refine List.ext_getElem (by simp) fun i h1 h2=>?_
       have hi:i < L.length:=by simpa using h1
       rw [List.getElem_map,List.getElem_range,List.getElem_map,zqc,zqd hi]
       rfl
      rw [e] at this
      exact this
     show N1 [some (.ref a),some (.int d),some (.ref x),some (.int ks.length),vk,some (.ref a1),some (.ref a2)] H5
     have ob5:=s5 _ _ ob4
     have co5:=(S3.co.up s4).up s5
     subst e1
     show tRet _ _ [some (.ref a),some (.int d),some (.ref x),some (.int ks.length),vk,some (.ref a1),some (.ref a2)] H5
     walk_at "r"
     refine b_V rfl ob5 T.cl_m T.h_8 (c_o l c) ?_
     refine ⟨false,false,c,C,n,rfl,co5.b,S3.c0,cwl,by omega,by rw [ec.ln.clen]; omega,fun r H6 s6 hT=>?_⟩
     refine ⟨by show 3<=sizeLine; decide,fun q hq=>?_⟩
     have s7:Same H3 (upd H6 q (.tup [.ref a1,.ref a2,.ref r])):=(s4.trans (s5.trans s6)).trans (Same.new hq)
     refine hQ q a1 a2 r _ _ _ ks _ (ev3.trans (a_P s7)) ((a_P (S:=[]) s7).2 tt3) a_F (n_H hF hR s5 hT s6 (Same.new hq)) sta (l_N hF s4 hR s5 hT s6 (Same.new hq) fun x o ho hx=>ev3.1 x o (fun w=>nomatch w) ho hx)
theorem ok_w (T:Txt K mg t):FnOk P w K mg base CX0 1 t.a_w t.d_w ["one","other"] (sp_w K):=by
 refine T.F_w.ok sc_w (by walk_at "v") (fun cdv A outer s H vs Q E hr h=>?_)
 ·obtain ⟨b1,b2,p,q,ms,ns,rfl,h1,h2,hl,hz,hm,hQ⟩:=h
  refine ⟨_,(a_I (a_S (a_J (i_b rfl) rfl T.z_sum (by decide +kernel) (a_A (b_G (xs:=["left","right"]) (fr:=[]) (g:=(gTup K 2 (c_i (a_R 0) (c_i (a_R 1) gNil)))) (tt:=(tEl (tOp (rI (fun i j=>IntMulOk i j) fun i j=>.int (i*j)) (tVar 0) (tVar 1)))) (a_T (sc:=a_G s_w) (N:=N_w) rfl rfl (by decide +kernel)) rfl (f_B rfl T.z_zip (a_A (pv 0) (a_A (pv 1) a_B))) (fun _ _ _ hE1=>(d_T rfl (b_F (b_z (N:=["left","right"]) (i:=0) hE1 rfl (by decide +kernel)) (b_F (b_z (N:=["left","right"]) (i:=1) hE1 rfl (by decide +kernel)) c_S)))) (fun _ _ _ hE1=>(c_g (a_O b_P (pv 0) (pv 1))))) a_B)))),?_⟩
  show tRet _ _ [some (.ref p),some (.ref q)] H
  walk_at "r"
  refine a_Y fun B eB=>?_
  simp only [iZip]
  walk_at "r"
  refine ⟨b1,⟨_,h1⟩,b2,⟨_,h2⟩,fun a ha=>?_⟩
  refine g_s (fun j y _=>∃ m n,ms[j]?=some m/\ns[j]?=some n/\y=.int (m*n)) ha h1 h2 (by simpa using hl) (by simpa using hz) (fun _ _ _ _ r _=>r) ?_ ?_
  ·intro i x y H1 zs ex ey s1 ez Q' hQ'
   obtain ⟨m,em,rfl⟩:=b_Z ex
   obtain ⟨n,en,rfl⟩:=b_Z ey
   subst eB
   show tOp _ _ _ [some (.int m),some (.int n)] H1 Q'
   walk_at "r"
   exact ⟨hm i m n em en,hQ' _ _ (Same.refl _) ⟨m,n,em,en,rfl⟩⟩
  ·intro H1 zs s1 ez hlz hr'
   have ey:zs=(List.zipWith (·*·) ms ns).map V.int:=by
    refine c_k (by simp at hlz ⊢; omega) fun j y e=>?_
    obtain ⟨m,n,em,en,rfl⟩:=hr' j y e
    exact ⟨m*n,by rw [List.getElem?_zipWith,em,en],rfl⟩
   subst ey
   exact ⟨_,rfl,_,SqL.of ez,hQ H1 s1⟩
theorem ok_q (T:Txt K mg t) (Gs:Gd P mg base):FnOk P w K mg base (CX1 P w) 34 t.a_q t.d_q ["tops","under"] (sp_q K t.a_8):=by
 have G_r:=@ok_r P w K mg base t T
 refine T.F_q.okX sc_q (fun vs H Q E h=>?_) (fun cdv A outer s H vs Q E hr h=>?_)
 ·obtain ⟨b,a,ns,u,rfl,_⟩:=h
  rfl
 ·obtain ⟨b,a,ns,u,rfl,hS,hl,hE,hQ⟩:=h
  refine ⟨_,(a_C (b_W (a_X c_D (pv 1) a_D (a_V _))
   (a_I (h_Y rfl g_n rfl T.m_8 T.x_8 PySem.F.excBase_ValueError (a_A c_Y a_B)))
   b_y)
   (a_C (b_W (a_X c_D (a_J a_U rfl T.z_len (by decide +kernel) (a_A (pv 0) a_B)) a_D (a_V _))
   (a_I (h_Y rfl g_n rfl T.m_8 T.x_8 PySem.F.excBase_ValueError (a_A c_Y a_B)))
   b_y)
   (a_C (a_L (i:=2) sc_q.nd rfl (Or.inr rfl) (a_J e_D rfl T.z_abs (by decide +kernel) (a_A (pv 1) a_B)))
   (a_C (PS.nox (c_Z PassesOwn.never rfl (c_r (pv 0)) (b_N (i:=3) sc_q.nd rfl (Or.inl rfl))
   (a_I (a_L (i:=2) sc_q.nd rfl (Or.inr rfl) (a_K G_r hr.mo rfl T.m_r T.F_r.kp T.b_r .nil a_W (a_A (pv 2) (a_A (pv 3) a_B)))))))
   (a_C (b_W (a_X h_V (pv 1) a_D (a_V _))
   (a_I (a_L (i:=2) sc_q.nd rfl (Or.inr rfl) (g_O e_Y (pv 2))))
   b_y)
   (a_I (a_S (d_J (a_A (c_l e_s rfl T.z_tuple (by decide +kernel) (a_A (b_G (xs:=["top"]) (fr:=[("common",2)]) (g:=(a_R 0)) (tt:=(tEl (tOp (rI (fun _ j=>j≠0) fun i j=>.int (i.fdiv j)) (tVar 0) (tVar 1)))) (a_T (sc:=a_G s_q) (N:=N_q) rfl rfl (by decide +kernel)) rfl (c_r (pv 0)) (fun _ _ _ hE1=>(b_z (N:=["top","common"]) (i:=0) hE1 rfl (by decide +kernel))) (fun _ _ _ hE1=>(c_g (a_O (l_p Gs (e_g hr (by decide)) rfl rfl rfl rfl rfl) (pv 0) (pv 1))))) a_B)) (a_A (a_O (e_J Gs (e_g hr (by decide))) (pv 1) (pv 2)) a_B)))))))))),?_⟩
  show tSeq _ _ _ [some (.ref a),some (.int u),none,none] H
  refine st fun N1 e1=>?_
  simp only [i_L]
  walk_at "r"
  refine ite2 (fun z=>⟨by decide,hE (.inl (of_decide_eq_true z))⟩) (fun z=>?_)
  have hu:u≠0:=fun q=>z (decide_eq_true q)
  subst e1
  refine st fun N1 e1=>?_
  simp only [i_L]
  walk_at "r"
  refine c_s hS ?_
  walk_at "r"
  refine ite2 (fun z=>⟨by decide,hE (.inr ?_)⟩) (fun z=>?_)
  ·have:=of_decide_eq_true z
   exact List.eq_nil_of_length_eq_zero (by omega)
  have hne:ns≠[]:=fun q=>z (decide_eq_true (by rw [q]; rfl))
  subst e1
  refine st fun N1 e1=>?_
  walk_at "r"
  subst e1
  refine st fun N1 e1=>d_z fun B eB=>?_
  simp only [iSeq]
  walk_at "r"
  refine ⟨b,⟨_,hS⟩,?_⟩
  refine l_f (g:=a_R 3) (tb:=B) (fun i σ H1=>∃ v3,σ=[some (.ref a),some (.int u),some (.int (gl u (ns.take i))),v3]/\H1=H) ⟨_,rfl,rfl⟩ (fun i σ H1 _ ⟨_,_,e⟩=>e ▸ hS) ?_ ?_
  ·rintro i x σ H1 hi ⟨v3,rfl,rfl⟩
   obtain ⟨n,hn,rfl⟩:=b_Z hi
   subst eB
   walk_at "r"
   simp only [o_A]
   rw [k_n hn,m_V]
   first | trivial | exact ⟨_,rfl,rfl⟩
  ·rintro σ H1 ⟨v3,rfl,rfl⟩
   rw [zqe,List.take_length]
   subst e1
   refine st fun N2 e2=>?_
   have key2:N2 [some (.ref a),some (.int u),some (.int (cs u ns)),v3] H1:=by
    subst e2
    have hd:cs u ns≠0:=f_S ns hu
    walk_at "r"
    refine a_Y fun B eB=>?_
    simp only [iSeq]
    walk_at "r"
    refine ⟨b,⟨_,hS⟩,fun a1 ha1=>c_M (fun j y _=>∃ n,ns[j]?=some n/\y=.int (n.fdiv (cs u ns))) ha1 hS (by rw [zqe]; omega) (fun _ _ _ _ r _=>r) ?_ ?_⟩
    ·intro i x H2 zs hx _ _ Q' hQ'
     obtain ⟨n,hn,rfl⟩:=b_Z hx
     subst eB
     show tOp _ _ _ [some (.int n),some (.int (cs u ns))] H2 Q'
     walk_at "r"
     exact ⟨hd,hQ' _ H2 (Same.refl _) ⟨n,hn,rfl⟩⟩
    ·intro H2 ys s1 e1 hly hr2
     have ey:ys=(redT u ns).map V.int:=by
      unfold redT
      rw [List.map_map]
      exact c_k (by simpa using hly) hr2
     subst ey
     refine ⟨a1,_,rfl,.inl ⟨SqL.of e1,fun l hl1=>?_⟩⟩
     walk_at "r"
     refine ⟨hd,(by show 2<=sizeLine; decide),fun p hp=>hQ hu hne p _ ((s1.trans (Same.new hl1)).trans (Same.new hp)) ⟨l,a_F,?_⟩⟩
     rw [a_E (a_H a_F hp)]
     exact a_F
   walk_at "r"
   unfold cs at key2
   refine ite2 (fun z=>?_) (fun z=>?_)
   ·rw [if_pos (of_decide_eq_true z)] at key2
    exact key2
   ·rw [if_neg (fun q=>z (decide_eq_true q))] at key2
    exact key2
theorem h_h {H:Hp} {p:Addr} {ns:List Int} {u:Int} {Q:VK} (h:c_b H p ns u) (q:∀ x,H x=some (.tup (ns.map V.int))->Q (.ref x) H):rIxB K (.ref p) (.int 0) H Q:=let ⟨x,h1,h2⟩:=h; ⟨true,p,_,_,_,rfl,rfl,SqB.tup h1,rfl,q x h2⟩
theorem f_N {H:Hp} {p:Addr} {ns:List Int} {u:Int} {Q:VK} (h:c_b H p ns u) (q:Q (.int u) H):rIxB K (.ref p) (.int 1) H Q:=let ⟨x,h1,h2⟩:=h; ⟨true,p,_,_,_,rfl,rfl,SqB.tup h1,rfl,q⟩
theorem l_P {a:Addr} {H:Hp} {tt:St->Hp->(Option V->Hp->Prop)->Prop} {fr:List (Str × Nat)} {σ:St} {Q:VK} {b:Bool} {l:Addr} {xs:List V} (P:Nat->List V->Prop) (ha:H a=none) (hS:SqB b K H l xs) (hz:xs.length<=1000) (h0:P 0 [])
  (hl:∀ i zs,P i zs->zs.length<=i)
  (he:∀ i x H1 zs,xs[i]?=some x->Same H H1->P i zs->∀ C:Option V->Hp->Prop,
   (∀ y H2,Same H1 H2->P (i+1) (zs++[y])->C (some y) H2)->(∀ H2,Same H1 H2->P (i+1) zs->C none H2)->tt (some (.int i) :: some x :: b_X fr σ) H1 C)
  (hd:∀ H1 ys,Same H H1->H1 a=some (.lst ys)->P xs.length ys->Q (.ref a) H1):c_w (Ite K b l) (gTup K 2 (c_i (a_R 0) (c_i (a_R 1) gNil))) tt 2 fr σ a H Q:=by
 refine h_E xs.length (fun i zs _=>P i zs) ha hz h0 (fun i zs _ p=>hl i zs p) (fun _ _ _ _ p _=>p) (fun i H1 hi s=>⟨xs,xs[i],hS.up s,by simp [hi]⟩) (fun H1 s=>⟨xs,hS.up s,rfl⟩) ?_ hd
 intro i H1 zs hi s1 ez pz os x H3 hos hy C hC1 hC2
 obtain ⟨p,x,rfl,hp,rfl,hx⟩:=hy
 refine ⟨p,[.int i,x],rfl,SqT.of a_F,rfl,_,[x],rfl,x,[],rfl,rfl,?_⟩
 match os,hos with
 | [o,o'],_ =>
  exact ⟨⟨[some (.int i),some x],rfl,rfl⟩,he i x _ zs (hx xs (hS.up s1)) (s1.trans (Same.new hp)) pz C (fun y H2 s2 r=>hC1 y H2 ((Same.new hp).trans s2) r) fun H2 s2 r=>hC2 H2 ((Same.new hp).trans s2) r⟩
noncomputable def o_G (r:List Int) (i:Nat) (zs:List V):Prop:=zs.length<=i/\((zs=[]/\∀ m,m < i->r.getD m 0=0)\/∃ j:Nat,j < i/\r.getD j 0≠0/\(∀ m,m < j->r.getD m 0=0)/\zs[0]?=some (.int (j:Int)))
noncomputable def LI (H:Hp) (f q:Addr) (ks:List Nat) (i:Nat) (σ:St) (H2:Hp):Prop:=∃ (v2 v3 v4:Option V) (ps:List Addr),σ=[some (.ref f),some (.ref q),v2,v3,v4]/\Same H H2/\H2 q=some (.lst (ps.map V.ref))/\ps.length=min i ks.length /\
 ∀ (m:Nat) p j,ps[m]?=some p->ks[m]?=some j->p≠q/\H2 p=some (.tup [.int m,.int j])
theorem ok_k (T:Txt K mg t):FnOk P w K mg base CX0 1 t.a_k t.d_k ["form"] (sp_k K):=by
 refine T.F_k.ok sc_k (by walk_at "v") (fun cdv A outer s H vs Q E hr h=>?_)
 ·obtain ⟨b1,b2,f,F,d,ks,rfl,hM,hF4,hw,hd4,⟨hkl,hL⟩,hQ⟩:=h
  refine ⟨_,(a_C (a_L (i:=1) sc_k.nd rfl (Or.inl rfl) (c_L a_B))
   (a_C (c_Z PassesOwn.never rfl (j_v rfl T.z_enumerate (a_A (pv 0) a_B)) (d_T rfl (b_F (b_N (i:=2) sc_k.nd rfl (Or.inl rfl)) (b_F (b_N (i:=3) sc_k.nd rfl (Or.inl rfl)) c_S)))
   (a_C (c_q (i:=4) (xs:=["k","number"]) (fr:=[]) (g:=(gTup K 2 (c_i (a_R 0) (c_i (a_R 1) gNil)))) (tt:=(d_R (g_h (tOp (rI0 fun i j=>.bl (!decide (i=j))) (tVar 1) (tC (.int 0)))) (tVar 0))) (a_T (sc:=a_G s_k) (N:=N_k) rfl rfl (by decide +kernel)) rfl sc_k.nd rfl rfl (j_v rfl T.z_enumerate (a_A (pv 3) a_B)) (fun _ _ _ hE1=>(d_T rfl (b_F (b_z (N:=["k","number"]) (i:=0) hE1 rfl (by decide +kernel)) (b_F (b_z (N:=["k","number"]) (i:=1) hE1 rfl (by decide +kernel)) c_S)))) (fun _ _ _ hE1=>(k_V (a_X e_a (pv 1) a_D (a_V _)) (pv 0))))
   (a_I (b_W (a_X h_W (a_J a_U rfl T.z_len (by decide +kernel) (a_A (pv 4) a_B)) a_D (a_V _))
   (a_I (b_L (n_R PySem.F.plainAttrs_list PySem.F.slot_list_append PySem.F.type_list_append f_y (pv 1) (a_A (d_J (a_A (pv 2) (a_A (px (pv 4) a_D) a_B))) a_B))))
   b_y))))
   (a_I (a_S (pv 1))))),?_⟩
  show tSeq _ _ _ [some (.ref f),none,none,none,none] H
  refine st fun N1 e1=>?_
  walk_at "r"
  refine ⟨Nat.zero_le _,fun q hq=>?_⟩
  have s1:Same H (upd H q (.lst [])):=Same.new hq
  have eq1:(upd H q (.lst [])) q=some (.lst []):=a_F
  generalize upd H q (.lst [])=H1 at *
  subst e1
  refine st fun N1 e1=>d_z fun B' eB=>?_
  simp only [l_a]
  walk_at "r"
  obtain ⟨xs,x1,x2,x3⟩:=hM.walk
  refine ⟨b1,⟨_,x1.up s1⟩,?_⟩
  refine m_T (g:=gTup K 2 (c_i (a_R 2) (c_i (a_R 3) gNil))) (tb:=B') (LI H f q ks) ⟨none,none,none,[],rfl,s1,eq1,by simp,fun m p j e=>by simp at e⟩ (fun i σ H2 _ ⟨_,_,_,_,_,s2,_⟩=>x1.up s2) ?_ ?_
  ·rintro i x p σ H2 ex ⟨v2,v3,v4,ps,rfl,s2,eq2,pl,hps⟩ hp
   obtain ⟨pr,r,rfl,er,hr2⟩:=x3 i x ex
   have wr:=hw r (zqb er)
   obtain ⟨hl1,hl2⟩:=hL i r er
   have sp:=Same.new (o:=.tup [.int (i:Int),.ref pr]) hp
   refine ⟨p,[.int i,.ref pr],rfl,SqT.of a_F,rfl,_,[.ref pr],rfl,_,[],rfl,rfl,?_⟩
   have eq3:=sp _ _ eq2
   have hps3:∀ (m:Nat) p' j,ps[m]?=some p'->ks[m]?=some j->p'≠q/\(upd H2 p (.tup [.int (i:Int),.ref pr])) p'=some (.tup [.int m,.int j]):=fun m p' j a b=>⟨(hps m p' j a b).1,sp _ _ (hps m p' j a b).2⟩
   have s3:=s2.trans sp
   generalize upd H2 p (.tup [.int (i:Int),.ref pr])=H3 at *
   subst eB
   show tSeq _ _ _ [some (.ref f),some (.ref q),some (.int i),some (.ref pr),v4] H3
   refine st fun N2 e2=>?_
   simp only [c_F]
   refine g_u fun C0 B0 eC eB0=>?_
   simp only [l_a]
   walk_at "r"
   refine ⟨b2,⟨_,hr2.up s3⟩,fun a1 ha1=>?_⟩
   refine l_P (K:=K) (o_G r) ha1 (hr2.up s3) (by rw [zqe]; omega) ⟨Nat.le_refl _,.inl ⟨rfl,fun m hm=>by omega⟩⟩ (fun _ _ h=>h.1) ?_ ?_
   ·intro m y H4 zs ey s4 hf C' hC1 hC2
    obtain ⟨n,en,rfl⟩:=b_Z ey
    have gn:r.getD m 0=n:=by rw [zqc,en]; rfl
    subst eC
    subst eB0
    show d_R _ _ [some (.int m),some (.int n)] H4 C'
    simp only [d_R]
    walk_at "r"
    obtain ⟨zl,hf⟩:=hf
    refine ite2 (fun z=>hC1 _ _ (Same.refl _) ⟨by simp; omega,.inr ?_⟩) (fun z=>hC2 _ (Same.refl _) ⟨by omega,?_⟩)
    ·have zn:n≠0:=by simpa using z
     rcases hf with ⟨rfl,h0⟩ | ⟨j,h1,h2,h3,h4⟩
     ·exact ⟨m,by omega,by rw [gn]; exact zn,h0,by simp⟩
     ·refine ⟨j,by omega,h2,h3,?_⟩
      have:=(zqa h4).1
      rw [List.getElem?_append_left this]; exact h4
    ·have zn:n=0:=by simpa using z
     rcases hf with ⟨rfl,h0⟩ | ⟨j,h1,h2,h3,h4⟩
     ·refine .inl ⟨rfl,fun m' hm'=>?_⟩
      rcases Nat.lt_or_ge m' m with u | u
      ·exact h0 m' u
      ·rw [show m'=m by omega,gn]; exact zn
     ·exact .inr ⟨j,by omega,h2,h3,h4⟩
   ·intro H4 ys s4 ey hf
    rw [zqe,wr] at hf
    obtain ⟨_,hf⟩:=hf
    show N2 [some (.ref f),some (.ref q),some (.int i),some (.ref pr),some (.ref a1)] H4
    have eq4:=s4 _ _ eq3
    have s04:=s3.trans s4
    subst e2
    walk_at "r"
    refine ⟨false,a1,ys,rfl,SqB.lst ey,?_⟩
    walk_at "r"
    rcases hf with ⟨rfl,h0⟩ | ⟨j,h1,h2,h3,h4⟩
    ·have hno:ks.length<=i:=by
      rcases Nat.lt_or_ge i ks.length with u | u
      ·obtain ⟨w1,w2,_⟩:=hl1 ks[i] (zqd u)
       exact absurd (h0 _ w1) w2
      ·exact u
     refine iteF ?_
     exact ⟨_,_,_,ps,rfl,s04,eq4,by omega,fun m p' j a b=>⟨(hps3 m p' j a b).1,s4 _ _ (hps3 m p' j a b).2⟩⟩
    ·have hyes:ks[i]?=some j:=by
      rcases Nat.lt_or_ge i ks.length with u | u
      ·have e:=zqd u
       obtain ⟨w1,w2,w3⟩:=hl1 ks[i] e
       rcases Nat.lt_trichotomy j ks[i] with v | v | v
       ·exact absurd (w3 j v) h2
       ·rw [e,v]
       ·exact absurd (h3 _ v) w2
      ·exact absurd (hl2 u j) h2
     have ik:=(zqa hyes).1
     have yl:=(zqa h4).1
     refine ite2 (fun _=>?_) (fun z=>absurd (decide_eq_true (by omega)) z)
     refine ⟨.inl ⟨rfl,_,SqL.of eq4⟩,false,a1,_,_,_,rfl,rfl,SqB.lst ey,b_H h4 rfl,by show 2<=sizeLine; decide,fun pp hpp=>?_⟩
     have s5:=Same.new (o:=.tup [.int (i:Int),.int (j:Int)]) hpp
     have e5:(upd H4 pp (.tup [.int (i:Int),.int (j:Int)])) pp=some (.tup [.int (i:Int),.int (j:Int)]):=a_F
     have eq5:=s5 _ _ eq4
     have ppq:pp≠q:=fun z=>by rw [z,eq4] at hpp; cases hpp
     generalize upd H4 pp (.tup [.int (i:Int),.int (j:Int)])=H5 at *
     refine ⟨q,_,_,rfl,rfl,eq5,by rw [zqe]; exact Nat.le_of_lt (c_m (by omega)),?_⟩
     refine ⟨_,_,_,ps++[pp],rfl,fun b o e=>?_,by rw [a_F]; simp,by simp; omega,fun m p' j' a b=>?_⟩
     ·have:b≠q:=a_H e hq
      rw [a_E this]; exact s5 _ _ (s04 _ _ e)
     ·by_cases hm:m < ps.length
      ·rw [List.getElem?_append_left hm] at a
       obtain ⟨n1,n2⟩:=hps3 m p' j' a b
       exact ⟨n1,by rw [a_E n1]; exact s5 _ _ (s4 _ _ n2)⟩
      ·have hml:=(zqa a).1
       have hmi:m=i:=by simp at hml; omega
       subst hmi
       have e6:(ps++[pp])[m]?=some pp:=by rw [List.getElem?_append_right (by omega)]; simp [show m - ps.length=0 by omega]
       rw [e6] at a
       cases a
       rw [hyes] at b
       cases b
       exact ⟨ppq,by rw [a_E ppq]; exact e5⟩
  ·rintro σ H2 ⟨v2,v3,v4,ps,rfl,s2,eq2,pl,hps⟩
   subst e1
   walk_at "r"
   refine hQ q H2 s2 hq ⟨ps,eq2,by rw [pl,x2]; omega,fun m p j a b=>(hps m p j a b).2⟩
theorem g_F {c t:Int} (h:c∣t):(t.fdiv c).natAbs<=t.natAbs:=by
 by_cases hc:c=0
 ·subst hc; simp
 ·have e:=c_d hc h
  have e2:t.natAbs=(t.fdiv c).natAbs*c.natAbs:=by rw [← Int.natAbs_mul,e]
  rw [e2]
  exact Nat.le_mul_of_pos_right _ (by omega)
theorem h_i {u:Int} {ns:List Int} (h:u≠0) {i:Nat} {x y:Int} (e1:ns[i]?=some x) (e2:(redT u ns)[i]?=some y):x*redU u ns=y*u:=by
 unfold redT at e2
 rw [List.getElem?_map,e1] at e2
 cases e2
 exact o_S h (zqb e1)
theorem j_S {w:Int} (ts:List Int) (hw:0 < w):0 < redU w ts/\redU w ts<=w:=by
 have h1:0 < redU w ts:=h_b ts (by omega)
 have h2:=g_F (d_A (gl_u w ts))
 have h3:(redU w ts).natAbs<=w.natAbs:=h2
 exact ⟨h1,by omega⟩
theorem i_r {u:Int} (ts:List Int) (h:u≠0):0 < redU u ts/\(redU u ts).natAbs<=u.natAbs:=⟨h_b ts h,g_F (d_A (gl_u u ts))⟩
theorem i_s:∀ d:Nat,(List.replicate d [V.int 0]).flatten=(List.replicate d (0:Int)).map V.int
 | 0=>rfl
 | d+1=>by
  rw [List.replicate_succ,List.replicate_succ,List.flatten_cons,i_s d]
  rfl
noncomputable def CI (H:Hp) (f q tp nm:Addr) (u:Int) (d:Nat) (F:LM) (ks:List Nat) (ts:List Int) (W:Nat) (i:Nat) (σ:St) (H2:Hp):Prop:=∃ (v5 v7 v8:Option V) (ns:List Int),
 σ=[some (.ref f),some (.ref q),some (.ref tp),some (.int u),some (.int (scl F ks ks.length)),v5,some (.ref nm),v7,v8]/\Same H H2/\H2 nm=some (.lst (ns.map V.int))/\Cl d F ks ts W (ks.length - i) ns
theorem ok_l (T:Txt K mg t) (Gs:Gd P mg base):FnOk P w K mg base CX0 36 t.a_l t.d_l ["form","leads","tops","under"] (sp_l K):=by
 have G_w:=@ok_w P w K mg base t T
 have G_q:FnOk P w K mg base (CX1 P w) 34 t.a_q t.d_q ["tops","under"] (sp_q K t.a_8):=ok_q T Gs
 refine T.F_l.ok sc_l (by walk_at "v") (fun cdv A outer s H vs Q E hr h=>?_)
 ·obtain ⟨b1,b2,b3,f,q,tp,F,d,n,ks,ts,u,rfl,hM,⟨ps,hq1,hq2,hq3⟩,hT,fl,fw,tl,n1,n63,d1,d12,kd,ksS,ksK,hld,u0,ub,bF',bT,hQ⟩:=h
  have eW:wB=4194304:=rfl
  have kl:ks.length<=d:=g_c ksS ksK
  have k12:∀ {i:Nat},i<=12->i*wB<=50331648:=fun {i} hi=>Nat.le_trans (Nat.mul_le_mul_right _ hi) (by omega)
  have bts:∀ z∈ts,z.natAbs<=2 ^ wB:=fun z hz=>bT ts List.mem_cons_self z hz
  refine ⟨_,(a_C (a_L (i:=4) sc_l.nd rfl (Or.inl rfl) a_D)
   (a_C (c_Z PassesOwn.never rfl (c_r (pv 1)) (b_N (i:=5) sc_l.nd rfl (Or.inl rfl))
   (a_I (a_L (i:=4) sc_l.nd rfl (Or.inl rfl) (a_O b_P (pv 4) (px (px (pv 0) (px (pv 5) a_D)) (px (pv 5) a_D))))))
   (a_C (a_L (i:=6) sc_l.nd rfl (Or.inl rfl) (a_O o_q (c_L (a_A a_D a_B)) (a_J a_U rfl T.z_len (by decide +kernel) (a_A (px (pv 0) a_D) a_B))))
   (a_C (c_Z PassesOwn.never rfl (o_x rfl T.z_reversed (a_A (pv 1) a_B)) (b_N (i:=5) sc_l.nd rfl (Or.inl rfl))
   (a_C (a_L (i:=7) sc_l.nd rfl (Or.inl rfl) (px (pv 0) (px (pv 5) a_D)))
   (a_C (a_L (i:=8) sc_l.nd rfl (Or.inl rfl) (a_O d_m (a_O b_P (px (pv 2) (px (pv 5) a_D)) (pv 4)) (a_K G_w hr.mo rfl T.m_w T.F_w.kp T.b_w .nil a_W (a_A (pv 7) (a_A (pv 6) a_B)))))
   (a_I (d_V (a_O (e_J Gs (e_g hr (by decide))) (pv 8) (px (pv 7) (px (pv 5) a_D))) (d_U (pv 6) (px (pv 5) a_D) c_A))))))
   (a_I (a_S (a_K G_q hr.mo rfl T.m_q T.F_q.kp T.b_q .nil e_r (a_A (pv 6) (a_A (a_O b_P (pv 3) (pv 4)) a_B))))))))),?_⟩
  show tSeq _ _ _ [some (.ref f),some (.ref q),some (.ref tp),some (.int u),none,none,none,none,none] H
  have mref:∀ {m:Nat} {p:Addr},ps[m]?=some p->(ps.map V.ref)[m]?=some (.ref p):=fun e=>by rw [List.getElem?_map,e]; rfl
  have pair:∀ {i:Nat} {x:V},(ps.map V.ref)[i]?=some x->∃ p j r,x=.ref p/\i < ks.length/\ps[i]?=some p/\ks[i]?=some j/\H p=some (.tup [.int i,.int j])/\F[i]?=some r/\r.length=d/\j < d:=fun {i x} e=>by
   have hi:i < ps.length:=by have:=(zqa e).1; simpa using this
   obtain ⟨p,hp⟩:∃ p,ps[i]?=some p:=⟨_,zqd hi⟩
   obtain ⟨j,hj⟩:∃ j,ks[i]?=some j:=⟨_,zqd (by omega)⟩
   obtain ⟨r,hr⟩:∃ r,F[i]?=some r:=⟨_,zqd (by omega)⟩
   rw [mref hp] at e
   cases e
   exact ⟨p,j,r,rfl,by omega,hp,hj,hq3 i p j hp hj,hr,fw r (zqb hr),ksK j (zqb hj)⟩
  have ix0:∀ {H2:Hp} {p:Addr} {i j:Nat} {Q':VK},H2 p=some (.tup [.int i,.int j])->Q' (.int i) H2->rIxB K (.ref p) (.int 0) H2 Q':=fun e q=>⟨true,_,_,_,_,rfl,rfl,SqB.tup e,rfl,q⟩
  have ix1:∀ {H2:Hp} {p:Addr} {i j:Nat} {Q':VK},H2 p=some (.tup [.int i,.int j])->Q' (.int j) H2->rIxB K (.ref p) (.int 1) H2 Q':=fun e q=>⟨true,_,_,_,_,rfl,rfl,SqB.tup e,rfl,q⟩
  have lv:∀ {i j:Nat} {r:List Int},F[i]?=some r->ks[i]?=some j->c_V F ks i=r.getD j 0:=fun {i j r} e1 e2=>by
   unfold c_V
   rw [zqc (l:=F),e1,zqc (l:=ks),e2]
   rfl
  refine st fun N1 e1=>?_
  walk_at "r"
  subst e1
  refine st fun N1 e1=>d_z fun B' eB=>?_
  simp only [iSeq]
  walk_at "r"
  refine ⟨false,⟨_,SqB.lst hq1⟩,?_⟩
  refine l_f (g:=a_R 5) (tb:=B') (fun i σ H2=>∃ v5,σ=[some (.ref f),some (.ref q),some (.ref tp),some (.int u),some (.int (scl F ks i)),v5,none,none,none]/\H2=H) ⟨none,rfl,rfl⟩ (fun i σ H2 _ ⟨_,_,e⟩=>e ▸ SqB.lst hq1) ?_ ?_
  ·rintro i x σ H2 ex ⟨v5,rfl,rfl⟩
   obtain ⟨p,j,r,rfl,hi,hp,hj,hpt,hr',wr,jd⟩:=pair ex
   subst eB
   show tAsg _ _ _ [some (.ref f),some (.ref q),some (.ref tp),some (.int u),some (.int (scl F ks i)),some (.ref p),none,none,none] H2
   walk_at "r"
   refine ix0 hpt ?_
   refine d_M hM hr' rfl fun pr hpr=>?_
   refine ix1 hpt ?_
   refine g_D hpr (show (r.map V.int)[j]?=some (.int (r.getD j 0)) from c_N (b_R (by omega))) ?_
   walk_at "r"
   refine ⟨mulOk_of_bits (b_m (f_G bF' i)) (b_m (bF' r (zqb hr') _ (L2.getD_mem (by omega)))) (by have:=k12 (i:=i) (by omega); omega),?_⟩
   show _=scl F ks i*c_V F ks i
   rw [lv hr' hj]
  ·rintro σ H2 ⟨v5,rfl,rfl⟩
   rw [zqe,hq2]
   have bS:=f_G (ks:=ks) bF' ks.length
   obtain ⟨r0,e0⟩:∃ r,F[0]?=some r:=⟨_,zqd (by omega)⟩
   subst e1
   refine st fun N1 e1=>?_
   walk_at "r"
   refine ⟨by show 1<=sizeLine; decide,fun z1 hz1=>?_⟩
   have s1:=Same.new (o:=.lst [.int 0]) hz1
   have ez1:(upd H2 z1 (.lst [.int 0])) z1=some (.lst [.int 0]):=a_F
   generalize upd H2 z1 (.lst [.int 0])=H3 at *
   refine d_M (hM.up s1) e0 rfl fun p0 hp0=>?_
   refine c_s hp0 ?_
   rw [fw r0 (zqb e0)]
   refine ⟨z1,(d:Int),_,rfl,rfl,ez1,by omega,by omega,by show 1*_<=_; rw [Int.toNat_natCast]; exact Nat.le_of_lt (c_m (by omega)),fun nm hnm=>?_⟩
   have er:(List.replicate (d:Int).toNat [V.int 0]).flatten=(List.replicate d (0:Int)).map V.int:=by
    rw [Int.toNat_natCast]
    exact i_s d
   rw [er]
   have s2:=s1.trans (Same.new (o:=.lst ((List.replicate d (0:Int)).map V.int)) hnm)
   have enm:(upd H3 nm (.lst ((List.replicate d (0:Int)).map V.int))) nm=some (.lst ((List.replicate d (0:Int)).map V.int)):=a_F
   have nm0:H2 nm=none:=by
    cases w:H2 nm with
    | none=>rfl
    | some o=>rw [s1 _ _ w] at hnm; cases hnm
   generalize upd H3 nm (.lst ((List.replicate d (0:Int)).map V.int))=H4 at *
   show N1 [some (.ref f),some (.ref q),some (.ref tp),some (.int u),some (.int (scl F ks ks.length)),v5,some (.ref nm),none,none] H4
   subst e1
   refine st fun N1 e1=>d_z fun B' eB=>?_
   simp only [iRev]
   walk_at "r"
   refine ⟨_,SqL.of (s2 _ _ hq1),?_⟩
   rw [zqe,hq2]
   have start:Cl d F ks ts wB (ks.length - 0) (List.replicate d 0):=by
    refine ⟨by simp,fun i r x h1 h2=>by omega,fun i j _ hj=>?_,fun z hz=>?_,fun z hz=>?_⟩
    ·rw [zqc,List.getElem?_replicate]; split <;> rfl
    ·rw [List.eq_of_mem_replicate hz]; exact Int.dvd_zero _
    ·rw [List.eq_of_mem_replicate hz]; exact Nat.zero_le _
   refine o_y (xs:=ps.map V.ref) (g:=a_R 5) (tb:=B') (CI H2 f q tp nm u d F ks ts wB) ⟨_,_,_,_,rfl,s2,enm,start⟩ (by rw [zqe,hq2]) (fun i σ H5 _ ⟨_,_,_,_,_,s5,_⟩=>SqL.of (s5 _ _ hq1)) ?_ ?_
   ·rintro i x σ H5 ex hi ⟨v5',v7,v8,ns,rfl,s5,en5,cl⟩
    obtain ⟨p,j,r,rfl,him,hp,hj,hpt,hr',wr,jd⟩:=pair ex
    have hpt5:=s5 _ _ hpt
    obtain ⟨lp,_⟩:=hld _ r j hr' hj
    obtain ⟨xt,ext⟩:∃ xt,ts[ks.length - 1 - i]?=some xt:=⟨_,zqd (by omega)⟩
    have jl:j < ns.length:=by rw [cl.len]; exact jd
    subst eB
    show tSeq _ _ _ [some (.ref f),some (.ref q),some (.ref tp),some (.int u),some (.int (scl F ks ks.length)),some (.ref p),some (.ref nm),v7,v8] H5
    refine st fun N2 e2=>?_
    walk_at "r"
    refine ix0 hpt5 ?_
    refine d_M (hM.up s5) hr' rfl fun pr hpr=>?_
    show N2 [some (.ref f),some (.ref q),some (.ref tp),some (.int u),some (.int (scl F ks ks.length)),some (.ref p),some (.ref nm),some (.ref pr),v8] H5
    subst e2
    refine st fun N2 e2=>?_
    walk_at "r"
    refine ix0 hpt5 ?_
    refine g_D (hT.up s5) (c_N ext) ?_
    walk_at "r"
    have bx:=bts xt (zqb ext)
    have b4:∀ z∈ns,z.natAbs<=2 ^ (25*wB+48):=fun z hz=>Nat.le_trans (cl.bd z hz) (Nat.pow_le_pow_right (by decide) (by
     have h1:(ks.length+1)*wB<=13*wB:=Nat.mul_le_mul_right _ (by omega)
     have h2:(ks.length - (ks.length - i))*(wB+4)<=12*(wB+4):=Nat.mul_le_mul_right _ (by omega)
     omega))
    refine ⟨mulOk_of_bits (b_m bx) (b_m bS) (by have:=k12 (i:=ks.length) (by omega); omega),?_⟩
    refine ⟨b2,false,pr,nm,r,ns,rfl,hpr,SqB.lst en5,by rw [wr,cl.len],by omega,fun i' m' n' e1' e2'=>mulOk_of_bits (b_m (bF' r (zqb hr') m' (zqb e1'))) (b_m (b4 n' (zqb e2'))) (by omega),fun H6 s6=>?_⟩
    subst e2
    simp only [tAsg,gSub,g_l]
    walk_at "r"
    refine ix1 (s6 _ _ hpt5) ?_
    refine g_D (hpr.up s6) (show (r.map V.int)[j]?=some (.int (r.getD j 0)) from c_N (b_R (by omega))) ?_
    walk_at "r"
    refine ⟨by omega,?_⟩
    refine ix1 (s6 _ _ hpt5) ?_
    refine ⟨_,_,rfl,s6 _ _ en5,j,c_X (by rw [zqe]; exact jl),?_⟩
    have e3:ks.length - i=(ks.length - 1 - i)+1:=by omega
    rw [e3] at cl
    have st':=cl.step (by omega) d12 ksS hj jd hr' ext hld wr bF' bx
    rw [show ks.length - 1 - i=ks.length - (i+1) by omega] at st'
    refine ⟨_,_,_,_,rfl,fun b o e=>?_,?_,st'⟩
    ·rw [a_E (a_H e nm0)]; exact s6 _ _ (s5 _ _ e)
    ·rw [a_F,List.map_set]
   ·rintro σ H5 ⟨v5',v7,v8,ns,rfl,s5,en5,cl⟩
    rw [Nat.sub_self] at cl
    subst e1
    walk_at "r"
    have sc0:scl F ks ks.length≠0:=by
     have go:∀ m,m<=ks.length->scl F ks m≠0:=by
      intro m
      induction m with
      | zero=>intro _; show (1:Int)≠0; decide
      | succ m ih =>
       intro hm
       obtain ⟨j,hj⟩:∃ j,ks[m]?=some j:=⟨_,zqd (by omega)⟩
       obtain ⟨r,hr⟩:∃ r,F[m]?=some r:=⟨_,zqd (by omega)⟩
       show scl F ks m*c_V F ks m≠0
       rw [lv hr hj]
       have:=(hld m r j hr hj).1
       exact Int.mul_ne_zero (ih (by omega)) (by omega)
     exact go _ (Nat.le_refl _)
    refine ⟨mulOk_of_bits (b_m ub) (b_m bS) (by have:=k12 (i:=ks.length) (by omega); omega),?_⟩
    have un:u*scl F ks ks.length≠0:=Int.mul_ne_zero u0 sc0
    have nn:ns≠[]:=fun z=>by have:=cl.len; rw [z] at this; simp at this; omega
    refine ⟨false,nm,ns,_,rfl,SqB.lst en5,by rw [cl.len]; omega,fun z=>?_,fun _ _ p H6 s6 hp=>?_⟩
    ·rcases z with z | z
     ·exact absurd z un
     ·exact absurd z nn
    ·refine hQ p H6 ns (s5.trans s6) hp cl.len (fun z hz=>Nat.le_trans (cl.bd z hz) (Nat.pow_le_pow_right (by decide) ?_)) fun i r x hi er ex=>cl.eq i r x (Nat.zero_le _) hi er ex
     have h1:(ks.length+1)*wB<=13*wB:=Nat.mul_le_mul_right _ (by omega)
     have h2:(ks.length - 0)*(wB+4)<=12*(wB+4):=Nat.mul_le_mul_right _ (by omega)
     omega
theorem g_d {c:Int} {ns:List Int} {M:Nat} (h:c≠0) (hb:∀ z∈ns,z.natAbs<=M):∀ z∈redT c ns,z.natAbs<=M:=fun z hz=>by
 unfold redT at hz
 obtain ⟨x,hx,rfl⟩:=List.mem_map.mp hz
 exact Nat.le_trans (g_F (d_A (h_H hx))) (hb x hx)
theorem ok_a (T:Txt K mg t) (Gs:Gd P mg base):FnOk P w K mg base CX0 37 t.a_a t.d_a ["rows","spot","fits"] (sp_a K t):=by
 have G_f:FnOk P w K mg base CX0 35 t.a_f t.d_f ["rows"] (sp_f K t):=ok_f T Gs
 have G_k:=@ok_k P w K mg base t T
 have G_w:=@ok_w P w K mg base t T
 have G_l:FnOk P w K mg base CX0 36 t.a_l t.d_l ["form","leads","tops","under"] (sp_l K):=ok_l T Gs
 refine T.F_a.ok sc_a (by walk_at "v") (fun cdv A outer s H vs Q E hr h=>?_)
 ·obtain ⟨b1,b2,a,sp,f,c,pm,ctv,MA,ts,u,d,n,B,rfl,hM,mn,mw,n1,n63,d1,d12,bA,hfit,hP,u0,u90,tl,bts,tt,ef,ec,hQ⟩:=h
  have eW:wB=4194304:=rfl
  have eU:uS=1048576:=rfl
  have hB:B<=uS:=(hfit 0 (by omega) (by omega)).1
  refine ⟨_,(a_C (a_L (i:=3) sc_a.nd rfl (Or.inl rfl) (a_K G_f hr.mo rfl T.m_f T.F_f.kp T.b_f .nil a_W (a_A (pv 0) a_B)))
   (a_C (a_L (i:=4) sc_a.nd rfl (Or.inl rfl) (px (pv 3) a_D))
   (a_C (a_L (i:=5) sc_a.nd rfl (Or.inl rfl) (px (pv 3) a_D))
   (a_C (a_L (i:=6) sc_a.nd rfl (Or.inl rfl) (a_K G_k hr.mo rfl T.m_k T.F_k.kp T.b_k .nil a_W (a_A (pv 4) a_B)))
   (a_C (c_q (i:=7) (xs:=["line"]) (fr:=[("spot",1)]) (g:=(a_R 0)) (tt:=(tEl (d_Q (sp_w K) [] E0 (b_O (tVar 0) (b_O (tOp (rIxB K) (tVar 1) (tC (.int 0))) tNil))))) (a_T (sc:=a_G s_a) (N:=N_a) rfl rfl (by decide +kernel)) rfl sc_a.nd rfl rfl (c_r (pv 5)) (fun _ _ _ hE1=>(b_z (N:=["line","spot"]) (i:=0) hE1 rfl (by decide +kernel))) (fun _ _ _ hE1=>(c_g (a_K G_w hr.mo rfl T.m_w T.F_w.kp T.b_w .nil a_W (a_A (pv 0) (a_A (px (pv 1) a_D) a_B))))))
   (a_C (c_Z PassesOwn.never rfl (e_X rfl T.z_range (a_A (a_J a_U rfl T.z_len (by decide +kernel) (a_A (pv 6) a_B)) (a_A (a_J a_U rfl T.z_len (by decide +kernel) (a_A (pv 4) a_B)) a_B))) (b_N (i:=8) sc_a.nd rfl (Or.inl rfl))
   (a_I (b_W (e_V (c_C (l_o (x := "top") (qual := "met.<locals>.<lambda>") (params:=lamP c_u) (body:=lamB c_u) (scope:=lamS c_u) (i:=2) (g_a (sc:=a_G s_a) (N:=N_a) rfl rfl (by decide +kernel)) rfl ⟨rfl,rfl,fun _ _ _ _ _ _ _ _=>rfl⟩ hr.depth rfl (Or.inl rfl) (px (pv 7) (pv 8)) (te:=(tOp (rI0 fun i j=>.bl (decide (i=j))) (tVar 0) (tC (.int 0)))) (fun _ _ _ _=>(c_y c_D (pv 0) a_D (a_V _))))))
   (a_I (a_S (d_J (a_A c_Y (a_A (c_l e_s rfl T.z_tuple (by decide +kernel) (a_A (px (pv 5) (pv 8)) a_B)) a_B)))))
   b_y)))
   (a_I (a_S (d_J (a_A c_Y (a_A (a_K G_l hr.mo rfl T.m_l T.F_l.kp T.b_l .nil a_W (a_A (pv 4) (a_A (pv 6) (a_A (pv 7) (a_A (px (pv 1) a_D) a_B))))) a_B))))))))))),?_⟩
  show tSeq _ _ _ [some (.ref a),some (.ref sp),some (.ref f),none,none,none,none,none,none] H
  refine st fun N1 e1=>?_
  walk_at "r"
  refine ⟨b1,b2,a,MA,d,n,B,rfl,hM,mn,mw,n1,n63,by omega,bA,hfit,tt,fun r fo re h3 F R C ks H1 ev1 tt1 er told sta nf=>?_⟩
  obtain ⟨psF,qsR,usC,mfF,mgR,_,_⟩:=told
  have hF:=mfF.l
  have hR:=mgR.l
  have hP1:=e_S hP ev1
  have ef1:H1 f=some (lamO f c "met.<locals>.<lambda>" (lamP c_u) (lamB c_u) (lamS c_u) [] pm ctv):=ev1.1 _ _ (fun z=>nomatch z) (fun _ z=>by unfold lamO at z; cases z) ef
  have ec1:H1 c=some (c_a c "met.<locals>.<lambda>"):=ev1.1 _ _ (fun z=>nomatch z) (fun _ z=>by unfold c_a at z; cases z) ec
  subst e1
  refine st fun N1 e1=>?_
  walk_at "r"
  refine ⟨true,r,_,_,_,rfl,rfl,SqB.tup er,rfl,?_⟩
  subst e1
  refine st fun N1 e1=>?_
  walk_at "r"
  refine ⟨true,r,_,_,_,rfl,rfl,SqB.tup er,rfl,?_⟩
  subst e1
  refine st fun N1 e1=>?_
  walk_at "r"
  have fl:=sta.fl
  have rl:=sta.rl
  refine ⟨false,false,fo,F,d,ks,rfl,hF.b,by omega,sta.fw,by omega,⟨by rw [fl]; exact sta.kn,fun i r' e=>⟨fun j ej=>⟨sta.ksK j (zqb ej),by have:=(sta.lead i r' j e ej).1; omega,(sta.lead i r' j e ej).2⟩,fun hi=>sta.zero i r' hi e⟩⟩,fun q H2 s2 hq0 hq=>?_⟩
  show N1 [some (.ref a),some (.ref sp),some (.ref f),some (.ref r),some (.ref fo),some (.ref re),some (.ref q),none,none] H2
  subst e1
  refine st fun N1 e1=>?_
  show c_F _ _ _ [some (.ref a),some (.ref sp),some (.ref f),some (.ref r),some (.ref fo),some (.ref re),some (.ref q),none,none] H2
  simp only [c_F]
  refine a_Y fun B' eB=>?_
  simp only [iSeq]
  walk_at "r"
  obtain ⟨ps,p1,p2,p3⟩:=hR.up s2
  obtain ⟨pt,hP1a,hP1b⟩:=hP1
  refine ⟨false,⟨_,SqB.lst p1⟩,fun tp htp=>?_⟩
  refine c_M (fun j y _=>∃ s',R[j]?=some s'/\y=.int (dotI s' ts)) htp (SqB.lst p1) (by rw [zqe,p2,rl]; omega) (fun _ _ _ _ h _=>h) ?_ ?_
  ·intro i v H3 zs ev s3 ez Q' hQ'
   have hin:i < ps.length:=by have:=(zqa ev).1; simpa using this
   obtain ⟨p',hp'⟩:∃ p',ps[i]?=some p':=⟨_,zqd hin⟩
   obtain ⟨r',er'⟩:∃ r',R[i]?=some r':=⟨_,zqd (by omega)⟩
   rw [List.getElem?_map,hp'] at ev
   cases ev
   subst eB
   show d_Q _ _ _ _ [some (.ref p'),some (.ref sp)] H3 Q'
   walk_at "r"
   refine ⟨true,sp,_,_,_,rfl,rfl,SqB.tup (s3 _ _ (s2 _ _ hP1a)),rfl,?_⟩
   refine ⟨false,true,p',pt,r',ts,rfl,SqB.lst (s3 _ _ (p3 i p' r' hp' er').2),SqB.tup (s3 _ _ (s2 _ _ hP1b)),by rw [sta.rw r' (zqb er'),tl],by rw [sta.rw r' (zqb er')]; omega,fun _ m n e1 e2=>mulOk_of_bits (b_m (sta.br r' (zqb er') m (zqb e1))) (b_m (bts n (zqb e2))) (by omega),fun H4 s4=>?_⟩
   exact hQ' _ _ s4 ⟨r',er',rfl⟩
  ·intro H3 zs s3 ez hlz hr3
   have ey:zs=(R.map fun s'=>dotI s' ts).map V.int:=by
    refine c_k (by rw [hlz,zqe,zqe,p2]) fun j y e=>?_
    obtain ⟨s',es,rfl⟩:=hr3 j y e
    exact ⟨_,by rw [List.getElem?_map,es]; rfl,rfl⟩
   subst ey
   have sam:=s2.trans s3
   have hF3:=hF.up sam
   have hR3:=hR.up sam
   have tt3:TT K t H3:=(a_P (S:=[]) sam).2 tt1
   have ev3:Ev K t [] H H3:=ev1.trans (a_P sam)
   have ef3:=sam _ _ ef1
   have ec3:=sam _ _ ec1
   have hsp3:=sam _ _ hP1a
   obtain ⟨qs,hq1,hq2,hq3⟩:=hq
   have hqS:SqB false K H3 q (qs.map V.ref):=SqB.lst (s3 _ _ hq1)
   show N1 [some (.ref a),some (.ref sp),some (.ref f),some (.ref r),some (.ref fo),some (.ref re),some (.ref q),some (.ref tp),none] H3
   subst e1
   refine st fun N1 e1=>d_z fun B' eB=>?_
   simp only [j_i]
   walk_at "r"
   refine ⟨false,q,_,rfl,hqS,?_⟩
   rw [zqe,hq2]
   refine e_u (hF3.b (K:=K)) ?_
   rw [fl]
   have kn:=sta.kn
   walk_at "r"
   refine ⟨by omega,by omega,by omega,by omega,?_⟩
   refine e_f (g:=a_R 8) (tb:=B') (fun i σ H4=>∃ v8,σ=[some (.ref a),some (.ref sp),some (.ref f),some (.ref r),some (.ref fo),some (.ref re),some (.ref q),some (.ref tp),v8]/\H4=H3/\∀ (m:Nat) s',ks.length<=m->m < ks.length+i->R[m]?=some s'->dotI s' ts=0) ⟨none,rfl,rfl,fun m _ h1 h2=>by omega⟩ ?_ ?_
   ·rintro i σ H4 hi ⟨v8,rfl,rfl,hz⟩
    obtain ⟨s',es⟩:∃ s',R[ks.length+i]?=some s':=⟨_,zqd (by omega)⟩
    subst eB
    show tIfS _ _ _ _ [some (.ref a),some (.ref sp),some (.ref f),some (.ref r),some (.ref fo),some (.ref re),some (.ref q),some (.ref tp),some (.int ((ks.length:Int)+i))] H4
    simp only [tIfS,tNot,tB,l_n]
    refine ⟨f,c,pm,ctv,rfl,?_⟩
    walk_at "r"
    refine ⟨false,tp,_,_,_,rfl,rfl,SqB.lst ez,b_H (k:=ks.length+i) (show ((R.map fun s'=>dotI s' ts).map V.int)[ks.length+i]?=some (.int (dotI s' ts)) by rw [List.getElem?_map,List.getElem?_map,es]; rfl) (by omega),ef3,ec3,?_⟩
    walk_at "r"
    by_cases h0:dotI s' ts=0
    ·rw [decide_eq_true h0]
     refine iteF ?_
     refine fun m s'' h1 h2 e=>?_
     rcases Nat.lt_or_ge m (ks.length+i) with w1 | w1
     ·exact hz m s'' h1 w1 e
     ·rw [show m=ks.length+i by omega,es] at e; cases e; exact h0
    ·rw [decide_eq_false h0]
     refine iteT ?_
     obtain ⟨rs,r1,r2,r3⟩:=id hR3
     obtain ⟨p',hp'⟩:∃ p',rs[ks.length+i]?=some p':=⟨_,zqd (by omega)⟩
     refine ⟨false,re,_,_,_,rfl,rfl,SqB.lst r1,b_H (k:=ks.length+i) (show (rs.map V.ref)[ks.length+i]?=some (.ref p') by rw [List.getElem?_map,hp']; rfl) (by omega),p',_,rfl,.inl ⟨SqL.of (r3 _ p' s' hp' es).2,fun tu htu=>?_⟩⟩
     have s5:=Same.new (o:=.tup (s'.map V.int)) htu
     refine ⟨by show 2<=sizeLine; decide,fun z hz'=>?_⟩
     have s6:=s5.trans (Same.new (o:=.tup [.str "row",.ref tu]) hz')
     have eF':F[ks.length+i]?=some F[ks.length+i]:=zqd (by omega)
     refine hQ _ _ (ev3.trans (a_P s6)) ((a_P (S:=[]) s6).2 tt3) ⟨z,rfl,.inr ⟨tu,s',a_F,?_,sta.rw s' (zqb es),fun x hx=>Nat.le_trans (sta.br s' (zqb es) x hx) (Nat.pow_le_pow_right (by decide) (by omega)),fun k hk=>?_,fun z=>h0 (Int.zero_dvd.mp z)⟩⟩
     ·rw [a_E (a_H a_F hz'),a_F]
     ·have e:=sta.lin _ _ _ eF' es
      have zk:=sta.zero _ _ (Nat.le_add_right _ _) eF' k
      rw [e] at zk
      unfold rowT c_e at zk
      rw [List.map_map,zqc,List.getElem?_map,List.getElem?_range hk] at zk
      exact zk
   ·rintro σ H4 ⟨v8,rfl,rfl,hz⟩
    subst e1
    walk_at "r"
    have lead3:∀ (i:Nat) r j,F[i]?=some r->ks[i]?=some j->0 < r.getD j 0:=fun i r j h1 h2=>(sta.lead i r j h1 h2).1
    have sp0:=h_M lead3 (by rw [fl]; exact kn) ks.length (Nat.le_refl _)
    refine ⟨true,sp,_,_,_,rfl,rfl,SqB.tup hsp3,rfl,?_⟩
    have wF:BdM (2 ^ wB) F:=fun r' hr' z hz'=>Nat.le_trans (sta.bf r' hr' z hz') (Nat.pow_le_pow_right (by decide) (by omega))
    have wT:BdM (2 ^ wB) [R.map fun s'=>dotI s' ts]:=fun r' hr' z hz'=>by
     rw [List.mem_singleton.mp hr'] at hz'
     obtain ⟨s',hs',rfl⟩:=List.mem_map.mp hz'
     have b:=h_L s' ts (sta.br s' hs') bts
     refine Nat.le_trans b ?_
     rw [sta.rw s' hs',← Nat.pow_add]
     refine Nat.le_trans (Nat.mul_le_mul_right _ (show n<=2 ^ 6 by omega)) ?_
     rw [← Nat.pow_add]
     exact Nat.pow_le_pow_right (by decide) (by omega)
    refine ⟨false,false,false,fo,q,tp,F,d,n,ks,R.map fun s'=>dotI s' ts,u,rfl,hF3.b,⟨qs,s3 _ _ hq1,hq2,fun i p j h1 h2=>s3 _ _ (hq3 i p j h1 h2)⟩,SqB.lst ez,fl,sta.fw,by rw [zqe]; exact rl,n1,n63,d1,d12,kn,sta.ksS,sta.ksK,sta.lead,by omega,Nat.le_trans u90 (Nat.pow_le_pow_right (by decide) (by omega)),wF,wT,fun p H5 ns s5 hp nl nb neq=>?_⟩
    ·refine ⟨by show 2<=sizeLine; decide,fun z hz'=>?_⟩
     have s6:=s5.trans (Same.new (o:=.tup [.str "place",.ref p]) hz')
     have pos:0 < u*scl F ks ks.length:=Int.mul_pos u0 sp0
     have rle:=j_S ns pos
     have key:=k_s mn mw sta tl nl (S:=scl F ks ks.length) (fun i r' s' hi h1 h2=>neq i r' _ hi h1 (by rw [List.getElem?_map,h2]; rfl)) fun i s' hi h2=>hz i s' hi (by have:=(zqa h2).1; omega) h2
     refine hQ _ _ (ev3.trans (a_P s6)) ((a_P (S:=[]) s6).2 tt3) ⟨z,rfl,.inl ⟨p,_,_,a_F,hp.up (Same.new hz'),rle.1,?_,l_z (by omega),by unfold redT; rw [zqe]; exact nl,g_d (by omega) nb,fun i row x h1 h2=>?_⟩⟩
     ·have h1:(u*scl F ks ks.length).natAbs<=2 ^ (13*wB):=by
       rw [Int.natAbs_mul]
       have kl:ks.length<=d:=g_c sta.ksS sta.ksK
       have h2:=f_G (ks:=ks) wF ks.length
       have h3:ks.length*wB<=12*wB:=Nat.mul_le_mul_right _ (by omega)
       refine Nat.le_trans (Nat.mul_le_mul (Nat.le_trans u90 (Nat.pow_le_pow_right (by decide) (show 90<=wB by omega))) (Nat.le_trans h2 (Nat.pow_le_pow_right (by decide) h3))) ?_
       rw [← Nat.pow_add]
       exact Nat.pow_le_pow_right (by decide) (by omega)
      have h2:(redU (u*scl F ks ks.length) ns).natAbs<=(u*scl F ks ks.length).natAbs:=by omega
      exact Nat.le_trans h2 h1
     ·have e2:=key i row x h1 h2
      have e3:=d_P (w:=redU (u*scl F ks ks.length) ns) (c:=u*scl F ks ks.length) row ns (redT (u*scl F ks ks.length) ns) (by unfold redT; rw [zqe]) fun i a b h3 h4=>h_i (by omega) h3 h4
      rw [e2] at e3
      have:scl F ks ks.length*(dotI row (redT (u*scl F ks ks.length) ns)*u)=scl F ks ks.length*(x*redU (u*scl F ks ks.length) ns):=by grind
      rw [Int.eq_of_mul_eq_mul_left (show scl F ks ks.length≠0 by omega) this,Int.sub_self]
      exact Int.dvd_zero _
theorem o_U (T:Txt K mg t) (Gs:Gd P mg base):FnOk P w K mg base CX0 37 t.a_a t.d_a ["rows","spot","fits"] (f_T K t):=by
 have G_f:FnOk P w K mg base CX0 35 t.a_f t.d_f ["rows"] (sp_f K t):=ok_f T Gs
 have G_k:=@ok_k P w K mg base t T
 have G_w:=@ok_w P w K mg base t T
 have G_l:FnOk P w K mg base CX0 36 t.a_l t.d_l ["form","leads","tops","under"] (sp_l K):=ok_l T Gs
 refine T.F_a.ok sc_a (by walk_at "v") (fun cdv A outer s H vs Q E hr h=>?_)
 ·obtain ⟨b1,b2,a,sp,f,c,cc,ob,pm,ctv,MA,ts,u,d,n,B,rfl,hM,mn,mw,n1,n63,d1,d12,bA,hfit,hP,u0,u90,tl,bts,tt,ef,ec,eo,od,hQ⟩:=h
  have eW:wB=4194304:=rfl
  have eU:uS=1048576:=rfl
  have hB:B<=uS:=(hfit 0 (by omega) (by omega)).1
  refine ⟨_,(a_C (a_L (i:=3) sc_a.nd rfl (Or.inl rfl) (a_K G_f hr.mo rfl T.m_f T.F_f.kp T.b_f .nil a_W (a_A (pv 0) a_B)))
   (a_C (a_L (i:=4) sc_a.nd rfl (Or.inl rfl) (px (pv 3) a_D))
   (a_C (a_L (i:=5) sc_a.nd rfl (Or.inl rfl) (px (pv 3) a_D))
   (a_C (a_L (i:=6) sc_a.nd rfl (Or.inl rfl) (a_K G_k hr.mo rfl T.m_k T.F_k.kp T.b_k .nil a_W (a_A (pv 4) a_B)))
   (a_C (c_q (i:=7) (xs:=["line"]) (fr:=[("spot",1)]) (g:=(a_R 0)) (tt:=(tEl (d_Q (sp_w K) [] E0 (b_O (tVar 0) (b_O (tOp (rIxB K) (tVar 1) (tC (.int 0))) tNil))))) (a_T (sc:=a_G s_a) (N:=N_a) rfl rfl (by decide +kernel)) rfl sc_a.nd rfl rfl (c_r (pv 5)) (fun _ _ _ hE1=>(b_z (N:=["line","spot"]) (i:=0) hE1 rfl (by decide +kernel))) (fun _ _ _ hE1=>(c_g (a_K G_w hr.mo rfl T.m_w T.F_w.kp T.b_w .nil a_W (a_A (pv 0) (a_A (px (pv 1) a_D) a_B))))))
   (a_C (c_Z PassesOwn.never rfl (e_X rfl T.z_range (a_A (a_J a_U rfl T.z_len (by decide +kernel) (a_A (pv 6) a_B)) (a_A (a_J a_U rfl T.z_len (by decide +kernel) (a_A (pv 4) a_B)) a_B))) (b_N (i:=8) sc_a.nd rfl (Or.inl rfl))
   (a_I (b_W (e_V (c_C (k_l (x := "top") (z := "spot") (qual := "whole_met.<locals>.<lambda>") (params:=lamP a_M) (body:=lamB a_M) (scope:=lamS a_M) (i:=2) f_J ⟨rfl,rfl,fun _ _ _ _ _ _ _ _=>rfl⟩ hr.depth rfl (Or.inl rfl) (px (pv 7) (pv 8)) (te:=(tOp (rI0 fun i j=>.bl (decide (i=j))) (tOp (rI (fun _ j=>j≠0) fun i j=>.int (i.fmod j)) (tVar 0) (tOp (rIxB K) (tVar 1) (tC (.int 1)))) (tC (.int 0)))) (fun _ _ _ _ _=>(c_y c_D (a_O b_Q (pv 0) (px (pv 1) a_D)) a_D (a_V _))))))
   (a_I (a_S (d_J (a_A c_Y (a_A (c_l e_s rfl T.z_tuple (by decide +kernel) (a_A (px (pv 5) (pv 8)) a_B)) a_B)))))
   b_y)))
   (a_I (a_S (d_J (a_A c_Y (a_A (a_K G_l hr.mo rfl T.m_l T.F_l.kp T.b_l .nil a_W (a_A (pv 4) (a_A (pv 6) (a_A (pv 7) (a_A (px (pv 1) a_D) a_B))))) a_B))))))))))),?_⟩
  show tSeq _ _ _ [some (.ref a),some (.ref sp),some (.ref f),none,none,none,none,none,none] H
  refine st fun N1 e1=>?_
  walk_at "r"
  refine ⟨b1,b2,a,MA,d,n,B,rfl,hM,mn,mw,n1,n63,by omega,bA,hfit,tt,fun r fo re h3 F R C ks H1 ev1 tt1 er told sta nf=>?_⟩
  obtain ⟨psF,qsR,usC,mfF,mgR,_,_⟩:=told
  have hF:=mfF.l
  have hR:=mgR.l
  have hP1:=e_S hP ev1
  have ef1:H1 f=some (lamO f c "whole_met.<locals>.<lambda>" (lamP a_M) (lamB a_M) (lamS a_M) [("spot",cc)] pm ctv):=ev1.1 _ _ (fun z=>nomatch z) (fun _ z=>by unfold lamO at z; cases z) ef
  have ec1:H1 c=some (c_a c "whole_met.<locals>.<lambda>"):=ev1.1 _ _ (fun z=>nomatch z) (fun _ z=>by unfold c_a at z; cases z) ec
  have eo1:H1 cc=some (b_D cc ob):=ev1.1 _ _ (fun z=>nomatch z) (fun _ z=>by unfold b_D at z; cases z) eo
  subst e1
  refine st fun N1 e1=>?_
  walk_at "r"
  refine ⟨true,r,_,_,_,rfl,rfl,SqB.tup er,rfl,?_⟩
  subst e1
  refine st fun N1 e1=>?_
  walk_at "r"
  refine ⟨true,r,_,_,_,rfl,rfl,SqB.tup er,rfl,?_⟩
  subst e1
  refine st fun N1 e1=>?_
  walk_at "r"
  have fl:=sta.fl
  have rl:=sta.rl
  refine ⟨false,false,fo,F,d,ks,rfl,hF.b,by omega,sta.fw,by omega,⟨by rw [fl]; exact sta.kn,fun i r' e=>⟨fun j ej=>⟨sta.ksK j (zqb ej),by have:=(sta.lead i r' j e ej).1; omega,(sta.lead i r' j e ej).2⟩,fun hi=>sta.zero i r' hi e⟩⟩,fun q H2 s2 hq0 hq=>?_⟩
  show N1 [some (.ref a),some (.ref sp),some (.ref f),some (.ref r),some (.ref fo),some (.ref re),some (.ref q),none,none] H2
  subst e1
  refine st fun N1 e1=>?_
  show c_F _ _ _ [some (.ref a),some (.ref sp),some (.ref f),some (.ref r),some (.ref fo),some (.ref re),some (.ref q),none,none] H2
  simp only [c_F]
  refine a_Y fun B' eB=>?_
  simp only [iSeq]
  walk_at "r"
  obtain ⟨ps,p1,p2,p3⟩:=hR.up s2
  obtain ⟨pt,hP1a,hP1b⟩:=hP1
  refine ⟨false,⟨_,SqB.lst p1⟩,fun tp htp=>?_⟩
  refine c_M (fun j y _=>∃ s',R[j]?=some s'/\y=.int (dotI s' ts)) htp (SqB.lst p1) (by rw [zqe,p2,rl]; omega) (fun _ _ _ _ h _=>h) ?_ ?_
  ·intro i v H3 zs ev s3 ez Q' hQ'
   have hin:i < ps.length:=by have:=(zqa ev).1; simpa using this
   obtain ⟨p',hp'⟩:∃ p',ps[i]?=some p':=⟨_,zqd hin⟩
   obtain ⟨r',er'⟩:∃ r',R[i]?=some r':=⟨_,zqd (by omega)⟩
   rw [List.getElem?_map,hp'] at ev
   cases ev
   subst eB
   show d_Q _ _ _ _ [some (.ref p'),some (.ref sp)] H3 Q'
   walk_at "r"
   refine ⟨true,sp,_,_,_,rfl,rfl,SqB.tup (s3 _ _ (s2 _ _ hP1a)),rfl,?_⟩
   refine ⟨false,true,p',pt,r',ts,rfl,SqB.lst (s3 _ _ (p3 i p' r' hp' er').2),SqB.tup (s3 _ _ (s2 _ _ hP1b)),by rw [sta.rw r' (zqb er'),tl],by rw [sta.rw r' (zqb er')]; omega,fun _ m n e1 e2=>mulOk_of_bits (b_m (sta.br r' (zqb er') m (zqb e1))) (b_m (bts n (zqb e2))) (by omega),fun H4 s4=>?_⟩
   exact hQ' _ _ s4 ⟨r',er',rfl⟩
  ·intro H3 zs s3 ez hlz hr3
   have ey:zs=(R.map fun s'=>dotI s' ts).map V.int:=by
    refine c_k (by rw [hlz,zqe,zqe,p2]) fun j y e=>?_
    obtain ⟨s',es,rfl⟩:=hr3 j y e
    exact ⟨_,by rw [List.getElem?_map,es]; rfl,rfl⟩
   subst ey
   have sam:=s2.trans s3
   have hF3:=hF.up sam
   have hR3:=hR.up sam
   have tt3:TT K t H3:=(a_P (S:=[]) sam).2 tt1
   have ev3:Ev K t [] H H3:=ev1.trans (a_P sam)
   have ef3:=sam _ _ ef1
   have ec3:=sam _ _ ec1
   have eo3:=sam _ _ eo1
   have hsp3:=sam _ _ hP1a
   obtain ⟨qs,hq1,hq2,hq3⟩:=hq
   have hqS:SqB false K H3 q (qs.map V.ref):=SqB.lst (s3 _ _ hq1)
   show N1 [some (.ref a),some (.ref sp),some (.ref f),some (.ref r),some (.ref fo),some (.ref re),some (.ref q),some (.ref tp),none] H3
   subst e1
   refine st fun N1 e1=>d_z fun B' eB=>?_
   simp only [j_i]
   walk_at "r"
   refine ⟨false,q,_,rfl,hqS,?_⟩
   rw [zqe,hq2]
   refine e_u (hF3.b (K:=K)) ?_
   rw [fl]
   have kn:=sta.kn
   walk_at "r"
   refine ⟨by omega,by omega,by omega,by omega,?_⟩
   refine e_f (g:=a_R 8) (tb:=B') (fun i σ H4=>∃ v8,σ=[some (.ref a),some (.ref sp),some (.ref f),some (.ref r),some (.ref fo),some (.ref re),some (.ref q),some (.ref tp),v8]/\H4=H3/\∀ (m:Nat) s',ks.length<=m->m < ks.length+i->R[m]?=some s'->u∣dotI s' ts) ⟨none,rfl,rfl,fun m _ h1 h2=>by omega⟩ ?_ ?_
   ·rintro i σ H4 hi ⟨v8,rfl,rfl,hz⟩
    obtain ⟨s',es⟩:∃ s',R[ks.length+i]?=some s':=⟨_,zqd (by omega)⟩
    subst eB
    show tIfS _ _ _ _ [some (.ref a),some (.ref sp),some (.ref f),some (.ref r),some (.ref fo),some (.ref re),some (.ref q),some (.ref tp),some (.int ((ks.length:Int)+i))] H4
    simp only [tIfS,tNot,tB,j_C]
    refine ⟨f,c,pm,ctv,cc,ob,sp,rfl,od,?_⟩
    walk_at "r"
    refine ⟨false,tp,_,_,_,rfl,rfl,SqB.lst ez,b_H (k:=ks.length+i) (show ((R.map fun s'=>dotI s' ts).map V.int)[ks.length+i]?=some (.int (dotI s' ts)) by rw [List.getElem?_map,List.getElem?_map,es]; rfl) (by omega),ef3,ec3,eo3,?_⟩
    refine ⟨true,sp,_,_,_,rfl,rfl,SqB.tup (show offC H4 cc sp=some (.tup [.ref pt,.int u]) by rw [b_E (fun z=>by rw [z,eo3] at hsp3; unfold b_D at hsp3; cases hsp3)]; exact hsp3),rfl,_,_,rfl,rfl,(show u≠0 by omega),?_⟩
    walk_at "r"
    rw [l_r eo3]
    by_cases h0:u∣dotI s' ts
    ·rw [decide_eq_true (Int.fmod_eq_zero_of_dvd h0)]
     refine iteF ?_
     refine ⟨rfl,fun m s'' h1 h2 e=>?_⟩
     rcases Nat.lt_or_ge m (ks.length+i) with w1 | w1
     ·exact hz m s'' h1 w1 e
     ·rw [show m=ks.length+i by omega,es] at e; cases e; exact h0
    ·rw [decide_eq_false (fun z=>h0 (Int.dvd_of_fmod_eq_zero z))]
     refine iteT ?_
     obtain ⟨rs,r1,r2,r3⟩:=id hR3
     obtain ⟨p',hp'⟩:∃ p',rs[ks.length+i]?=some p':=⟨_,zqd (by omega)⟩
     refine ⟨false,re,_,_,_,rfl,rfl,SqB.lst r1,b_H (k:=ks.length+i) (show (rs.map V.ref)[ks.length+i]?=some (.ref p') by rw [List.getElem?_map,hp']; rfl) (by omega),p',_,rfl,.inl ⟨SqL.of (r3 _ p' s' hp' es).2,fun tu htu=>?_⟩⟩
     have s5:=Same.new (o:=.tup (s'.map V.int)) htu
     refine ⟨by show 2<=sizeLine; decide,fun z hz'=>?_⟩
     have s6:=s5.trans (Same.new (o:=.tup [.str "row",.ref tu]) hz')
     have eF':F[ks.length+i]?=some F[ks.length+i]:=zqd (by omega)
     refine hQ _ _ (ev3.trans (a_P s6)) ((a_P (S:=[]) s6).2 tt3) ⟨z,rfl,.inr ⟨tu,s',a_F,?_,sta.rw s' (zqb es),fun x hx=>Nat.le_trans (sta.br s' (zqb es) x hx) (Nat.pow_le_pow_right (by decide) (by omega)),fun k hk=>?_,h0⟩⟩
     ·rw [a_E (a_H a_F hz'),a_F]
     ·have e:=sta.lin _ _ _ eF' es
      have zk:=sta.zero _ _ (Nat.le_add_right _ _) eF' k
      rw [e] at zk
      unfold rowT c_e at zk
      rw [List.map_map,zqc,List.getElem?_map,List.getElem?_range hk] at zk
      exact zk
   ·rintro σ H4 ⟨v8,rfl,rfl,hz⟩
    subst e1
    walk_at "r"
    have lead3:∀ (i:Nat) r j,F[i]?=some r->ks[i]?=some j->0 < r.getD j 0:=fun i r j h1 h2=>(sta.lead i r j h1 h2).1
    have sp0:=h_M lead3 (by rw [fl]; exact kn) ks.length (Nat.le_refl _)
    refine ⟨true,sp,_,_,_,rfl,rfl,SqB.tup hsp3,rfl,?_⟩
    have wF:BdM (2 ^ wB) F:=fun r' hr' z hz'=>Nat.le_trans (sta.bf r' hr' z hz') (Nat.pow_le_pow_right (by decide) (by omega))
    have wT:BdM (2 ^ wB) [R.map fun s'=>dotI s' ts]:=fun r' hr' z hz'=>by
     rw [List.mem_singleton.mp hr'] at hz'
     obtain ⟨s',hs',rfl⟩:=List.mem_map.mp hz'
     have b:=h_L s' ts (sta.br s' hs') bts
     refine Nat.le_trans b ?_
     rw [sta.rw s' hs',← Nat.pow_add]
     refine Nat.le_trans (Nat.mul_le_mul_right _ (show n<=2 ^ 6 by omega)) ?_
     rw [← Nat.pow_add]
     exact Nat.pow_le_pow_right (by decide) (by omega)
    refine ⟨false,false,false,fo,q,tp,F,d,n,ks,R.map fun s'=>dotI s' ts,u,rfl,hF3.b,⟨qs,s3 _ _ hq1,hq2,fun i p j h1 h2=>s3 _ _ (hq3 i p j h1 h2)⟩,SqB.lst ez,fl,sta.fw,by rw [zqe]; exact rl,n1,n63,d1,d12,kn,sta.ksS,sta.ksK,sta.lead,by omega,Nat.le_trans u90 (Nat.pow_le_pow_right (by decide) (by omega)),wF,wT,fun p H5 ns s5 hp nl nb neq=>?_⟩
    ·refine ⟨by show 2<=sizeLine; decide,fun z hz'=>?_⟩
     have s6:=s5.trans (Same.new (o:=.tup [.str "place",.ref p]) hz')
     have pos:0 < u*scl F ks ks.length:=Int.mul_pos u0 sp0
     have rle:=j_S ns pos
     have key:=j_c (mm:=u) mn mw sta tl nl (S:=scl F ks ks.length) (fun i r' s' hi h1 h2=>neq i r' _ hi h1 (by rw [List.getElem?_map,h2]; rfl)) fun i s' hi h2=>hz i s' hi (by have:=(zqa h2).1; omega) h2
     refine hQ _ _ (ev3.trans (a_P s6)) ((a_P (S:=[]) s6).2 tt3) ⟨z,rfl,.inl ⟨p,_,_,a_F,hp.up (Same.new hz'),rle.1,?_,l_z (by omega),by unfold redT; rw [zqe]; exact nl,g_d (by omega) nb,fun i row x h1 h2=>?_⟩⟩
     ·have h1:(u*scl F ks ks.length).natAbs<=2 ^ (13*wB):=by
       rw [Int.natAbs_mul]
       have kl:ks.length<=d:=g_c sta.ksS sta.ksK
       have h2:=f_G (ks:=ks) wF ks.length
       have h3:ks.length*wB<=12*wB:=Nat.mul_le_mul_right _ (by omega)
       refine Nat.le_trans (Nat.mul_le_mul (Nat.le_trans u90 (Nat.pow_le_pow_right (by decide) (show 90<=wB by omega))) (Nat.le_trans h2 (Nat.pow_le_pow_right (by decide) h3))) ?_
       rw [← Nat.pow_add]
       exact Nat.pow_le_pow_right (by decide) (by omega)
      have h2:(redU (u*scl F ks ks.length) ns).natAbs<=(u*scl F ks ks.length).natAbs:=by omega
      exact Nat.le_trans h2 h1
     ·exact n_G (S:=scl F ks ks.length) (ns:=ns) (by unfold redT; rw [zqe]) (by omega) (key i row x h1 h2) fun i a b h3 h4=>h_i (by omega) h3 h4
theorem ok_j (T:Txt K mg t):FnOk P w K mg base CX0 1 t.a_j t.d_j ["one"] (sp_j K):=by
 refine T.F_j.ok sc_j (by walk_at "v") (fun cdv A outer s H vs Q E hr h=>?_)
 ·obtain ⟨p,ns,u,rfl,hP,hl,hu,hQ⟩:=h
  refine ⟨_,(a_C (a_L (i:=1) sc_j.nd rfl (Or.inr rfl) (px (pv 0) a_D))
   (a_I (a_S (d_J (a_A (c_l e_s rfl T.z_tuple (by decide +kernel) (a_A (b_G (xs:=["top"]) (fr:=[("under",1)]) (g:=(a_R 0)) (tt:=(tEl (tOp (rI (fun _ j=>j≠0) fun i j=>.int (i.fmod j)) (tVar 0) (tVar 1)))) (a_T (sc:=a_G s_j) (N:=N_j) rfl rfl (by decide +kernel)) rfl (c_r (px (pv 0) a_D)) (fun _ _ _ hE1=>(b_z (N:=["top","under"]) (i:=0) hE1 rfl (by decide +kernel))) (fun _ _ _ hE1=>(c_g (a_O b_Q (pv 0) (pv 1))))) a_B)) (a_A (pv 1) a_B)))))),?_⟩
  show tSeq _ _ _ [some (.ref p),none] H
  refine st fun N1 e1=>?_
  walk_at "r"
  refine f_N hP ?_
  subst e1
  walk_at "r"
  refine a_Y fun B eB=>?_
  simp only [iSeq]
  walk_at "r"
  refine h_h hP fun x hx=>⟨true,x,rfl,⟨_,SqB.tup hx⟩,fun a1 ha1=>c_M (fun j y _=>∃ n,ns[j]?=some n/\y=.int (n.fmod u)) ha1 (SqB.tup hx) (by rw [zqe]; omega) (fun _ _ _ _ r _=>r) ?_ ?_⟩
  ·intro i x H1 zs hx _ _ Q' hQ'
   obtain ⟨n,hn,rfl⟩:=b_Z hx
   subst eB
   show tOp _ _ _ [some (.int n),some (.int u)] H1 Q'
   walk_at "r"
   exact ⟨by omega,hQ' _ H1 (Same.refl _) ⟨n,hn,rfl⟩⟩
  ·intro H1 ys s1 e1 hly hr2
   have ey:ys=(d_E u ns).map V.int:=by
    unfold d_E
    rw [List.map_map]
    exact c_k (by simpa using hly) hr2
   subst ey
   refine ⟨a1,_,rfl,.inl ⟨SqL.of e1,fun l hl1=>?_⟩⟩
   refine ⟨(by show 2<=sizeLine; decide),fun p' hp'=>hQ p' _ ((s1.trans (Same.new hl1)).trans (Same.new hp')) ⟨l,a_F,?_⟩⟩
   rw [a_E (a_H a_F hp')]
   exact a_F
theorem ok_u (T:Txt K mg t) (Gs:Gd P mg base):FnOk P w K mg base (CX1 P w) 38 t.a_u t.d_u ["rows","tops","under"] (sp_u K t):=by
 have G_a:FnOk P w K mg base CX0 37 t.a_a t.d_a ["rows","spot","fits"] (sp_a K t):=ok_a T Gs
 have G_q:FnOk P w K mg base (CX1 P w) 34 t.a_q t.d_q ["tops","under"] (sp_q K t.a_8):=ok_q T Gs
 have Bm:=Gs.bm
 refine T.F_u.okLX T.tb_u sc_u (fun vs H Q E h=>?_) (fun A outer s H vs Q E hr h=>?_)
 ·obtain ⟨b1,b2,b3,a,tp,A,ts,u,d,n,B,rfl,_⟩:=h
  rfl
 ·obtain ⟨b1,b2,b3,a,tp,MA,ts,u,d,n,B,rfl,hM,hT,mn,mw,n1,n63,d1,d12,bA,hfit,u90,tl,bts,tt,hE,hQ⟩:=h
  refine ⟨_,(a_I (a_S (a_K G_a hr.mo rfl T.m_a T.F_a.kp T.b_a .nil a_W (a_A (pv 0) (a_A (e_G G_q hr.mo rfl T.m_q T.F_q.kp T.b_q .nil g_X (a_A (pv 1) (a_A (pv 2) a_B))) (a_A (i_U (x := "top") (fr:=[]) (qual := "met.<locals>.<lambda>") (f0:=t.a_u) (g_a (sc:=a_G s_u) (N:=N_u) rfl rfl (by decide +kernel)) T.tb_u rfl Bm) a_B)))))),?_⟩
  show tRet _ _ [some (.ref a),some (.ref tp),some (.int u)] H
  simp only [g_o]
  walk_at "r"
  refine ⟨b3,tp,ts,u,rfl,hT,by omega,fun z=>hE ?_,fun u0 _ p H1 s1 hp=>?_⟩
  ·rcases z with z | z
   ·exact z
   ·rw [z] at tl; simp at tl; omega
  ·obtain ⟨r1,r2⟩:=i_r ts u0
   have tt1:=(a_P (K:=K) (t:=t) (S:=[]) s1).2 tt
   refine ⟨tt1.m,fun f c pm ctv H2 sp hf e1 e2 e3=>?_⟩
   obtain ⟨ev2,tt2⟩:=tt1.meet sp (.inr ⟨c,e3,e2⟩)
   have ev:Ev K t [] H H2:=(a_P s1).trans ev2
   exact ⟨b1,b2,a,p,f,c,pm,ctv,MA,redT u ts,redU u ts,d,n,B,rfl,j_P hM ev,mn,mw,n1,n63,d1,d12,bA,hfit,e_S hp ev2,r1,Nat.le_trans r2 u90,by unfold redT; rw [zqe]; exact tl,g_d u0 bts,tt2,e1,e2,fun v H3 ev3 tt3 hm=>hQ u0 v H3 (ev.trans ev3) tt3 hm⟩
theorem c_B {H:Hp} {b c:Addr} {o:HO} {ob:Obj} (n:H c=some (b_D c ob)) (e:H b=some o) (h:∀ x y,o≠.frz x y):offC H c b=some o:=by
 rw [b_E (fun z=>by rw [z,n] at e; cases e; exact h _ _ rfl)]; exact e
theorem TT.off {K:Frag} {t:Adr} {H:Hp} {c:Addr} {ob:Obj} (T:TT K t H) (n:H c=some (b_D c ob)):TT K t (offC H c):=by
 have one:∀ {P:Addr} {pos:Pos} {q:Str},c_t H P pos q->c_t (offC H c) P pos q:=fun {P pos q} h=>by
  rcases h with h | ⟨d,h1,h2⟩
  ·exact .inl (c_B n h (fun _ _ z=>by cases z))
  ·exact .inr ⟨d,c_B n h1 (fun _ _ z=>by cases z),c_B n h2 (fun _ _ z=>by unfold c_a at z; cases z)⟩
 exact ⟨one T.r,one T.m,one T.w,T.ne,T.nw,T.mw⟩
theorem c_H.off {H:Hp} {c:Addr} {ob:Obj} {v:V} {A:LM} {ts:List Int} {u mm:Int} {d n:Nat} (h:c_H H v A ts u mm d n) (hc:H c=some (b_D c ob)):c_H (offC H c) v A ts u mm d n:=by
 obtain ⟨r,rfl,h⟩:=h
 refine ⟨r,rfl,?_⟩
 rcases h with ⟨p,ns,w,h1,⟨x,h2,h3⟩,h4⟩ | ⟨p,ns,h1,h2,h4⟩
 ·exact .inl ⟨p,ns,w,c_B hc h1 (fun _ _ z=>by cases z),⟨x,c_B hc h2 (fun _ _ z=>by cases z),c_B hc h3 (fun _ _ z=>by cases z)⟩,h4⟩
 ·exact .inr ⟨p,ns,c_B hc h1 (fun _ _ z=>by cases z),c_B hc h2 (fun _ _ z=>by cases z),h4⟩
theorem ok_1 (T:Txt K mg t) (Gs:Gd P mg base):FnOk P w K mg base (CX1 P w) 38 t.a_1 t.d_1 ["rows","tops","under"] (sp_1 K t):=by
 have G_a:FnOk P w K mg base CX0 37 t.a_a t.d_a ["rows","spot","fits"] (f_T K t):=o_U T Gs
 have G_q:FnOk P w K mg base (CX1 P w) 34 t.a_q t.d_q ["tops","under"] (sp_q K t.a_8):=ok_q T Gs
 have G_j:=@ok_j P w K mg base t T
 have Bm:=Gs.bm
 refine T.F_1.okLX T.tb_1 sc_1 (fun vs H Q E h=>?_) (fun A outer s H vs Q E hr h=>?_)
 ·obtain ⟨b1,b2,b3,a,tp,A,ts,u,d,n,B,rfl,_⟩:=h
  rfl
 ·obtain ⟨b1,b2,b3,a,tp,MA,ts,u,d,n,B,rfl,hM,hT,mn,mw,n1,n63,d1,d12,bA,hfit,u90,tl,bts,tt,hE,hQ⟩:=h
  refine ⟨_,(a_C (a_L (i:=3) sc_1.nd rfl (Or.inr rfl) (e_G G_q hr.mo rfl T.m_q T.F_q.kp T.b_q .nil g_X (a_A (pv 1) (a_A (pv 2) a_B))))
   (a_C (a_L (i:=4) sc_1.nd rfl (Or.inl rfl) (l_u (E:=E0) (i:=3) (y := "spot") (names:=(lamS a_M).names) rfl (Or.inr (Or.inl rfl)) rfl rfl rfl G_a hr.mo rfl T.m_a T.F_a.kp T.b_a (a_A (pv 0) (a_A (pv 3) (a_A (i_U (x := "top") (fr:=[("spot",3)]) (qual := "whole_met.<locals>.<lambda>") (f0:=t.a_1) (g_a (sc:=a_G s_1) (N:=N_1) rfl rfl (by decide +kernel)) T.tb_1 rfl Bm) a_B)))))
   (a_C (b_W (a_X k_z (px (pv 4) a_D) c_Y (a_V _))
   (a_I (a_S (pv 4)))
   b_y)
   (a_I (a_S (d_J (a_A c_Y (a_A (a_K G_j hr.mo rfl T.m_j T.F_j.kp T.b_j .nil a_W (a_A (px (pv 4) a_D) a_B)) a_B)))))))),?_⟩
  show tSeq _ _ _ [some (.ref a),some (.ref tp),some (.int u),none,none] H
  refine st fun N1 e1=>?_
  simp only [g_o]
  walk_at "r"
  refine ⟨b3,tp,ts,u,rfl,hT,by omega,fun z=>hE ?_,fun u0 _ p H1 s1 hp=>?_⟩
  ·rcases z with z | z
   ·exact z
   ·rw [z] at tl; simp at tl; omega
  ·obtain ⟨r1,r2⟩:=i_r ts u0
   have tt1:=(a_P (K:=K) (t:=t) (S:=[]) s1).2 tt
   show N1 [some (.ref a),some (.ref tp),some (.int u),some (.ref p),none] H1
   subst e1
   refine st fun N1 e1=>?_
   walk_at "r"
   simp only [l_t]
   walk_at "r"
   refine ⟨tt1.w,fun f c pm ctv H2 sp hf g1 g2 g3 cc ob od ecl hcc=>?_⟩
   have e1':H2 f=some (lamO f c "whole_met.<locals>.<lambda>" (lamP a_M) (lamB a_M) (lamS a_M) [("spot",cc)] pm ctv):=g1.trans (congrArg (fun cl=>some (lamO f c "whole_met.<locals>.<lambda>" (lamP a_M) (lamB a_M) (lamS a_M) cl pm ctv)) ecl)
   obtain ⟨ev2,tt2⟩:=tt1.whole sp (.inr ⟨c,g3,g2⟩)
   have s3:Same H2 (upd H2 cc (b_D cc ob)):=Same.new hcc
   have ev:Ev K t [] H (upd H2 cc (b_D cc ob)):=((a_P s1).trans ev2).trans (a_P s3)
   have tt3:TT K t (upd H2 cc (b_D cc ob)):=(a_P (S:=[]) s3).2 tt2
   refine ⟨b1,b2,a,p,f,c,cc,ob,pm,ctv,MA,redT u ts,redU u ts,d,n,B,rfl,j_P hM ev,mn,mw,n1,n63,d1,d12,bA,hfit,e_S hp (ev2.trans (a_P s3)),r1,Nat.le_trans r2 u90,by unfold redT; rw [zqe]; exact tl,g_d u0 bts,tt3,s3 _ _ e1',s3 _ _ g2,a_F,od,fun v H3 ev3 tt4 hm=>?_⟩
   have ec3:H3 cc=some (b_D cc ob):=ev3.1 _ _ (fun z=>nomatch z) (fun _ z=>by unfold b_D at z; cases z) a_F
   refine ⟨ec3,?_⟩
   have tt5:=tt4.off ec3
   have hm5:=hm.off ec3
   have ev5:Ev K t [] H (offC H3 cc):=((a_P s1).trans ev2).trans ⟨fun b o _ h2 e=>by
    rw [b_E (a_H e hcc)]
    exact ev3.1 _ _ (fun z=>nomatch z) h2 (s3 _ _ e),fun _=>tt5⟩
   clear hm tt4 ec3 ev3
   generalize offC H3 cc=H4 at tt5 hm5 ev5 ⊢
   obtain ⟨r,rfl,hm5⟩:=hm5
   subst e1
   refine st fun N1 e1=>?_
   walk_at "r"
   rcases hm5 with ⟨pp,ns,w,h1,h2,w0,wb,hg,nl,nb,heq⟩ | ⟨pp,ns,h1,h2,nl,nb,hz,hn⟩
   ·refine ⟨true,r,_,_,_,rfl,rfl,SqB.tup h1,rfl,rfl,?_⟩
    refine ⟨_,rfl,iteF ?_⟩
    subst e1
    walk_at "r"
    refine ⟨true,r,_,_,_,rfl,rfl,SqB.tup h1,rfl,?_⟩
    refine ⟨pp,ns,w,rfl,h2,by omega,w0,fun p' H5 s5 hp'=>?_⟩
    refine ⟨by show 2<=sizeLine; decide,fun z hz'=>?_⟩
    have s6:=s5.trans (Same.new (o:=.tup [.str "place",.ref p']) hz')
    refine hQ u0 _ _ (ev5.trans (a_P s6)) ((a_P (S:=[]) s6).2 tt5) ⟨z,rfl,.inl ⟨p',d_E w ns,w,a_F,hp'.up (Same.new hz'),w0,wb,(m_W w ns).trans hg,by unfold d_E; rw [zqe]; exact nl,fun z hz=>?_,fun i row x er ex=>?_⟩⟩
    ·unfold d_E at hz
     obtain ⟨x,_,rfl⟩:=List.mem_map.mp hz
     have f2:=Int.fmod_nonneg_of_pos x w0
     have f3:=Int.fmod_lt_of_pos x w0
     exact Nat.le_trans (show (x.fmod w).natAbs<=w.natAbs by omega) (Nat.le_trans wb (Nat.pow_le_pow_right (by decide) (by decide)))
    ·obtain ⟨y,hy⟩:=heq i row x er ex
     obtain ⟨y2,hy2⟩:=i_p (w:=w) row ns
     have e5:dotI row (d_E w ns)=dotI row ns - w*y2:=by omega
     exact ⟨y - y2,by rw [e5]; grind⟩
   ·refine ⟨true,r,_,_,_,rfl,rfl,SqB.tup h1,rfl,rfl,?_⟩
    refine ⟨_,rfl,iteT ?_⟩
    exact hQ u0 _ _ ev5 tt5 ⟨r,rfl,.inr ⟨pp,ns,h1,h2,nl,nb,hz,hn⟩⟩
theorem h_O {a b:Int} (h:-100000<=a) (h':a<=100000):IntMulOk a b:=IntMulOk.of_left (intBits_le_64 (by omega) (by omega))
theorem l_Q {a b:Int} (h:-100000<=b) (h':b<=100000):IntMulOk a b:=IntMulOk.of_right (intBits_le_64 (by omega) (by omega))
theorem o_V {x y:Int} (h1:y≠0) (h2:y.natAbs < 2 ^ 8990):k_O x y:=⟨h1,Nat.lt_of_lt_of_le ((Nat.log2_lt (by omega)).mpr h2) (by decide)⟩
theorem dv_s {x y:Int} (h1:0 < y) (h2:y < 10000000000):k_O x y:=o_V (by omega) (Nat.lt_of_lt_of_le (show y.natAbs < 2 ^ 40 by omega) (Nat.pow_le_pow_right (by decide) (by decide)))
theorem i_t {ns:List Int} {k:Int} (h0:0<=k) (h1:k < ns.length):atI (ns.map V.int) k=some (.int (ns.getD k.toNat 0)):=by
 obtain ⟨j,rfl⟩:=Int.eq_ofNat_of_zero_le h0
 exact b_H (c_N (b_R (by omega))) rfl
noncomputable def sp_o (K:Frag):Sp:=fun vs H Q _=>∃ (p:Addr) (ns:List Int) (k:Int),vs=[.ref p,.int k]/\SqL K H p (ns.map V.int)/\0<=k/\Q (.int (ns.getD k.toNat 0)) H
noncomputable def nbW:Nat->Nat
 | 0=>1
 | 1=>4
 | 2=>30
 | 3=>200
 | _=>4
noncomputable def moW:Nat->Int
 | 0=>2
 | 1=>9
 | 2=>10 ^ 9
 | 3=>10 ^ 60
 | _=>2
noncomputable def faW:Nat->Int
 | 4=>6
 | _=>1
noncomputable def sp_i:Sp:=fun vs H Q _=>∃ (c:Int) (w:Nat),vs=[.int c,.int w]/\w < 5/\∀ z H',Same H H'->z.natAbs<=2 ^ nbW w->Q (.int z) H'
theorem ok_o (T:Txt K mg t):FnOk P w K mg base CX0 1 t.a_o t.d_o ["_law_script","_law_k"] (sp_o K):=by
 refine T.F_o.ok sc_o (by walk_at "v") (fun cdv A outer s H vs Q E hr h=>?_)
 ·obtain ⟨p,ns,k,rfl,hS,h0,q⟩:=h
  refine ⟨_,(a_I (a_S (h_Q (a_X h_V (pv 1) (a_J a_U rfl T.z_len (by decide +kernel) (a_A (pv 0) a_B)) (a_V _)) (px (pv 0) (pv 1)) a_D))),?_⟩
  show tRet _ _ [some (.ref p),some (.int k)] H
  walk_at "r"
  refine ⟨false,p,_,rfl,hS,?_⟩
  rw [zqe]
  walk_at "r"
  by_cases z:k < ns.length
  ·rw [decide_eq_true z]
   exact iteT ⟨false,p,_,_,_,rfl,rfl,hS,i_t h0 z,q⟩
  ·rw [decide_eq_false z]
   refine iteF ?_
   have e:ns.getD k.toNat 0=0:=by
    rw [zqc,List.getElem?_eq_none (by omega)]
    rfl
   rw [e] at q
   exact q
theorem o_H {c:Int} {w:Nat} (h:w < 5):(((c+moW w).fmod (2*moW w+1) - moW w)*faW w).natAbs<=2 ^ nbW w/\0 < 2*moW w+1:=by
 have key:∀ (m f:Int) (B:Nat),0 < m->0 < f->(m*f).natAbs<=2 ^ B->(((c+m).fmod (2*m+1) - m)*f).natAbs<=2 ^ B/\0 < 2*m+1:=fun m f B hm hf hB=>by
  have f2:=Int.fmod_nonneg_of_pos (c+m) (show 0 < 2*m+1 by omega)
  have f3:=Int.fmod_lt_of_pos (c+m) (show 0 < 2*m+1 by omega)
  refine ⟨?_,by omega⟩
  rw [Int.natAbs_mul] at hB ⊢
  exact Nat.le_trans (Nat.mul_le_mul_right _ (by omega)) hB
 match w,h with
 | 0,_=>exact key 2 1 1 (by decide) (by decide) (by decide)
 | 1,_=>exact key 9 1 4 (by decide) (by decide) (by decide)
 | 2,_=>exact key (10 ^ 9) 1 30 (by decide) (by decide) (by decide)
 | 3,_=>exact key (10 ^ 60) 1 200 (by decide +kernel) (by decide) (by decide +kernel)
 | 4,_=>exact key 2 6 4 (by decide) (by decide) (by decide)
theorem ok_i (T:Txt K mg t):FnOk P w K mg base CX0 1 t.a_i t.d_i ["_law_cell_here","_law_way"] sp_i:=by
 refine T.F_i.ok sc_i (by walk_at "v") (fun cdv A outer s H vs Q E hr h=>?_)
 ·obtain ⟨c,w,rfl,hw,q⟩:=h
  refine ⟨_,(a_C (a_L (i:=2) sc_i.nd rfl (Or.inl rfl) (px (c_L (a_A a_D (a_A a_D (a_A (a_O k_y a_D a_D) (a_A (a_O k_y a_D a_D) (a_A a_D a_B)))))) (pv 1)))
   (a_C (a_L (i:=3) sc_i.nd rfl (Or.inl rfl) (a_O d_m (a_O b_Q (a_O c_K (pv 0) (pv 2)) (a_O c_K (a_O b_P a_D (pv 2)) a_D)) (pv 2)))
   (a_I (a_S (a_O b_P (pv 3) (px (c_L (a_A a_D (a_A a_D (a_A a_D (a_A a_D (a_A a_D a_B)))))) (pv 1))))))),?_⟩
  show tSeq _ _ _ [some (.int c),some (.int w),none,none] H
  obtain ⟨n1,n2⟩:=o_H (c:=c) hw
  refine st fun N1 e1=>?_
  walk_at "r"
  refine ⟨⟨by decide,by decide,by decide⟩,⟨by decide,by decide,by decide⟩,(by show 5<=sizeLine; decide),fun l hl1=>?_⟩
  have ix:∀ {k:Nat},k < 5->atI [V.int 2,.int 9,.int (10 ^ Int.toNat 9),.int (10 ^ Int.toNat 60),.int 2] (k:Int)=some (.int (moW k)):=fun {k} hk=>match k,hk with
   | 0,_=>rfl
   | 1,_=>rfl
   | 2,_=>rfl
   | 3,_=>rfl
   | 4,_=>rfl
  have ix2:∀ {k:Nat},k < 5->atI [V.int 1,.int 1,.int 1,.int 1,.int 6] (k:Int)=some (.int (faW k)):=fun {k} hk=>match k,hk with
   | 0,_=>rfl
   | 1,_=>rfl
   | 2,_=>rfl
   | 3,_=>rfl
   | 4,_=>rfl
  have fa:-100000<=faW w/\faW w<=100000:=by unfold faW; split <;> omega
  have s1:Same H (upd H l (.lst [V.int 2,.int 9,.int (10 ^ Int.toNat 9),.int (10 ^ Int.toNat 60),.int 2])):=Same.new hl1
  refine ⟨false,l,_,_,_,rfl,rfl,SqB.lst a_F,ix hw,?_⟩
  generalize upd H l (.lst [V.int 2,.int 9,.int (10 ^ Int.toNat 9),.int (10 ^ Int.toNat 60),.int 2])=H1 at s1
  generalize moW w=m at *
  subst e1
  refine st fun N1 e1=>?_
  walk_at "r"
  refine ⟨IntMulOk.of_left (by decide),by omega,?_⟩
  subst e1
  walk_at "r"
  refine ⟨(by show 5<=sizeLine; decide),fun l2 hl2=>?_⟩
  refine ⟨false,l2,_,_,_,rfl,rfl,SqB.lst a_F,ix2 hw,_,_,rfl,rfl,l_Q fa.1 fa.2,?_⟩
  exact q _ _ (s1.trans (Same.new hl2)) n1
theorem MatL.nil {H:Hp} {l:Addr} (h:H l=some (.lst [])):MatL H l []:=⟨[],h,rfl,fun i p r e=>by simp at e⟩
noncomputable def Rws (n d B:Nat) (M:LM):Prop:=M.length=n/\(∀ r∈M,r.length=d)/\BdM (2 ^ B) M
theorem Rws.app {n d B:Nat} {M:LM} {r:List Int} (h:Rws n d B M) (hl:r.length=d) (hb:∀ z∈r,z.natAbs<=2 ^ B):Rws (n+1) d B (M++[r]):=by
 obtain ⟨h1,h2,h3⟩:=h
 refine ⟨by simp [h1],fun r' hr=>?_,fun r' hr=>?_⟩
 ·rcases List.mem_append.mp hr with e | e
  ·exact h2 r' e
  ·rw [List.mem_singleton.mp e]; exact hl
 ·rcases List.mem_append.mp hr with e | e
  ·exact h3 r' e
  ·rw [List.mem_singleton.mp e]; exact hb
theorem l_R (ns:List Int) (j:Nat):∃ ms:List Int,cutV (ns.map V.int) (some 1) (some (1+(j:Int)))=ms.map V.int/\ms.length<=j/\ms.length<=ns.length - 1:=by
 refine ⟨_,g_w ns _ _,?_⟩
 have e0:HT.sIx ns.length 0 (some 1)=min 1 ns.length:=HT.sIx_nat ns.length 0 1
 have e1:HT.sIx ns.length ns.length (some (1+(j:Int)))=min (1+j) ns.length:=by
  rw [show (1+(j:Int))=((1+j:Nat):Int) by omega]
  exact HT.sIx_nat ns.length ns.length (1+j)
 rw [List.length_take,List.length_drop,e0,e1]
 omega
noncomputable def moN:Nat->Nat
 | 2=>4
 | 3=>3
 | _=>40
noncomputable def fitB (n d B:Nat):Bool:=(List.range (min n d+1)).all fun t=>decide (uR n B t<=uS) && decide (cR n B t<=bS)
theorem o_I {n d B:Nat} (h:fitB n d B=true):FitS n d B:=fun t h1 h2=>by
 have:=List.all_eq_true.mp h t (List.mem_range.mpr (by omega))
 have:=Bool.and_eq_true_iff.mp this
 exact ⟨of_decide_eq_true this.1,of_decide_eq_true this.2⟩
theorem k_t:(List.range 5).all (fun w=>(List.range (moN w+1)).all fun n=>(List.range 13).all fun d=>!(decide (n*d<=62) || n == 1) || fitB n d (nbW w+3*n+1))=true:=by decide +kernel
theorem o_W {n d w:Nat} (hw:w < 5) (hn:n<=moN w) (hd:d<=12) (h:n*d<=62\/n=1):FitS n d (nbW w+3*n+1):=by
 have:=List.all_eq_true.mp (List.all_eq_true.mp (List.all_eq_true.mp k_t w (List.mem_range.mpr hw)) n (List.mem_range.mpr (by omega))) d (List.mem_range.mpr (by omega))
 rcases Bool.or_eq_true_iff.mp this with q | q
 ·refine False.elim ?_
  have:(decide (n*d<=62) || n == 1)=true:=by
   rcases h with h | h
   ·rw [decide_eq_true h]; rfl
   ·rw [h]; simp
  rw [this] at q
  cases q
 ·exact o_I q
noncomputable def sp_h (K:Frag):Sp:=fun vs H Q _=>∃ (a:Addr) (ns:List Int),vs=[.ref a]/\SqL K H a (ns.map V.int)/\ns.length<=63 /\
 ∀ r H' A n d B,Same H H'->MatL H' r A->Rws n d B A->FitS n d (B+1)->1<=n->n<=40->1<=d->d<=12->Q (.ref r) H'
noncomputable def Drw (d nb:Nat) (M:LM):Prop:=∀ (i:Nat) r,M[i]?=some r->r.length=d/\∀ z∈r,z.natAbs<=2 ^ (nb+3*i)
theorem Drw.app {d nb:Nat} {M:LM} {r:List Int} (h:Drw d nb M) (hl:r.length=d) (hb:∀ z∈r,z.natAbs<=2 ^ (nb+3*M.length)):Drw d nb (M++[r]):=fun i r' e=>by
 by_cases hi:i < M.length
 ·rw [List.getElem?_append_left hi] at e
  exact h i r' e
 ·have:=(zqa e).1
  have hi2:i=M.length:=by simp at this; omega
  subst hi2
  rw [List.getElem?_append_right (Nat.le_refl _),Nat.sub_self] at e
  cases e
  exact ⟨hl,hb⟩
theorem Drw.rws {d nb n:Nat} {M:LM} (h:Drw d nb M) (hn:M.length=n):Rws n d (nb+3*n) M:=by
 refine ⟨hn,fun r hr=>?_,fun r hr z hz=>?_⟩
 ·obtain ⟨i,hi,rfl⟩:=List.getElem_of_mem hr
  exact (h i _ (zqd hi)).1
 ·obtain ⟨i,hi,rfl⟩:=List.getElem_of_mem hr
  exact Nat.le_trans ((h i _ (zqd hi)).2 z hz) (Nat.pow_le_pow_right (by decide) (by omega))
theorem o_J {E:Nat} {x y m:Int} (hx:x.natAbs<=2 ^ (E+3)) (hy:y.natAbs<=2 ^ E) (hm:m.natAbs<=3):(2*x+m*y).natAbs<=2 ^ (E+3+3):=by
 have h1:=Nat.mul_le_mul hm hy
 have h2:=Int.natAbs_mul m y
 have h3:=Int.natAbs_add_le (2*x) (m*y)
 have e1:2 ^ (E+3)=8*2 ^ E:=by rw [Nat.pow_add]; omega
 have e2:2 ^ (E+3+3)=64*2 ^ E:=by rw [Nat.pow_add,e1]; omega
 omega
noncomputable def RL (H:Hp) (a cl l:Addr) (s d w m:Int) (nb:Nat) (i:Nat) (σ:St) (H2:Hp):Prop:=∃ (v7 v8 v9:Option V) (M:LM),σ=[some (.ref a),some (.int s),some (.int d),some (.int w),some (.int m),some (.ref cl),some (.ref l),v7,v8,v9]/\Same H H2/\MatL H2 l M/\M.length=i/\Drw d.toNat nb M
theorem ok_h (T:Txt K mg t):FnOk P w K mg base CX0 2 t.a_h t.d_h ["_law_script"] (sp_h K):=by
 have G_o:=@ok_o P w K mg base t T
 have G_i:=@ok_i P w K mg base t T
 refine T.F_h.ok sc_h (by walk_at "v") (fun cdv A outer s H vs Q E hr h=>?_)
 ·obtain ⟨a,ns,rfl,hS,n63,hQ⟩:=h
  refine ⟨_,(a_C (a_L (i:=1) sc_h.nd rfl (Or.inl rfl) (a_K G_o hr.mo rfl T.m_o T.F_o.kp T.b_o .nil a_W (a_A (pv 0) (a_A a_D a_B))))
   (a_C (a_L (i:=2) sc_h.nd rfl (Or.inr rfl) (a_O c_K a_D (a_O b_Q (pv 1) a_D)))
   (a_C (b_W (a_X c_D (a_O b_Q (a_O d_Z (pv 1) a_D) a_D) a_D (a_V _))
   (a_I (a_L (i:=2) sc_h.nd rfl (Or.inr rfl) (a_O c_K a_D (a_O b_Q (a_O d_Z (pv 1) a_D) a_D))))
   b_y)
   (a_C (a_L (i:=3) sc_h.nd rfl (Or.inr rfl) (a_O b_Q (a_O d_Z (pv 1) a_D) a_D))
   (a_C (a_L (i:=4) sc_h.nd rfl (Or.inl rfl) (px (c_L (a_A a_D (a_A a_D (a_A a_D (a_A a_D (a_A a_D a_B)))))) (pv 3)))
   (a_C (b_W (PW.pt (h_l (a_X c_D (a_O b_Q (a_O d_Z (pv 1) a_D) a_D) a_D (a_V _)) (f_V (a_X h_V (a_O b_Q (pv 3) a_D) a_D (a_V _)))))
   (a_I (a_L (i:=4) sc_h.nd rfl (Or.inl rfl) a_D))
   b_y)
   (a_C (a_L (i:=5) sc_h.nd rfl (Or.inr rfl) (g_k sl_B (pv 0) (f_Y a_D) (f_Y (a_O c_K a_D (a_O b_P (pv 2) (pv 4))))))
   (a_C (a_L (i:=6) sc_h.nd rfl (Or.inl rfl) (c_L a_B))
   (a_C (c_Z PassesOwn.never rfl (c_f rfl T.z_range (a_A (a_J (j_Y rfl) rfl T.z_max (by decide +kernel) (a_A a_D (a_A (a_O d_Z (a_J a_U rfl T.z_len (by decide +kernel) (a_A (pv 5) a_B)) (pv 2)) a_B))) a_B)) (b_N (i:=7) sc_h.nd rfl (Or.inr rfl))
   (a_C (c_q (i:=8) (xs:=["_law_k"]) (fr:=[("_law_many",2),("_law_way",3),("_law_cells",5),("_law_i",7)]) (g:=(a_R 0)) (tt:=(tEl (d_Q (sp_i) [] E0 (b_O (d_Q (sp_o K) [] E0 (b_O (tVar 3) (b_O (tOp (rI0 fun i j=>.int (i+j)) (tOp (rI (fun i j=>IntMulOk i j) fun i j=>.int (i*j)) (tVar 4) (tVar 1)) (tVar 0)) tNil))) (b_O (tVar 2) tNil))))) (a_T (sc:=a_G s_h) (N:=N_h) rfl rfl (by decide +kernel)) rfl sc_h.nd rfl rfl (c_f rfl T.z_range (a_A (pv 2) a_B)) (fun _ _ _ hE1=>(b_z (N:=["_law_k","_law_many","_law_way","_law_cells","_law_i"]) (i:=0) hE1 rfl (by decide +kernel))) (fun _ _ _ hE1=>(c_g (a_K G_i hr.mo rfl T.m_i T.F_i.kp T.b_i .nil a_W (a_A (a_K G_o hr.mo rfl T.m_o T.F_o.kp T.b_o .nil a_W (a_A (pv 3) (a_A (a_O c_K (a_O b_P (pv 4) (pv 1)) (pv 0)) a_B))) (a_A (pv 2) a_B))))))
   (a_C (b_W (PW.pt (h_l (a_X h_W (pv 7) a_D (a_V _)) (f_V (a_X c_D (a_O b_Q (px (pv 8) a_D) a_D) a_D (a_V _)))))
   (a_C (a_L (i:=9) sc_h.nd rfl (Or.inr rfl) (a_O d_m (a_O b_Q (px (pv 8) (g_O e_Y a_D)) a_D) a_D))
   (a_I (c_q (i:=8) (xs:=["_law_one","_law_other"]) (fr:=[("_law_by",9)]) (g:=(gTup K 2 (c_i (a_R 0) (c_i (a_R 1) gNil)))) (tt:=(tEl (tOp (rI0 fun i j=>.int (i+j)) (tOp (rI (fun i j=>IntMulOk i j) fun i j=>.int (i*j)) (tC (.int 2)) (tVar 0)) (tOp (rI (fun i j=>IntMulOk i j) fun i j=>.int (i*j)) (tVar 2) (tVar 1))))) (a_T (sc:=a_G s_h) (N:=N_h) rfl rfl (by decide +kernel)) rfl sc_h.nd rfl rfl (f_B rfl T.z_zip (a_A (px (pv 6) (a_O d_m (pv 7) a_D)) (a_A (px (pv 6) (a_O d_m (pv 7) a_D)) a_B))) (fun _ _ _ hE1=>(d_T rfl (b_F (b_z (N:=["_law_one","_law_other","_law_by"]) (i:=0) hE1 rfl (by decide +kernel)) (b_F (b_z (N:=["_law_one","_law_other","_law_by"]) (i:=1) hE1 rfl (by decide +kernel)) c_S)))) (fun _ _ _ hE1=>(c_g (a_O c_K (a_O b_P a_D (pv 0)) (a_O b_P (pv 2) (pv 1))))))))
   b_y)
   (a_I (b_L (n_R PySem.F.plainAttrs_list PySem.F.slot_list_append PySem.F.type_list_append f_y (pv 6) (a_A (pv 8) a_B)))))))
   (a_I (a_S (pv 6)))))))))))),?_⟩
  show tSeq _ _ _ [some (.ref a),none,none,none,none,none,none,none,none,none] H
  refine st fun N1 e1=>?_
  walk_at "r"
  refine ⟨a,ns,0,rfl,hS,by decide,?_⟩
  generalize ns.getD (0:Int).toNat 0=s0
  ·subst e1
   refine st fun N1 e1=>?_
   walk_at "r"
   refine ⟨by decide,?_⟩
   have d0:=Int.fmod_nonneg_of_pos s0 (show (0:Int) < 5 by decide)
   have d1:=Int.fmod_lt_of_pos s0 (show (0:Int) < 5 by decide)
   generalize s0.fmod 5=dd at d0 d1
   subst e1
   refine st fun N1 e1=>?_
   have key:∀ dm:Int,1<=dm->dm<=12->N1 [some (.ref a),some (.int s0),some (.int dm),none,none,none,none,none,none,none] H:=by
    intro dm dm1 dm12
    subst e1
    refine st fun N1 e1=>?_
    walk_at "r"
    refine ⟨dv_s (by decide) (by decide),by decide,?_⟩
    have w0:=Int.fmod_nonneg_of_pos (s0.fdiv 280) (show (0:Int) < 5 by decide)
    have w1:=Int.fmod_lt_of_pos (s0.fdiv 280) (show (0:Int) < 5 by decide)
    obtain ⟨w,ew⟩:=Int.eq_ofNat_of_zero_le w0
    rw [ew] at w1 ⊢
    have w5:w < 5:=by omega
    subst e1
    refine st fun N1 e1=>?_
    walk_at "r"
    refine ⟨(by show 5<=sizeLine; decide),fun l0 hl0=>?_⟩
    have s1:Same H (upd H l0 (.lst [V.int 14,.int 10,.int 4,.int 3,.int 8])):=Same.new hl0
    have el0:(upd H l0 (.lst [V.int 14,.int 10,.int 4,.int 3,.int 8])) l0=some (.lst [V.int 14,.int 10,.int 4,.int 3,.int 8]):=a_F
    generalize upd H l0 (.lst [V.int 14,.int 10,.int 4,.int 3,.int 8])=H1 at s1 el0
    obtain ⟨mo,emo,hmo⟩:∃ mo:Nat,atI [V.int 14,.int 10,.int 4,.int 3,.int 8] (w:Int)=some (.int mo)/\mo<=moN w:=match w,w5 with
     | 0,_=>⟨14,rfl,by decide⟩
     | 1,_=>⟨10,rfl,by decide⟩
     | 2,_=>⟨4,rfl,by decide⟩
     | 3,_=>⟨3,rfl,by decide⟩
     | 4,_=>⟨8,rfl,by decide⟩
    refine ⟨false,l0,_,_,_,rfl,rfl,SqB.lst el0,emo,?_⟩
    clear el0 emo
    subst e1
    refine st fun N1 e1=>?_
    have key2:∀ m2:Nat,m2<=moN w->N1 [some (.ref a),some (.int s0),some (.int dm),some (.int (w:Int)),some (.int (m2:Int)),none,none,none,none,none] H1:=by
     intro m2 hm2
     obtain ⟨D,rfl⟩:=Int.eq_ofNat_of_zero_le (show 0<=dm by omega)
     have moN40:moN w<=40:=by unfold moN; split <;> omega
     subst e1
     refine st fun N1 e1=>?_
     walk_at "r"
     refine ⟨h_O (by omega) (by omega),false,a,_,rfl,s1.seq hS,(fun z=>by cases z),fun cl hcl=>?_⟩
     have eDm:1+(D:Int)*(m2:Int)=1+((D*m2:Nat):Int):=by rw [Int.natCast_mul]
     rw [eDm]
     obtain ⟨cs,ecs,hc1,hc2⟩:=l_R ns (D*m2)
     rw [ecs]
     have s2:Same H1 (upd H1 cl (.lst (cs.map V.int))):=Same.new hcl
     have el:(upd H1 cl (seqO false (cs.map V.int))) cl=some (.lst (cs.map V.int)):=a_F
     change N1 _ (upd H1 cl (.lst (cs.map V.int)))
     change (upd H1 cl (.lst (cs.map V.int))) cl=_ at el
     generalize upd H1 cl (.lst (cs.map V.int))=H2 at s2 el
     subst e1
     refine st fun N1 e1=>?_
     walk_at "r"
     refine ⟨Nat.zero_le _,fun l hl=>?_⟩
     subst e1
     refine st fun N1 e1=>d_z fun B eB=>?_
     simp only [d_W]
     walk_at "r"
     have el2:=Same.new (o:=.lst []) hl _ _ el
     refine c_s (b:=false) (SqB.lst el2) ?_
     have hq:((cs.length:Int).fdiv (D:Int))=((cs.length / D:Nat):Int):=by
      rw [Int.fdiv_eq_ediv_of_nonneg _ (by omega)]
      exact (Int.natCast_ediv _ _).symm
     refine ⟨_,_,rfl,rfl,dv_s (by omega) (by omega),?_⟩
     have hqm:cs.length / D<=m2:=by
      refine Nat.div_le_of_le_mul ?_
      omega
     have hqd:cs.length / D*D<=62:=Nat.le_trans (Nat.div_mul_le_self _ _) (by omega)
     obtain ⟨n,en,n1,nm,nd⟩:∃ n:Nat,(if ((cs.length / D:Nat):Int) > 1 then ((cs.length / D:Nat):Int) else 1)=(n:Int)/\1<=n/\n<=moN w/\(n*D<=62\/n=1):=by
      by_cases z:((cs.length / D:Nat):Int) > 1
      ·exact ⟨cs.length / D,if_pos z,by omega,by omega,.inl hqd⟩
      ·exact ⟨1,if_neg z,by omega,by unfold moN; split <;> omega,.inr rfl⟩
     refine ⟨_,rfl,?_⟩
     rw [hq,en]
     refine ⟨by omega,by omega,?_⟩
     rw [Int.toNat_natCast]
     refine e_f (g:=a_R 7) (tb:=B) (RL H2 a cl l s0 D w m2 (nbW w)) ⟨none,none,none,[],rfl,Same.new hl,MatL.nil a_F,rfl,fun i r e=>by simp at e⟩ ?_ ?_
     ·rintro i σ H3 hi ⟨v7,v8,v9,M,rfl,s3,hM,ml,hD⟩
      have el3:=s3 _ _ el
      subst eB
      show tSeq _ _ _ [some (.ref a),some (.int s0),some (.int (D:Int)),some (.int (w:Int)),some (.int (m2:Int)),some (.ref cl),some (.ref l),some (.int (0+(i:Int))),v8,v9] H3
      refine st fun N2 e2=>?_
      show c_F _ _ _ [some (.ref a),some (.int s0),some (.int (D:Int)),some (.int (w:Int)),some (.int (m2:Int)),some (.ref cl),some (.ref l),some (.int (0+(i:Int))),v8,v9] H3
      simp only [c_F]
      refine a_Y fun B' eB'=>?_
      simp only [d_W]
      walk_at "r"
      refine ⟨by omega,by omega,fun p hp=>?_⟩
      rw [Int.toNat_natCast]
      refine e_e (fun _ y _=>∃ x,y=.int x/\x.natAbs<=2 ^ nbW w) hp (by omega) (fun _ _ _ _ r _=>r) ?_ ?_
      ·intro k H4 zs hk s4 ez Q' hQ'
       subst eB'
       show d_Q _ _ _ _ [some (.int (0+(k:Int))),some (.int (D:Int)),some (.int (w:Int)),some (.ref cl),some (.int (0+(i:Int)))] H4 Q'
       walk_at "r"
       refine ⟨h_O (by omega) (by omega),cl,cs,_,rfl,SqL.of (s4 _ _ el3),?_,?_⟩
       ·have:(0:Int)<=(0+(i:Int))*(D:Int):=Int.mul_nonneg (by omega) (by omega)
        omega
       ·exact ⟨_,w,rfl,w5,fun z H5 s5 hz=>hQ' _ _ s5 ⟨z,rfl,hz⟩⟩
      ·intro H4 ys s4 e4 hly hr4
       obtain ⟨xs,rfl,hxs⟩:∃ xs:List Int,ys=xs.map V.int/\∀ x∈xs,x.natAbs<=2 ^ nbW w:=by
        clear e4 hly
        induction ys with
        | nil=>exact ⟨[],rfl,fun x hx=>by simp at hx⟩
        | cons y r ih =>
         obtain ⟨x,rfl,sx⟩:=hr4 0 y rfl
         obtain ⟨xs,rfl,hs⟩:=ih fun j z e=>hr4 (j+1) z (by simpa using e)
         exact ⟨x :: xs,rfl,fun z hz=>(List.mem_cons.mp hz).elim (fun e=>e ▸ sx) (hs z)⟩
       have xl:xs.length=D:=by simpa using hly
       obtain ⟨ps0,hl0',_⟩:=id hM
       have np:p≠l:=Ne.symm (a_H hl0' hp)
       have hM4:=hM.up s4
       show N2 [some (.ref a),some (.int s0),some (.int (D:Int)),some (.int (w:Int)),some (.int (m2:Int)),some (.ref cl),some (.ref l),some (.int (0+(i:Int))),some (.ref p),v9] H4
       subst e2
       refine st fun N2 e2=>?_
       have fin:∀ (v9:Option V) (p:Addr) (H5:Hp) (xs:List Int),Same H4 H5->H5 p=some (.lst (xs.map V.int))->p≠l->xs.length=D->(∀ z∈xs,z.natAbs<=2 ^ (nbW w+3*i)) ->
         N2 [some (.ref a),some (.int s0),some (.int (D:Int)),some (.int (w:Int)),some (.int (m2:Int)),some (.ref cl),some (.ref l),some (.int (0+(i:Int))),some (.ref p),v9] H5:=by
        intro v9 p H5 xs s5 ep np xl xb
        subst e2
        walk_at "r"
        obtain ⟨zs,z1,z2,z3⟩:=(hM4.up s5).app ep np
        refine ⟨.inl ⟨rfl,_,SqL.of z1⟩,l,zs,_,rfl,rfl,z1,c_m (by rw [z2,ml]; omega),?_⟩
        exact ⟨_,_,_,_,rfl,Same.over hl (s3.trans (s4.trans s5)),z3,by simp [ml],hD.app xl (by rw [ml]; exact xb)⟩
       have plain:∀ z∈xs,z.natAbs<=2 ^ (nbW w+3*i):=fun z hz=>Nat.le_trans (hxs z hz) (Nat.pow_le_pow_right (by decide) (by omega))
       walk_at "r"
       refine ite2 (fun z1=>?_) (fun _=>fin v9 p H4 xs (Same.refl _) e4 np xl plain)
       have hi1:(1:Int) < 0+(i:Int):=of_decide_eq_true z1
       refine ⟨false,p,_,_,_,rfl,rfl,SqB.lst e4,b_H (c_N (b_R (show 0 < xs.length by omega))) rfl,_,_,rfl,rfl,(show ¬ (4:Int)=0 by decide),?_⟩
       walk_at "r"
       refine ite2 (fun z2=>?_) (fun _=>fin v9 p H4 xs (Same.refl _) e4 np xl plain)
       refine ⟨false,p,_,_,_,rfl,rfl,SqB.lst e4,g_E (c_N (b_R (show xs.length - 1 < xs.length by omega))) (by simp; omega),_,_,rfl,rfl,(show ¬ (7:Int)=0 by decide),?_⟩
       have b0:=Int.fmod_nonneg_of_pos (xs.getD (xs.length - 1) 0) (show (0:Int) < 7 by decide)
       have b1:=Int.fmod_lt_of_pos (xs.getD (xs.length - 1) 0) (show (0:Int) < 7 by decide)
       walk_at "r"
       generalize (xs.getD (xs.length - 1) 0).fmod 7=bb at b0 b1 ⊢
       obtain ⟨i2,rfl⟩:∃ i2,i=i2+2:=⟨i - 2,by omega⟩
       obtain ⟨r1,er1⟩:∃ r,M[i2+1]?=some r:=⟨_,zqd (by omega)⟩
       obtain ⟨r2,er2⟩:∃ r,M[i2]?=some r:=⟨_,zqd (by omega)⟩
       obtain ⟨q1,q2⟩:=hD _ r1 er1
       obtain ⟨q3,q4⟩:=hD _ r2 er2
       rw [Int.toNat_natCast] at q1 q3
       refine a_Y fun B' eB'=>?_
       simp only [iZip]
       walk_at "r"
       refine d_M (hM4.b (K:=K)) er1 (by omega) fun p1 hp1=>?_
       refine d_M (hM4.b (K:=K)) er2 (by omega) fun p2 hp2=>?_
       refine ⟨false,false,p1,rfl,p2,rfl,⟨_,hp1⟩,⟨_,hp2⟩,fun c1 hc1=>?_⟩
       refine g_s (fun j y _=>∃ m n,r1[j]?=some m/\r2[j]?=some n/\y=.int (2*m+(bb - 3)*n)) hc1 hp1 hp2 (by simp; omega) (by simp; omega) (fun _ _ _ _ r _=>r) ?_ ?_
       ·intro j x y H5 zs ex ey s5 ez Q' hQ'
        obtain ⟨m,em,rfl⟩:=b_Z ex
        obtain ⟨nn,en',rfl⟩:=b_Z ey
        subst eB'
        show tOp _ _ _ [some (.int m),some (.int nn),some (.int (bb - 3))] H5 Q'
        walk_at "r"
        exact ⟨IntMulOk.of_left (by decide),h_O (by omega) (by omega),hQ' _ _ (Same.refl _) ⟨m,nn,em,en',rfl⟩⟩
       ·intro H5 zs s5 ez hlz hr'
        have ey:zs=(List.zipWith (fun m n=>2*m+(bb - 3)*n) r1 r2).map V.int:=by
         refine c_k (by simp at hlz ⊢; omega) fun j y e=>?_
         obtain ⟨m,nn,em,en',rfl⟩:=hr' j y e
         exact ⟨2*m+(bb - 3)*nn,by rw [List.getElem?_zipWith,em,en'],rfl⟩
        subst ey
        refine fin _ c1 H5 _ s5 ez (Ne.symm (a_H (s4 _ _ hl0') hc1)) (by simp; omega) fun z hz=>?_
        obtain ⟨j,hj,rfl⟩:=List.getElem_of_mem hz
        rw [List.length_zipWith] at hj
        rw [List.getElem_zipWith]
        have:=o_J (E:=nbW w+3*i2) (m:=bb - 3) (q2 _ (List.getElem_mem (show j < r1.length by omega))) (q4 _ (List.getElem_mem (show j < r2.length by omega))) (by omega)
        exact Nat.le_trans this (Nat.pow_le_pow_right (by decide) (by omega))
     ·rintro σ H3 ⟨v7,v8,v9,M,rfl,s3,hM,ml,hD⟩
      subst e1
      walk_at "r"
      rw [Int.toNat_natCast] at hD
      exact hQ l H3 M n D _ (s1.trans (s2.trans s3)) hM (hD.rws ml) (o_W w5 nm (by omega) nd) n1 (by omega) (by omega) (by omega)
    walk_at "r"
    refine ⟨dv_s (by decide) (by decide),by decide,ite2 (fun _=>?_) (fun _=>key2 mo hmo)⟩
    refine ⟨by decide,ite2 (fun z=>?_) (fun _=>key2 mo hmo)⟩
    refine key2 40 ?_
    have hz:((w:Int).fmod 4) < 2:=of_decide_eq_true z
    have:w≠2/\w≠3:=⟨fun e=>by rw [e] at hz; revert hz; decide,fun e=>by rw [e] at hz; revert hz; decide⟩
    unfold moN
    split <;> omega
   walk_at "r"
   refine ⟨dv_s (by decide) (by decide),by decide,ite2 (fun _=>?_) (fun _=>key (1+dd) (by omega) (by omega))⟩
   have m0:=Int.fmod_nonneg_of_pos (s0.fdiv 40) (show (0:Int) < 7 by decide)
   have m1:=Int.fmod_lt_of_pos (s0.fdiv 40) (show (0:Int) < 7 by decide)
   exact ⟨dv_s (by decide) (by decide),by decide,key _ (by omega) (by omega)⟩
theorem j_T {H:Hp} {a:Addr} {A:LM} (h:MatL H a A):∃ ps:List Addr,H a=some (.lst (ps.map V.ref))/\ps.length=A.length/\∀ (i:Nat) x,(ps.map V.ref)[i]?=some x->∃ p r,x=.ref p/\ps[i]?=some p/\A[i]?=some r/\p≠a/\H p=some (.lst (r.map V.int)):=by
 obtain ⟨ps,h1,h2,h3⟩:=h
 refine ⟨ps,h1,h2,fun i x e=>?_⟩
 rw [List.getElem?_map] at e
 cases ep:ps[i]? with
 | none=>rw [ep] at e; cases e
 | some p =>
  rw [ep] at e
  cases e
  have hi:=(zqa ep).1
  have er:A[i]?=some A[i]:=zqd (by omega)
  exact ⟨p,_,rfl,rfl,er,h3 i p _ ep er⟩
noncomputable abbrev sp_n (K:Frag):Sp:=sp_w K
theorem ok_n (T:Txt K mg t):FnOk P w K mg base CX0 1 t.a_n t.d_n ["_law_one","_law_other"] (sp_n K):=by
 refine T.F_n.ok sc_n (by walk_at "v") (fun cdv A outer s H vs Q E hr h=>?_)
 ·obtain ⟨b1,b2,p,q,ms,ns,rfl,h1,h2,hl,hz,hm,hQ⟩:=h
  refine ⟨_,(a_I (a_S (a_J (i_b rfl) rfl T.z_sum (by decide +kernel) (a_A (b_G (xs:=["_law_number_here","_law_more"]) (fr:=[]) (g:=(gTup K 2 (c_i (a_R 0) (c_i (a_R 1) gNil)))) (tt:=(tEl (tOp (rI (fun i j=>IntMulOk i j) fun i j=>.int (i*j)) (tVar 0) (tVar 1)))) (a_T (sc:=a_G s_n) (N:=N_n) rfl rfl (by decide +kernel)) rfl (f_B rfl T.z_zip (a_A (pv 0) (a_A (pv 1) a_B))) (fun _ _ _ hE1=>(d_T rfl (b_F (b_z (N:=["_law_number_here","_law_more"]) (i:=0) hE1 rfl (by decide +kernel)) (b_F (b_z (N:=["_law_number_here","_law_more"]) (i:=1) hE1 rfl (by decide +kernel)) c_S)))) (fun _ _ _ hE1=>(c_g (a_O b_P (pv 0) (pv 1))))) a_B)))),?_⟩
  show tRet _ _ [some (.ref p),some (.ref q)] H
  walk_at "r"
  refine a_Y fun B eB=>?_
  simp only [iZip]
  walk_at "r"
  refine ⟨b1,⟨_,h1⟩,b2,⟨_,h2⟩,fun a ha=>?_⟩
  refine g_s (fun j y _=>∃ m n,ms[j]?=some m/\ns[j]?=some n/\y=.int (m*n)) ha h1 h2 (by simpa using hl) (by simpa using hz) (fun _ _ _ _ r _=>r) ?_ ?_
  ·intro i x y H1 zs ex ey s1 ez Q' hQ'
   obtain ⟨m,em,rfl⟩:=b_Z ex
   obtain ⟨n,en,rfl⟩:=b_Z ey
   subst eB
   show tOp _ _ _ [some (.int m),some (.int n)] H1 Q'
   walk_at "r"
   exact ⟨hm i m n em en,hQ' _ _ (Same.refl _) ⟨m,n,em,en,rfl⟩⟩
  ·intro H1 zs s1 ez hlz hr'
   have ey:zs=(List.zipWith (·*·) ms ns).map V.int:=by
    refine c_k (by simp at hlz ⊢; omega) fun j y e=>?_
    obtain ⟨m,n,em,en,rfl⟩:=hr' j y e
    exact ⟨m*n,by rw [List.getElem?_zipWith,em,en],rfl⟩
   subst ey
   exact ⟨_,rfl,_,SqL.of ez,hQ H1 s1⟩
noncomputable def sp_7 (K:Frag):Sp:=fun vs H Q _=>∃ (a:Addr) (ns:List Int) (k:Int),vs=[.ref a,.int k]/\SqL K H a (ns.map V.int)/\0<=k/\∀ z:Int,Q (.int z) H
theorem ok_7 (T:Txt K mg t):FnOk P w K mg base CX0 1 t.a_7 t.d_7 ["_law_script","_law_k"] (sp_7 K):=by
 refine T.F_7.ok sc_7 (by walk_at "v") (fun cdv A outer s H vs Q E hr h=>?_)
 ·obtain ⟨a,ns,k,rfl,hS,k0,q⟩:=h
  refine ⟨_,(a_C (b_W (a_X h_V (pv 1) (a_J a_U rfl T.z_len (by decide +kernel) (a_A (pv 0) a_B)) (a_V _))
   (a_I (a_S (px (pv 0) (a_O d_m (a_O d_m (a_J a_U rfl T.z_len (by decide +kernel) (a_A (pv 0) a_B)) a_D) (pv 1)))))
   b_y)
   (a_I (a_S (pv 1)))),?_⟩
  show tSeq _ _ _ [some (.ref a),some (.int k)] H
  refine st fun N1 e1=>?_
  walk_at "r"
  refine ⟨false,a,_,rfl,hS,?_⟩
  rw [zqe]
  walk_at "r"
  refine ite2 (fun z=>?_) (fun _=>?_)
  ·have hk:k < ns.length:=of_decide_eq_true z
   refine ⟨false,a,_,rfl,hS,?_⟩
   rw [zqe]
   walk_at "r"
   exact ⟨false,a,_,_,_,rfl,rfl,hS,i_t (by omega) (by omega),q _⟩
  ·subst e1
   walk_at "r"
   exact q _
noncomputable def sp_9 (C:Addr):Sp:=fun vs H Q _=>∃ e:Addr,vs=[.ref e]/\H e=some (c_T e (.ref C))/\∀ H',Same H H'->Q (.bl false) H'
theorem ecls (T:Txt K mg t):h_B K t.a_8:=⟨T.h_u,T.h_v,T.h_w,T.h_x,T.h_y,T.h_z,T.e_bx,by
 have q:=T.h_z
 unfold PySem.W.mroIn at q
 cases e:PySem.W.clsIn K t.a_8 with
 | none=>rw [e] at q; cases q
 | some c=>rfl⟩
theorem c_x {i:Nat} (h:i < 4):([V.bl false,.bl false,.bl false,.bl false]:List V)[i]?=some (.bl false):=by
 rcases (show i=0\/i=1\/i=2\/i=3 by omega) with rfl | rfl | rfl | rfl <;> rfl
theorem ok_9 (T:Txt K mg t):j_x P w K mg base 1 t.a_9 t.d_9 ["_law_e"] (sp_9 t.a_8):=by
 refine T.F_9.okH sc_9 (fun vs H Q E h=>?_) (fun cdv A outer s H vs Q E ea C hh hea hr h=>?_)
 ·obtain ⟨e,rfl,_⟩:=h
  rfl
 ·obtain ⟨e,rfl,he,q⟩:=h
  refine ⟨_,(a_C (h_F PassesOwn.never hh (c_L (a_A (a_J b_K rfl T.z_isinstance (by decide +kernel) (a_A (pv 0) (a_A (b_T (v:=.ref t.a_13) rfl T.m_13 rfl) a_B))) (a_A (a_J b_K rfl T.z_isinstance (by decide +kernel) (a_A (pv 0) (a_A (b_T (v:=.ref t.a_1a) rfl T.m_1a rfl) a_B))) (a_A (a_J b_K rfl T.z_isinstance (by decide +kernel) (a_A (pv 0) (a_A (b_T (v:=.ref t.a_10) rfl T.m_10 rfl) a_B))) (a_A (a_J b_K rfl T.z_isinstance (by decide +kernel) (a_A (pv 0) (a_A (b_T (v:=.ref t.a_1b) rfl T.m_1b rfl) a_B))) a_B))))) (b_N (i:=1) sc_9.nd rfl (Or.inl rfl))
   (a_I (b_W (c_C (pv 1))
   (a_I (a_S c_Q))
   b_y)))
   (a_C (h_F PassesOwn.never hh (c_L (a_A (a_J b_K rfl T.z_isinstance (by decide +kernel) (a_A (pv 0) (a_A (b_T (v:=.ref t.a_18) rfl T.m_18 rfl) a_B))) (a_A (a_J b_K rfl T.z_isinstance (by decide +kernel) (a_A (pv 0) (a_A (b_T (v:=.ref t.a_11) rfl T.m_11 rfl) a_B))) (a_A (a_J b_K rfl T.z_isinstance (by decide +kernel) (a_A (pv 0) (a_A (b_T (v:=.ref t.a_1c) rfl T.m_1c rfl) a_B))) (a_A (a_J b_K rfl T.z_isinstance (by decide +kernel) (a_A (pv 0) (a_A (b_T (v:=.ref t.a_15) rfl T.m_15 rfl) a_B))) a_B))))) (b_N (i:=1) sc_9.nd rfl (Or.inl rfl))
   (a_I (b_W (c_C (pv 1))
   (a_I (a_S c_Q))
   b_y)))
   (a_C (h_F PassesOwn.never hh (c_L (a_A (a_J b_K rfl T.z_isinstance (by decide +kernel) (a_A (pv 0) (a_A (b_T (v:=.ref t.a_19) rfl T.m_19 rfl) a_B))) (a_A (a_J b_K rfl T.z_isinstance (by decide +kernel) (a_A (pv 0) (a_A (b_T (v:=.ref t.a_16) rfl T.m_16 rfl) a_B))) (a_A (a_J b_K rfl T.z_isinstance (by decide +kernel) (a_A (pv 0) (a_A (b_T (v:=.ref t.a_12) rfl T.m_12 rfl) a_B))) (a_A (a_J b_K rfl T.z_isinstance (by decide +kernel) (a_A (pv 0) (a_A (b_T (v:=.ref t.a_z) rfl T.m_z rfl) a_B))) a_B))))) (b_N (i:=1) sc_9.nd rfl (Or.inl rfl))
   (a_I (b_W (c_C (pv 1))
   (a_I (a_S c_Q))
   b_y)))
   (a_I (a_S (n_P (a_J b_K rfl T.z_isinstance (by decide +kernel) (a_A (pv 0) (a_A (b_T (v:=.ref t.a_14) rfl T.m_14 rfl) a_B))) (e_W (a_J b_K rfl T.z_isinstance (by decide +kernel) (a_A (pv 0) (a_A (b_T (v:=.ref t.a_17) rfl T.m_17 rfl) a_B)))))))))),?_⟩
  show tSeq _ _ _ [some (.ref e),none] H
  have isi:∀ (H1:Hp) (c:V) (b:Bool) (Q':VK),Same H H1->n_U c=true->kitOne K (.ref t.a_8) (clsV c)=some b->Q' (.bl b) H1->rIsi K [.ref e,c] H1 Q':=fun H1 c b Q' s1 h1 h2 h3=>⟨_,_,_,_,rfl,.exc (s1 _ _ he) (ecls T),h1,h2,h3⟩
  refine st fun N1 e1=>?_
  simp only [j_y]
  walk_at "r"
  refine isi H _ _ _ (Same.refl _) rfl T.i_13 (isi H _ _ _ (Same.refl _) rfl T.i_1a (isi H _ _ _ (Same.refl _) rfl T.i_10 (isi H _ _ _ (Same.refl _) rfl T.i_1b ?_)))
  refine ⟨by show 4<=sizeLine; decide,fun p hp=>?_⟩
  have s1:Same H (upd H p (.lst [.bl false,.bl false,.bl false,.bl false])):=Same.new hp
  have e2:(upd H p (.lst [.bl false,.bl false,.bl false,.bl false])) p=some (.lst [.bl false,.bl false,.bl false,.bl false]):=a_F
  generalize upd H p (.lst [.bl false,.bl false,.bl false,.bl false])=H1 at s1 e2
  have hL:SqL K H1 p [.bl false,.bl false,.bl false,.bl false]:=SqL.of e2
  refine ⟨⟨_,hL⟩,fun i m σ H2=>m=4 - i/\i<=4/\(∃ v,σ=[some (.ref e),v])/\H2=H1,⟨4,by decide,by decide,⟨none,rfl⟩,rfl⟩,?_⟩
  rintro i m σ H2 ⟨rfl,hi,⟨v,rfl⟩,e3⟩
  subst e3
  by_cases hlt:i < 4
  ·refine .inr ⟨⟨_,.bl false,hL,c_x hlt⟩,fun σ' H'=>(∃ v,σ'=[some (.ref e),v])/\H'=H2,fun σ' H' ⟨h1,h2⟩=>⟨4 - (i+1),by omega,rfl,by omega,h1,h2⟩,fun x H' y=>?_⟩
   obtain ⟨e4,y⟩:=y
   subst e4
   have ex:x=.bl false:=Option.some.inj ((y _ hL).symm.trans (c_x hlt))
   subst ex
   exact ⟨.bl false,rfl,false,rfl,iteF ⟨⟨_,rfl⟩,rfl⟩⟩
  have hi4:i=4:=by omega
  subst hi4
  refine .inl ⟨⟨_,hL,by decide⟩,⟨C,s1 _ _ hea⟩,?_⟩
  clear hL e2
  subst e1
  refine st fun N1 e1=>?_
  simp only [j_y]
  walk_at "r"
  refine isi _ _ _ _ s1 rfl T.i_18 (isi _ _ _ _ s1 rfl T.i_11 (isi _ _ _ _ s1 rfl T.i_1c (isi _ _ _ _ s1 rfl T.i_15 ?_)))
  refine ⟨by show 4<=sizeLine; decide,fun p hp=>?_⟩
  have s2:Same H2 (upd H2 p (.lst [.bl false,.bl false,.bl false,.bl false])):=Same.new hp
  have e2:(upd H2 p (.lst [.bl false,.bl false,.bl false,.bl false])) p=some (.lst [.bl false,.bl false,.bl false,.bl false]):=a_F
  generalize upd H2 p (.lst [.bl false,.bl false,.bl false,.bl false])=H3 at s2 e2
  have s3:=s1.trans s2
  have hL:SqL K H3 p [.bl false,.bl false,.bl false,.bl false]:=SqL.of e2
  refine ⟨⟨_,hL⟩,fun i m σ H2=>m=4 - i/\i<=4/\(∃ v,σ=[some (.ref e),v])/\H2=H3,⟨4,by decide,by decide,⟨v,rfl⟩,rfl⟩,?_⟩
  rintro i m σ H4 ⟨rfl,hi',⟨v',rfl⟩,e3⟩
  subst e3
  by_cases hlt':i < 4
  ·refine .inr ⟨⟨_,.bl false,hL,c_x hlt'⟩,fun σ' H'=>(∃ v,σ'=[some (.ref e),v])/\H'=H4,fun σ' H' ⟨h1,h2⟩=>⟨4 - (i+1),by omega,rfl,by omega,h1,h2⟩,fun x H' y=>?_⟩
   obtain ⟨e4,y⟩:=y
   subst e4
   have ex:x=.bl false:=Option.some.inj ((y _ hL).symm.trans (c_x hlt'))
   subst ex
   exact ⟨.bl false,rfl,false,rfl,iteF ⟨⟨_,rfl⟩,rfl⟩⟩
  have hi4:i=4:=by omega
  subst hi4
  refine .inl ⟨⟨_,hL,by decide⟩,⟨C,s3 _ _ hea⟩,?_⟩
  clear hL e2
  subst e1
  refine st fun N1 e1=>?_
  simp only [j_y]
  walk_at "r"
  refine isi _ _ _ _ s3 rfl T.i_19 (isi _ _ _ _ s3 rfl T.i_16 (isi _ _ _ _ s3 rfl T.i_12 (isi _ _ _ _ s3 rfl T.i_z ?_)))
  refine ⟨by show 4<=sizeLine; decide,fun p hp=>?_⟩
  have s4:Same H4 (upd H4 p (.lst [.bl false,.bl false,.bl false,.bl false])):=Same.new hp
  have e2:(upd H4 p (.lst [.bl false,.bl false,.bl false,.bl false])) p=some (.lst [.bl false,.bl false,.bl false,.bl false]):=a_F
  generalize upd H4 p (.lst [.bl false,.bl false,.bl false,.bl false])=H5 at s4 e2
  have s5:=s3.trans s4
  have hL:SqL K H5 p [.bl false,.bl false,.bl false,.bl false]:=SqL.of e2
  refine ⟨⟨_,hL⟩,fun i m σ H2=>m=4 - i/\i<=4/\(∃ v,σ=[some (.ref e),v])/\H2=H5,⟨4,by decide,by decide,⟨v',rfl⟩,rfl⟩,?_⟩
  rintro i m σ H6 ⟨rfl,hi6,⟨v6,rfl⟩,e3⟩
  subst e3
  by_cases hlt':i < 4
  ·refine .inr ⟨⟨_,.bl false,hL,c_x hlt'⟩,fun σ' H'=>(∃ v,σ'=[some (.ref e),v])/\H'=H6,fun σ' H' ⟨h1,h2⟩=>⟨4 - (i+1),by omega,rfl,by omega,h1,h2⟩,fun x H' y=>?_⟩
   obtain ⟨e4,y⟩:=y
   subst e4
   have ex:x=.bl false:=Option.some.inj ((y _ hL).symm.trans (c_x hlt'))
   subst ex
   exact ⟨.bl false,rfl,false,rfl,iteF ⟨⟨_,rfl⟩,rfl⟩⟩
  have hi4:i=4:=by omega
  subst hi4
  refine .inl ⟨⟨_,hL,by decide⟩,⟨C,s5 _ _ hea⟩,?_⟩
  subst e1
  walk_at "r"
  exact isi _ _ _ _ s5 rfl T.i_14 ⟨_,rfl,iteF (isi _ _ _ _ s5 rfl T.i_17 (q _ s5))⟩
theorem h_j {X:Cx} (h:X.K=K):c_z X (.builtin "isinstance") (rIsi K):=by
 subst h
 exact b_K
noncomputable def sp_6 (K:Frag) (t:Adr):Sp:=fun vs H Q _=>∃ (ar tp:Addr) (b:Bool) (A:LM) (ts:List Int) (d n B:Nat),vs=[.ref ar,.ref tp,.bl b]/\MatL H ar A/\H tp=some (.lst (ts.map V.int))/\A.length=n/\(∀ r∈A,r.length=d)/\1<=n/\n<=63/\1<=d/\d<=12/\BdM (2 ^ B) A/\FitS n d B /\
 ts.length=n/\(∀ z∈ts,z.natAbs<=2 ^ (B+90))/\TT K t H/\∀ H',Same H H'->Q (.bl true) H'
theorem ok_6 (T:Txt K mg t) (Gs:Gd P mg base):FnOk P w K mg base CX0 39 t.a_6 t.d_6 ["_law_rows_here","_law_tops","_law_whole"] (sp_6 K t):=by
 have G_u:FnOk P w K mg base (CX1 P w) 38 t.a_u t.d_u ["rows","tops","under"] (sp_u K t):=ok_u T Gs
 have G_1:FnOk P w K mg base (CX1 P w) 38 t.a_1 t.d_1 ["rows","tops","under"] (sp_1 K t):=ok_1 T Gs
 have G_9:j_x P w K mg base 1 t.a_9 t.d_9 ["_law_e"] (sp_9 t.a_8):=ok_9 T
 refine T.F_6.ok sc_6 (by walk_at "v") (fun cdv A outer s H vs Q E hr h=>?_)
 ·obtain ⟨ar,tp,b,MA,ts,d,n,B,rfl,hM,hT,mn,mw,n1,n63,d1,d12,mb,hfit,tl,tb,tt,hQ⟩:=h
  refine ⟨_,(a_C (a_L (i:=3) sc_6.nd rfl (Or.inl rfl) o_f)
   (a_C (m_P (i:=4) rfl rfl rfl sc_6.nd rfl rfl rfl T.m_y (fun _ _ _ hL =>
   (a_I (b_W (c_C (pv 2))
   (a_I (b_L (e_G G_1 hr.mo rfl T.m_1 T.F_1.kp T.b_1 .nil hL (a_A (pv 0) (a_A (pv 1) (a_A a_D a_B))))))
   (a_I (b_L (e_G G_u hr.mo rfl T.m_u T.F_u.kp T.b_u .nil hL (a_A (pv 0) (a_A (pv 1) (a_A a_D a_B))))))))) (fun e1 =>
   (a_I (a_L (i:=3) sc_6.nd rfl (Or.inl rfl) (g_f (a_J (h_j (K:=K) rfl) rfl T.z_isinstance (by decide +kernel) (a_A (pv 4) (a_A (b_T (v:=.ref t.a_8) rfl T.m_8 rfl) a_B))) (g_f (a_J (h_j (K:=K) rfl) rfl T.z_isinstance (by decide +kernel) (a_A (pv 4) (a_A (l_X (v:=.ty "ValueError") rfl T.z_ValueError (by decide +kernel) rfl) a_B))) (e_W (o_g (l_h (ea:=e1) G_9 ((hr.a.mark _).mono (by omega)) rfl rfl T.m_9 T.F_9.kp T.b_9 .nil (a_A (pv 4) a_B))))))))))
   (a_I (a_S (c_y o_z (pv 3) c_Q (a_V _)))))),?_⟩
  show tSeq _ _ _ [some (.ref ar),some (.ref tp),some (.bl b),none,none] H
  refine st fun N1 e1=>?_
  walk_at "r"
  subst e1
  refine st fun N1 e1=>?_
  simp only [n_T,g_o,i_T]
  walk_at "r"
  cases b
  all_goals
   first | refine iteT ?_ | refine iteF ?_
   refine ⟨false,false,false,ar,tp,MA,ts,0,d,n,B,rfl,hM.b,SqB.lst hT,mn,mw,n1,n63,d1,d12,mb,hfit,Nat.zero_le _,tl,tb,tt,fun _=>⟨T.xm,fun e he=>?_⟩,fun h=>absurd rfl h⟩
   have s1:Same H (upd H e (c_T e (.ref t.a_8))):=Same.new he
   have e2:(upd H e (c_T e (.ref t.a_8))) e=some (c_T e (.ref t.a_8)):=a_F
   generalize upd H e (c_T e (.ref t.a_8))=H1 at s1 e2
   refine ⟨_,_,_,_,rfl,.exc e2 (ecls T),rfl,T.i_8,_,rfl,iteT ?_⟩
   refine ⟨_,_,_,_,rfl,.exc e2 (ecls T),rfl,T.i_VE,_,rfl,iteT ?_⟩
   simp only [i_T]
   try walk_at "r"
   refine ⟨⟨_,e2⟩,e,rfl,e2,fun H2 s2=>?_⟩
   try walk_at "r"
   show N1 [some (.ref ar),some (.ref tp),some (.bl _),some (.bl true),none] H2
   subst e1
   walk_at "r"
   exact hQ H2 (s1.trans s2)
noncomputable def sp_3 (K:Frag):Sp:=fun vs H Q _=>∃ (p ar:Addr) (ns:List Int) (A:LM) (n d B:Nat),vs=[.ref p,.ref ar]/\H p=some (.tup (ns.map V.int))/\MatL H ar A/\Rws n d B A/\1<=n/\n<=40/\1<=d/\d<=12/\B<=uS /\
 ns.length=n/\(∀ z∈ns,z.natAbs<=2 ^ wB)/\(∀ k,k < d->dotI ns (colI k A)=0)/\∀ H',Same H H'->Q (.bl true) H'
theorem ok_3 (T:Txt K mg t):FnOk P w K mg base CX0 2 t.a_3 t.d_3 ["_law_found","_law_rows_here"] (sp_3 K):=by
 have G_n:=@ok_n P w K mg base t T
 refine T.F_3.ok sc_3 (by walk_at "v") (fun cdv A outer s H vs Q E hr h=>?_)
 ·obtain ⟨p,ar,ns,MA,n,d,B,rfl,hp,hM,⟨mn,mw,mb⟩,n1,n40,d1,d12,hB,nl,nb,hz,hQ⟩:=h
  have eU:uS=1048576:=rfl
  have eW:wB=4194304:=rfl
  have hu:=hr.units
  obtain ⟨r0,e0⟩:∃ r0,MA[0]?=some r0:=⟨_,zqd (by omega)⟩
  have wr0:=mw r0 (zqb e0)
  refine ⟨_,(a_I (a_S (c_y (o_s hu) (b_G (xs:=["_law_k"]) (fr:=[("_law_found",0),("_law_rows_here",1)]) (g:=(a_R 0)) (tt:=(d_R (g_h (tOp (rI0 fun i j=>.bl (!decide (i=j))) (d_Q (sp_n K) [] E0 (b_O (tVar 1) (b_O (c_E (iSeq K (tVar 2)) (a_R 0) (tEl (tOp (rIxB K) (tVar 0) (tVar 1))) 1 [("_law_k",0)]) tNil))) (tC (.int 0)))) (tVar 0))) (a_T (sc:=a_G s_3) (N:=N_3) rfl rfl (by decide +kernel)) rfl (c_f rfl T.z_range (a_A (a_J a_U rfl T.z_len (by decide +kernel) (a_A (px (pv 1) a_D) a_B)) a_B)) (fun _ _ _ hE1=>(h_D (N:=["_law_k","_law_found","_law_rows_here"]) (i:=0) hE1 rfl (by decide +kernel) rfl)) (fun _ _ _ hE1=>(k_V (a_X e_a (a_K G_n hr.mo rfl T.m_n T.F_n.kp T.b_n .nil a_W (a_A (pv 1) (a_A (b_G (xs:=["_law_row"]) (fr:=[("_law_k",0)]) (g:=(a_R 0)) (tt:=(tEl (tOp (rIxB K) (tVar 0) (tVar 1)))) (a_T (N:=["_law_k","_law_found","_law_rows_here"]) hE1 rfl (by decide +kernel)) rfl (c_r (pv 2)) (fun _ _ _ hE2=>(b_z (N:=["_law_row","_law_k"]) (i:=0) hE2 rfl (by decide +kernel))) (fun _ _ _ hE2=>(c_g (px (pv 0) (pv 1))))) a_B))) a_D (a_V _)) (pv 0)))) (c_L a_B) (a_V _)))),?_⟩
  show tRet _ _ [some (.ref p),some (.ref ar)] H
  walk_at "r"
  refine g_u fun C0 B0 eC eB0=>?_
  simp only [d_W]
  walk_at "r"
  refine d_M (hM.b (K:=K)) e0 rfl fun p0 hp0=>c_s hp0 ?_
  rw [wr0]
  refine ⟨_,rfl,by omega,by omega,fun a1 ha1=>?_⟩
  rw [Int.toNat_natCast]
  refine h_e (fun _ zs _=>zs=[]) ha1 (by omega) rfl (fun i zs H1 e=>by rw [e]; exact Nat.zero_le _) (fun _ _ _ _ e _=>e) ?_ ?_
  ·intro k H1 zs hk s1 ez eP C' hC1 hC2
   subst eC
   subst eB0
   show d_R _ _ [some (.int (0+(k:Int))),some (.ref p),some (.ref ar)] H1 C'
   simp only [d_R]
   walk_at "r"
   refine a_Y fun B2 eB2=>?_
   simp only [iSeq]
   walk_at "r"
   obtain ⟨ps,h1,h2,h3⟩:=j_T (hM.up s1)
   refine ⟨false,⟨_,SqB.lst h1⟩,fun a2 ha2=>?_⟩
   refine c_M (fun j y _=>∃ row,MA[j]?=some row/\y=.int (row.getD k 0)) ha2 (SqB.lst h1) (by rw [zqe,h2]; omega) (fun _ _ _ _ h _=>h) ?_ ?_
   ·intro i x H3 zs ex s3 ez Q' hQ'
    obtain ⟨p',row,rfl,_,er',_,hp'⟩:=h3 i x ex
    have wr:=mw row (zqb er')
    subst eB2
    show tOp _ _ _ [some (.ref p'),some (.int (0+(k:Int)))] H3 Q'
    walk_at "r"
    exact ⟨false,p',_,_,_,rfl,rfl,SqB.lst (s3 _ _ hp'),b_H (c_N (b_R (show k < row.length by omega))) (by omega),hQ' _ _ (Same.refl _) ⟨row,er',rfl⟩⟩
   ·intro H3 zs s3 ez hlz hr3
    have ey:zs=(colI k MA).map V.int:=by
     refine c_k (by rw [hlz,zqe,c_O,h2]) fun j y e=>?_
     obtain ⟨row,es,rfl⟩:=hr3 j y e
     exact ⟨_,by unfold colI; rw [List.getElem?_map,es]; rfl,rfl⟩
    subst ey
    have s13:=s1.trans s3
    have cb:∀ z∈colI k MA,z.natAbs<=2 ^ B:=fun z hz'=>by
     unfold colI at hz'
     obtain ⟨row,hr',rfl⟩:=List.mem_map.mp hz'
     exact d_O (mb row hr')
    refine ⟨true,false,p,a2,ns,colI k MA,rfl,SqB.tup (s13 _ _ hp),SqB.lst ez,by rw [c_O]; omega,by omega,fun _ m n e1 e2=>mulOk_of_bits (b_m (nb m (zqb e1))) (b_m (cb n (zqb e2))) (by omega),fun H4 s4=>?_⟩
    rw [hz k hk]
    walk_at "r"
    exact hC2 _ (s3.trans s4) eP
  ·intro H4 ys s4 ey eP
   subst eP
   refine ⟨Nat.zero_le _,fun p5 hp5=>?_⟩
   have s5:Same H4 (upd H4 p5 (.lst [])):=Same.new hp5
   have e5:(upd H4 p5 (.lst [])) p5=some (.lst []):=a_F
   generalize upd H4 p5 (.lst [])=H5 at s5 e5
   exact o_u 1 (by decide) (Dt.lst (ds:=[]) (SqL.of (s5 _ _ ey)) .nil) (Dt.lst (ds:=[]) (SqL.of e5) .nil) rfl rfl (b:=true) (by simp) (hQ H5 (s4.trans s5))
noncomputable def Kept (H0 H:Hp) (l:Addr) (F R U:LM):Prop:=∃ f g h,H l=some (.lst [.ref f,.ref g,.ref h])/\H0 l=none/\NewL H0 H f F/\NewL H0 H g R/\NewL H0 H h U
noncomputable def sp_e (K:Frag):Sp:=fun vs H Q _=>∃ (r f g h:Addr) (F R U:LM),vs=[.ref r]/\H r=some (.tup [.ref f,.ref g,.ref h])/\MatL H f F/\MatL H g R/\MatL H h U/\F.length<=1000/\R.length<=1000/\U.length<=1000/\∀ l H',Same H H'->Kept H H' l F R U->Q (.ref l) H'
theorem j_f {K:Frag} {H:Hp} {a a1:Addr} {M:LM} {σ:St} {Q:VK} {b1 b2:Bool} {fr:List (Str × Nat)} (hM:MatB b1 b2 K H a M) (hl:M.length<=1000) (ha1:H a1=none) (hQ:∀ H1,Same H H1->NewL H H1 a1 M->Q (.ref a1) H1):c_w (Its K b1 a) (a_R 0) (tEl (tCB (e_c K) (b_O (tVar 0) tNil))) 1 fr σ a1 H Q:=by
 obtain ⟨xs,x1,x2,x3⟩:=hM.walk
 refine c_M (RowN H a1 fun j=>M.getD j []) ha1 x1 (by omega) (RowN.mono (a:=a1)) ?_ ?_
 ·intro i x H1 zs ex s1 ez Q' hQ'
  obtain ⟨p,r,rfl,er,hp⟩:=x3 i x ex
  refine ⟨_,rfl,b2,p,_,rfl,hp.up s1,fun l hl1=>hQ' _ _ (Same.new hl1) ⟨l,rfl,Ne.symm (a_H ez hl1),c_J s1 hl1,?_⟩⟩
  rw [a_F]; dsimp only; rw [zqc,er]
  rfl
 ·intro H1 ys s1 e1 hly hr1
  have:=NewL.of e1 ha1 hr1
  have e:(List.range ys.length).map (fun j=>M.getD j [])=M:=by
   rw [hly,x2]
   refine List.ext_getElem (by simp) fun i h1 h2=>?_
   simp at h1
   simp [h1]
  rw [e] at this
  exact hQ H1 s1 this
noncomputable def KR (H0:Hp) (a:Addr) (Ms:List LM) (j:Nat) (y:V) (H:Hp):Prop:=∃ q M ps,y=.ref q/\Ms[j]?=some M/\MatP H q ps M/\∀ x,x=q\/x∈ps->H0 x=none/\x≠a
theorem KR.mono {H0:Hp} {a:Addr} {Ms:List LM} (i:Nat) (y:V) (H1 H2:Hp) (h:KR H0 a Ms i y H1) (s:e_d a H1 H2):KR H0 a Ms i y H2:=by
 obtain ⟨q,M,ps,e1,e2,⟨m1,m2,m3⟩,e4⟩:=h
 exact ⟨q,M,ps,e1,e2,⟨s _ _ (e4 q (.inl rfl)).2 m1,m2,fun i p r h1 h2=>⟨(m3 i p r h1 h2).1,s _ _ (e4 p (.inr (zqb h1))).2 (m3 i p r h1 h2).2⟩⟩,e4⟩
theorem KR.new {H0 H:Hp} {a:Addr} {Ms:List LM} {j:Nat} {y:V} {M:LM} (h:KR H0 a Ms j y H) (e:Ms[j]?=some M):∃ q,y=.ref q/\NewL H0 H q M:=by
 obtain ⟨q,M',ps,e1,e2,m,e4⟩:=h
 rw [e] at e2; cases e2
 exact ⟨q,e1,ps,m,fun x hx=>(e4 x hx).1⟩
theorem ok_e (T:Txt K mg t):FnOk P w K mg base CX0 1 t.a_e t.d_e ["_law_told"] (sp_e K):=by
 refine T.F_e.ok sc_e (by walk_at "v") (fun cdv A outer s H vs Q E hr h=>?_)
 ·obtain ⟨r,f,g,h,F,R,U,rfl,er,hF,hR,hU,lF,lR,lU,hQ⟩:=h
  refine ⟨_,(a_I (a_S (b_G (xs:=["_law_some"]) (fr:=[]) (g:=(a_R 0)) (tt:=(tEl (c_E (iSeq K (tVar 0)) (a_R 0) (tEl (tCB (e_c K) (b_O (tVar 0) tNil))) 1 []))) (a_T (sc:=a_G s_e) (N:=N_e) rfl rfl (by decide +kernel)) rfl (c_r (pv 0)) (fun _ _ _ hE1=>(b_z (N:=["_law_some"]) (i:=0) hE1 rfl (by decide +kernel))) (fun _ _ _ hE1=>(c_g (b_G (xs:=["_law_row"]) (fr:=[]) (g:=(a_R 0)) (tt:=(tEl (tCB (e_c K) (b_O (tVar 0) tNil)))) (a_T (N:=["_law_some"]) hE1 rfl (by decide +kernel)) rfl (c_r (pv 0)) (fun _ _ _ hE2=>(b_z (N:=["_law_row"]) (i:=0) hE2 rfl (by decide +kernel))) (fun _ _ _ hE2=>(c_g (c_l d_L rfl T.z_list (by decide +kernel) (a_A (pv 0) a_B)))))))))),?_⟩
  show tRet _ _ [some (.ref r)] H
  walk_at "r"
  refine a_Y fun B0 eB0=>?_
  simp only [iSeq]
  walk_at "r"
  refine ⟨true,⟨_,SqB.tup er⟩,fun l hl=>?_⟩
  refine c_M (KR H l [F,R,U]) hl (SqB.tup er) (by show 3<=1000; decide) (KR.mono (a:=l)) ?_ ?_
  ·intro i x H1 zs ex s1 ez Q' hQ'
   have one:∀ (q:Addr) (M:LM),x=.ref q->MatL H q M->M.length<=1000->([F,R,U]:List LM)[i]?=some M->c_E (iSeq K (tVar 0)) (a_R 0) (tEl (tCB (e_c K) (b_O (tVar 0) tNil))) 1 [] [some x] H1 Q':=by
    rintro q M rfl hM hl' eM
    refine a_Y fun B1 eB1=>?_
    simp only [iSeq]
    walk_at "r"
    obtain ⟨ps,p1,_⟩:=id (hM.up s1)
    refine ⟨false,⟨_,SqB.lst p1⟩,fun a1 ha1=>?_⟩
    subst eB1
    refine j_f ((hM.up s1).b (K:=K)) hl' ha1 fun H2 s2 hN=>?_
    obtain ⟨ps2,m2,n2⟩:=hN
    refine hQ' _ _ s2 ⟨a1,M,ps2,rfl,eM,m2,fun x hx=>⟨c_J s1 (n2 x hx),fun z=>?_⟩⟩
    have:=n2 x hx
    rw [z,ez] at this
    cases this
   subst eB0
   match i,ex with
   | 0,ex=>exact one f F (Option.some.inj ex).symm hF lF rfl
   | 1,ex=>exact one g R (Option.some.inj ex).symm hR lR rfl
   | 2,ex=>exact one h U (Option.some.inj ex).symm hU lU rfl
   | i+3,ex=>cases ex
  ·intro H1 ys s1 e1 hly hr1
   obtain ⟨y0,y1,y2,rfl⟩:∃ y0 y1 y2,ys=[y0,y1,y2]:=by
    match ys,hly with
    | [y0,y1,y2],_=>exact ⟨y0,y1,y2,rfl⟩
   obtain ⟨f',rfl,n1⟩:=(hr1 0 y0 rfl).new rfl
   obtain ⟨g',rfl,n2⟩:=(hr1 1 y1 rfl).new rfl
   obtain ⟨h',rfl,n3⟩:=(hr1 2 y2 rfl).new rfl
   exact hQ l H1 s1 ⟨f',g',h',e1,hl,n1,n2,n3⟩
theorem g_G {b:Bool} {A C:Prop} (h:b=false) (c:C):if b=true then A else C:=by
 subst h
 exact iteF c
theorem l_S {low:Int} {ts:List Int} (h:low≠0):∃ c:Int,c≠0/\redU low ts*c=low/\∀ (i:Nat) x y,ts[i]?=some x->(redT low ts)[i]?=some y->x=y*c:=by
 refine ⟨cs low ts,f_S _ h,c_d (f_S _ h) (d_A (gl_u low ts)),fun i x y ex ey=>?_⟩
 unfold redT at ey
 rw [List.getElem?_map,ex] at ey
 cases ey
 exact (c_d (f_S _ h) (d_A (h_H (zqb ex)))).symm
theorem n_L {low:Int} {ts ns:List Int} {b:Bool} (h:low≠0) (hn:¬ (if b=true then redU low ts else 0)∣dotI ns (redT low ts)):¬ (if b=true then low else 0)∣dotI ns ts:=fun z=>by
 obtain ⟨c,cn,cg,cx⟩:=l_S (ts:=ts) h
 have c3:=d_P (w:=1) (c:=c) ns ts (redT low ts) (by unfold redT; rw [zqe]) fun i x y ex ey=>by rw [Int.mul_one]; exact cx i x y ex ey
 rw [Int.mul_one] at c3
 rw [c3] at z
 cases b
 ·rw [if_neg (by decide)] at z hn
  refine hn ?_
  have:=(Int.mul_eq_zero.mp (Int.zero_dvd.mp z)).resolve_right cn
  rw [this]
  exact Int.dvd_zero _
 ·rw [if_pos rfl] at z hn
  obtain ⟨m,hm⟩:=z
  refine hn ⟨m,Int.eq_of_mul_eq_mul_right cn ?_⟩
  rw [hm]
  generalize redU low ts=g at *
  rw [← cg,Int.mul_assoc,Int.mul_assoc,Int.mul_comm c m]
theorem k_u {low w D x y c g:Int} {b:Bool} (cg:g*c=low) (cx:x=y*c) (h:(if b=true then g else 0)*w∣D*g - y*w):(if b=true then low else 0)*w∣D*low - x*w:=by
 obtain ⟨m,hm⟩:=h
 refine ⟨m,?_⟩
 have e:D*low - x*w=c*(D*g - y*w):=by rw [← cg,cx]; grind
 rw [e,hm]
 cases b
 ·rw [if_neg (by decide),if_neg (by decide)]; grind
 ·rw [if_pos rfl,if_pos rfl,← cg]; grind
noncomputable def sp_b (K:Frag):Sp:=fun vs H Q _=>∃ (v:V) (ar tp:Addr) (ts:List Int) (low:Int) (b:Bool) (A:LM) (n d B:Nat),vs=[v,.ref ar,.ref tp,.int low,.bl b]/\c_H H v A (redT low ts) (redU low ts) (if b=true then redU low ts else 0) d n/\MatL H ar A/\H tp=some (.lst (ts.map V.int))/\Rws n d B A/\1<=n/\n<=40/\1<=d/\d<=12/\B<=uS/\1<=low/\low<=1000000 /\
 ts.length=n/\(∀ z∈ts,z.natAbs<=2 ^ (B+75))/\∀ H',Same H H'->Q (.bl true) H'
theorem i_u {ns ts:List Int} {a b:Nat} (hn:∀ z∈ns,z.natAbs<=2 ^ a) (ht:∀ z∈ts,z.natAbs<=2 ^ b) (h:a+b<=134217700):∀ (i:Nat) m n,ns[i]?=some m->ts[i]?=some n->IntMulOk m n :=
 fun _ m n e1 e2=>mulOk_of_bits (b_m (hn m (zqb e1))) (b_m (ht n (zqb e2))) (by omega)
theorem o_K {K:Frag} {b1 b2:Bool} {a1 a2:Addr} {xs ys:List V} {g:TG} {tb:TS} {nx:St->Hp->Prop} {rt:VK} {σ:St} {H:Hp} (Pv:Nat->St->Hp->Prop) (h0:Pv 0 σ H) (hlen:xs.length=ys.length) (hl:∀ i σ H,i<=xs.length->Pv i σ H->SqB b1 K H a1 xs/\SqB b2 K H a2 ys)
  (hs:∀ i x y p σ H,xs[i]?=some x->ys[i]?=some y->Pv i σ H->H p=none->g (.ref p) σ (upd H p (.tup [x,y])) fun σ2 H2=>tb { nx:=Pv (i+1),rt:=rt,bk:=nx,ct:=Pv (i+1) } σ2 H2) (hd:∀ σ H,Pv xs.length σ H->nx σ H):i_d (Itz K b1 a1 b2 a2) g tb nx rt σ H :=
 m_R (D:={ nx:=nx,rt:=rt,bk:=nx,ct:=nx }) Pv h0 hlen hl hs hd
theorem ok_b (T:Txt K mg t):FnOk P w K mg base CX0 3 t.a_b t.d_b ["_law_found","_law_rows_here","_law_tops","_law_low","_law_whole"] (sp_b K):=by
 have G_3:=@ok_3 P w K mg base t T
 have G_n:=@ok_n P w K mg base t T
 refine T.F_b.ok sc_b (by walk_at "v") (fun cdv A outer s H vs Q E hr h=>?_)
 ·obtain ⟨v,ar,tp,ts,low,b,MA,n,d,B,rfl,hm,hM,hT,hR,n1,n40,d1,d12,hB,l0,l1,tl,tb,hQ⟩:=h
  obtain ⟨mn,mw,mb⟩:=id hR
  have eU:uS=1048576:=rfl
  have eW:wB=4194304:=rfl
  have lz:low≠0:=by omega
  obtain ⟨r,rfl,hm⟩:=hm
  refine ⟨_,(a_C (a_L (i:=5) sc_b.nd rfl (Or.inl rfl) a_D)
   (a_C (b_W (c_C (pv 4))
   (a_I (a_L (i:=5) sc_b.nd rfl (Or.inl rfl) (pv 3)))
   b_y)
   (a_C (b_W (a_X k_z (px (pv 0) a_D) c_Y (a_V _))
   (a_C (a_L (i:=6) sc_b.nd rfl (Or.inl rfl) (a_K G_n hr.mo rfl T.m_n T.F_n.kp T.b_n .nil a_W (a_A (px (pv 0) a_D) (a_A (pv 2) a_B))))
   (a_I (a_S (g_f (a_K G_3 hr.mo rfl T.m_3 T.F_3.kp T.b_3 .nil a_W (a_A (px (pv 0) a_D) (a_A (pv 1) a_B))) (e_W (n_P (g_f (c_y c_D (pv 5) a_D (a_V _)) (e_W (c_y e_a (pv 6) a_D (a_V _)))) (e_W (g_f (c_y h_W (pv 5) a_D (a_V _)) (e_W (c_y e_a (a_O b_Q (pv 6) (pv 5)) a_D (a_V _)))))))))))
   b_y)
   (a_C (c_Z PassesOwn.never rfl (f_B rfl T.z_zip (a_A (pv 1) (a_A (pv 2) a_B))) (d_T rfl (b_F (b_N (i:=7) sc_b.nd rfl (Or.inl rfl)) (b_F (b_N (i:=8) sc_b.nd rfl (Or.inl rfl)) c_S)))
   (a_C (a_L (i:=6) sc_b.nd rfl (Or.inl rfl) (a_O d_m (a_O b_P (a_K G_n hr.mo rfl T.m_n T.F_n.kp T.b_n .nil a_W (a_A (pv 7) (a_A (px (px (pv 0) a_D) a_D) a_B))) (pv 3)) (a_O b_P (pv 8) (px (px (pv 0) a_D) a_D))))
   (a_I (b_W (PW.pt (k_v (PW.pt (h_l (a_X c_D (pv 5) a_D (a_V _)) (f_V (a_X e_a (pv 6) a_D (a_V _))))) (i_w (PW.pt (h_l (a_X h_W (pv 5) a_D (a_V _)) (f_V (a_X e_a (a_O b_Q (pv 6) (a_O b_P (pv 3) (px (px (pv 0) a_D) a_D))) a_D (a_V _))))))))
   (a_I (a_S c_Q))
   b_y))))
   (a_I (a_S (c_y k_z (px (pv 0) a_D) c_Y (a_V _)))))))),?_⟩
  show tSeq _ _ _ [some (.ref r),some (.ref ar),some (.ref tp),some (.int low),some (.bl b),none,none,none,none] H
  refine st fun N1 e1=>?_
  walk_at "r"
  subst e1
  refine st fun N1 e1=>?_
  have key:N1 [some (.ref r),some (.ref ar),some (.ref tp),some (.int low),some (.bl b),some (.int (if b=true then low else 0)),none,none,none] H:=by
   subst e1
   refine st fun N1 e1=>?_
   walk_at "r"
   rcases hm with ⟨p,ns,w,h1,hP,w0,wb,hg,nl,nb,heq⟩ | ⟨p,ns,h1,hp,nl,nb,hz,hn⟩
   ·refine ⟨true,r,_,_,_,rfl,rfl,SqB.tup h1,rfl,⟨rfl,?_⟩⟩
    refine ⟨_,rfl,iteF ?_⟩
    obtain ⟨c,cn,cg,cx⟩:=l_S (ts:=ts) lz
    have rl:(redT low ts).length=n:=by unfold redT; rw [zqe]; exact tl
    have low':∀ (i:Nat) row x,MA[i]?=some row->ts[i]?=some x->(if b=true then low else 0)*w∣dotI row ns*low - x*w:=fun i row x er ex=>by
     have hi:=(zqa ex).1
     obtain ⟨y,ey⟩:∃ y,(redT low ts)[i]?=some y:=⟨_,zqd (by omega)⟩
     exact k_u cg (cx i x y ex ey) (heq i row y er ey)
    subst e1
    refine st fun N1 e1=>d_z fun B' eB=>?_
    simp only [iZip]
    walk_at "r"
    obtain ⟨ps,q1,q2,q3⟩:=j_T hM
    refine ⟨false,⟨_,SqB.lst q1⟩,false,⟨_,SqB.lst hT⟩,?_⟩
    refine o_K (K:=K) (b1:=false) (b2:=false) (a1:=ar) (a2:=tp) (xs:=ps.map V.ref) (ys:=ts.map V.int) (g:=gTup K 2 (c_i (a_R 7) (c_i (a_R 8) gNil))) (tb:=B') (fun i σ H2=>(∃ v6 v7 v8,σ=[some (.ref r),some (.ref ar),some (.ref tp),some (.int low),some (.bl b),some (.int (if b=true then low else 0)),v6,v7,v8])/\Same H H2) ⟨⟨_,_,_,rfl⟩,Same.refl _⟩ (by rw [zqe,zqe,q2]; omega) (fun i σ H2 _ h=>⟨SqB.lst (h.2 _ _ q1),SqB.lst (h.2 _ _ hT)⟩) ?_ ?_
    ·rintro i x y q σ H2 ex ey ⟨⟨v6,v7,v8,rfl⟩,s2⟩ hq
     obtain ⟨px,row,rfl,_,er,_,hpx⟩:=q3 i x ex
     obtain ⟨tz,et,rfl⟩:=b_Z ey
     have wr:=mw row (zqb er)
     have sq:=Same.new (o:=.tup [.ref px,.int tz]) hq
     refine ⟨q,[.ref px,.int tz],rfl,SqT.of a_F,rfl,_,[.int tz],rfl,_,[],rfl,rfl,?_⟩
     have s3:=s2.trans sq
     generalize upd H2 q (.tup [.ref px,.int tz])=H3 at s3
     have hP3:=hP.up s3
     have hr3:=s3 _ _ h1
     subst eB
     show tSeq _ _ _ [some (.ref r),some (.ref ar),some (.ref tp),some (.int low),some (.bl b),some (.int (if b=true then low else 0)),v6,some (.ref px),some (.int tz)] H3
     refine st fun N2 e2=>?_
     walk_at "r"
     refine ⟨true,r,_,_,_,rfl,rfl,SqB.tup hr3,rfl,?_⟩
     refine h_h hP3 fun x0 hx0=>?_
     refine ⟨false,true,px,x0,row,ns,rfl,SqB.lst (s3 _ _ hpx),SqB.tup hx0,by omega,by omega,i_u (mb row (zqb er)) nb (by omega),fun H4 s4=>?_⟩
     walk_at "r"
     refine ⟨IntMulOk.of_right (intBits_le_64 (by omega) (by omega)),?_⟩
     refine ⟨true,r,_,_,_,rfl,rfl,SqB.tup (s4 _ _ hr3),rfl,?_⟩
     refine f_N (hP3.up s4) ⟨_,_,rfl,rfl,mulOk_of_bits (b_m (tb tz (zqb et))) (b_m wb) (by omega),?_⟩
     have lw:=low' i row tz er et
     walk_at "r"
     subst e2
     walk_at "r"
     cases b
     ·rw [if_neg (by decide),Int.zero_mul] at lw
      have x0:=Int.zero_dvd.mp lw
      rw [show (if false=true then low else (0:Int))=0 from rfl]
      refine ite2 (fun _=>ite2 (fun z=>?_) (fun _=>ite2 (fun z=>absurd (of_decide_eq_true z) (by decide)) (fun _=>⟨⟨_,rfl⟩,s3.trans s4⟩))) (fun z=>absurd (decide_eq_true rfl) z)
      rw [decide_eq_true x0] at z
      cases z
     ·rw [if_pos rfl] at lw
      rw [show (if true=true then low else (0:Int))=low from rfl]
      refine ite2 (fun z=>absurd (of_decide_eq_true z) lz) (fun _=>ite2 (fun _=>?_) (fun z=>absurd (decide_eq_true (show 0 < low by omega)) z))
      refine ⟨true,r,_,_,_,rfl,rfl,SqB.tup (s4 _ _ hr3),rfl,?_⟩
      refine f_N (hP3.up s4) ⟨_,_,rfl,rfl,IntMulOk.of_left (intBits_le_64 (by omega) (by omega)),?_⟩
      walk_at "r"
      refine ⟨Int.mul_ne_zero lz (by omega),?_⟩
      exact g_G (by rw [Int.fmod_eq_zero_of_dvd lw]; rfl) ⟨⟨_,rfl⟩,s3.trans s4⟩
    ·rintro σ H2 ⟨⟨v6,v7,v8,rfl⟩,s2⟩
     subst e1
     walk_at "r"
     refine ⟨true,r,_,_,_,rfl,rfl,SqB.tup (s2 _ _ h1),rfl,⟨rfl,?_⟩⟩
     exact hQ H2 s2
   ·refine ⟨true,r,_,_,_,rfl,rfl,SqB.tup h1,rfl,⟨rfl,?_⟩⟩
    refine ⟨_,rfl,iteT ?_⟩
    have hl:=n_L lz hn
    refine ⟨true,r,_,_,_,rfl,rfl,SqB.tup h1,rfl,?_⟩
    refine ⟨true,false,p,tp,ns,ts,rfl,SqB.tup hp,SqB.lst hT,by omega,by omega,i_u nb tb (by omega),fun H2 s2=>?_⟩
    walk_at "r"
    refine ⟨true,r,_,_,_,rfl,rfl,SqB.tup (s2 _ _ h1),rfl,?_⟩
    refine ⟨p,ar,ns,MA,n,d,B,rfl,s2 _ _ hp,hM.up s2,hR,n1,n40,d1,d12,hB,nl,nb,hz,fun H3 s3=>⟨_,rfl,iteT ?_⟩⟩
    cases b
    ·rw [if_neg (by decide)] at hl
     rw [show (if false=true then low else (0:Int))=0 from rfl]
     refine ite2 (fun _=>ite2 (fun _=>hQ H3 (s2.trans s3)) (fun z=>?_)) (fun z=>absurd (decide_eq_true rfl) z)
     exact absurd (by rw [decide_eq_false (fun w=>hl (Int.zero_dvd.mpr w))]; rfl) z
    ·rw [if_pos rfl] at hl
     rw [show (if true=true then low else (0:Int))=low from rfl]
     refine ite2 (fun z=>absurd (of_decide_eq_true z) lz) (fun _=>ite2 (fun _=>⟨lz,?_⟩) (fun z=>absurd (decide_eq_true (show 0 < low by omega)) z))
     rw [decide_eq_false (fun z=>hl (Int.dvd_of_fmod_eq_zero z))]
     exact hQ H3 (s2.trans s3)
  walk_at "r"
  cases b
  ·exact iteF key
  ·exact iteT key
theorem MatD.rev {H0 H:Hp} {a:Addr} {M:LM} (h:MatD H0 H a M):∃ zs,H a=some (.lst zs)/\MatD H0 (upd H a (.lst zs.reverse)) a M.reverse:=by
 obtain ⟨ps,h1,h2,h3,h4⟩:=h
 refine ⟨_,h1,ps.reverse,by rw [a_F,List.map_reverse],by simp [h2],List.pairwise_reverse.mpr (List.Pairwise.imp (fun h=>Ne.symm h) h3),fun i p r e1 e2=>?_⟩
 have i1:=(zqa e1).1
 rw [List.length_reverse] at i1
 rw [List.getElem?_reverse (by omega)] at e1 e2
 rw [← h2] at e2
 obtain ⟨n1,n2,n3⟩:=h4 _ p r e1 e2
 exact ⟨n1,n2,by rw [a_E n1]; exact n3⟩
theorem MatD.ev {K:Frag} {t:Adr} {H0 H H':Hp} {a:Addr} {M:LM} (h:MatD H0 H a M) (e:Ev K t [] H H'):MatD H0 H' a M:=by
 obtain ⟨ps,h1,h2,h3,h4⟩:=h
 exact ⟨ps,e.1 _ _ (fun z=>nomatch z) (fun _ z=>by cases z) h1,h2,h3,fun i p r e1 e2=>⟨(h4 i p r e1 e2).1,(h4 i p r e1 e2).2.1,e.1 _ _ (fun z=>nomatch z) (fun _ z=>by cases z) (h4 i p r e1 e2).2.2⟩⟩
theorem MatD.put {H0 H:Hp} {a b:Addr} {M:LM} {zs zs':List V} (h:MatD H0 H a M) (hb:H b=some (.lst zs)) (n:∀ ps:List Addr,H a=some (.lst (ps.map V.ref))->b ∉ a :: ps):MatD H0 (upd H b (.lst zs')) a M:=by
 obtain ⟨ps,h1,h2,h3,h4⟩:=h
 have nb:=n ps h1
 exact ⟨ps,by rw [a_E (fun z=>nb (by rw [z]; exact List.mem_cons_self))]; exact h1,h2,h3,fun i p r e1 e2=>⟨(h4 i p r e1 e2).1,(h4 i p r e1 e2).2.1,by rw [a_E (fun z=>nb (by rw [← z]; exact List.mem_cons_of_mem _ (zqb e1)))]; exact (h4 i p r e1 e2).2.2⟩⟩
theorem MatP.ev {K:Frag} {t:Adr} {S:List Addr} {H H':Hp} {a:Addr} {ps:List Addr} {M:LM} (h:MatP H a ps M) (e:Ev K t S H H') (n:∀ x∈a :: ps,x ∉ S):MatP H' a ps M :=
 ⟨e.1 _ _ (n _ List.mem_cons_self) (fun _ z=>by cases z) h.1,h.2.1,fun i p r e1 e2=>⟨(h.2.2 i p r e1 e2).1,e.1 _ _ (n _ (List.mem_cons_of_mem _ (zqb e1))) (fun _ z=>by cases z) (h.2.2 i p r e1 e2).2⟩⟩
noncomputable def LstS (S:List Addr) (H:Hp):Prop:=∀ a∈S,∃ zs,H a=some (.lst zs)
theorem Ev.tup {K:Frag} {t:Adr} {S:List Addr} {H H':Hp} {b:Addr} {xs:List V} (e:Ev K t S H H') (l:LstS S H) (h:H b=some (.tup xs)):H' b=some (.tup xs) :=
 e.1 _ _ (fun z=>by obtain ⟨zs,q⟩:=l b z; rw [q] at h; cases h) (fun _ z=>by cases z) h
theorem c_H.ev {K:Frag} {t:Adr} {S:List Addr} {H H':Hp} {v:V} {A:LM} {ts:List Int} {u mm:Int} {d n:Nat} (h:c_H H v A ts u mm d n) (e:Ev K t S H H') (l:LstS S H):c_H H' v A ts u mm d n:=by
 obtain ⟨r,rfl,h⟩:=h
 refine ⟨r,rfl,?_⟩
 rcases h with ⟨p,ns,w,h1,⟨x,h2,h3⟩,h4⟩ | ⟨p,ns,h1,h2,h4⟩
 ·exact .inl ⟨p,ns,w,e.tup l h1,⟨x,e.tup l h2,e.tup l h3⟩,h4⟩
 ·exact .inr ⟨p,ns,e.tup l h1,e.tup l h2,h4⟩
theorem LstS.nil {H:Hp}:LstS [] H:=fun _ z=>nomatch z
theorem Ev.over {K:Frag} {t:Adr} {S:List Addr} {H H1 H2:Hp} (a:Ev K t [] H H1) (b:Ev K t S H1 H2) (h:∀ x∈S,∀ o,(∀ ps,o≠.tbl ps)->H x≠some o):Ev K t [] H H2 :=
 ⟨fun c o _ h2 e=>b.1 c o (fun z=>h c z o h2 e) h2 (a.1 c o (fun z=>nomatch z) h2 e),fun T=>b.2 (a.2 T)⟩
theorem l_T {K:Frag} {t:Adr} {S:List Addr} {H H':Hp} (b:∀ x o,x ∉ S->H x=some o->H' x=some o) (l:LstS S H):Ev K t S H H':=Bt.ev b fun a ha=>.inr (.inl (l a ha))
noncomputable def Keep (H:Hp) (l:Addr) (F R U:LM):Prop:=∃ f g h,H l=some (.lst [.ref f,.ref g,.ref h])/\MatL H f F/\MatL H g R/\MatL H h U
noncomputable def o_a (F R U:LM):PyData:=.list [matD false false F,matD false false R,matD false false U]
theorem Keep.dt {K:Frag} {H:Hp} {l:Addr} {F R U:LM} (h:Keep H l F R U):Dt K H (.ref l) (o_a F R U):=by
 obtain ⟨f,g,h,e,h1,h2,h3⟩:=h
 exact .lst (SqL.of e) (.cons (Dt.matB h1.b) (.cons (Dt.matB h2.b) (.cons (Dt.matB h3.b) .nil)))
theorem j_U (F R U:LM):iT 3 (o_a F R U)=true:=by
 show ([matD false false F,matD false false R,matD false false U]).all (iT 2)=true
 simp [g_t false false 0 F,g_t false false 0 R,g_t false false 0 U]
theorem Kept.ev {K:Frag} {t:Adr} {S:List Addr} {H0 H H':Hp} {l:Addr} {F R U:LM} (h:Kept H0 H l F R U) (e:Ev K t S H H') (n:∀ x∈S,H0 x≠none):Kept H0 H' l F R U:=by
 obtain ⟨f,g,h,e1,e0,⟨ps,p1,p2⟩,⟨qs,q1,q2⟩,⟨us,u1,u2⟩⟩:=h
 have no:∀ {x:Addr},H0 x=none->x ∉ S:=fun hx z=>n _ z hx
 exact ⟨f,g,h,e.1 _ _ (no e0) (fun _ z=>by cases z) e1,e0,⟨ps,p1.ev e (fun x hx=>no (p2 x (List.mem_cons.mp hx))),p2⟩,⟨qs,q1.ev e (fun x hx=>no (q2 x (List.mem_cons.mp hx))),q2⟩,⟨us,u1.ev e (fun x hx=>no (u2 x (List.mem_cons.mp hx))),u2⟩⟩
theorem Kept.keep {H0 H:Hp} {l:Addr} {F R U:LM} (h:Kept H0 H l F R U):Keep H l F R U:=by
 obtain ⟨f,g,h,e1,_,⟨ps,p1,_⟩,⟨qs,q1,_⟩,⟨us,u1,_⟩⟩:=h
 exact ⟨f,g,h,e1,p1.l,q1.l,u1.l⟩
theorem Keep.up {H H':Hp} {l:Addr} {F R U:LM} (h:Keep H l F R U) (s:Same H H'):Keep H' l F R U:=by
 obtain ⟨f,g,h,e,h1,h2,h3⟩:=h
 exact ⟨f,g,h,s _ _ e,h1.up s,h2.up s,h3.up s⟩
theorem l_U {d n:Nat} {A:LM} {ks ks':List Nat} {F R C F' R' C':LM} (h:Sta d n A ks F R C) (h':Sta d n A ks' F' R' C') (hA:A.length=n) (hw:∀ r∈A,r.length=d):F=F' :=
 Frm.same h.frm h'.frm (fun r hr=>Lat.trans (j_K h' hA hw) (j_J h hA r hr)) (fun r hr=>Lat.trans (j_K h hA hw) (j_J h' hA r hr))
theorem ok_x (T:Txt K mg t) (Gs:Gd P mg base):FnOk P w K mg base CX0 46 t.a_x t.d_x ["_law_script"] (i_W K [t.a_0,t.a_u,t.a_1]):=by
 have G_h:=@ok_h P w K mg base t T
 have G_7:=@ok_7 P w K mg base t T
 have G_6:FnOk P w K mg base CX0 39 t.a_6 t.d_6 ["_law_rows_here","_law_tops","_law_whole"] (sp_6 K t):=ok_6 T Gs
 have G_f:FnOk P w K mg base CX0 35 t.a_f t.d_f ["rows"] (sp_f K t):=ok_f T Gs
 have G_e:=@ok_e P w K mg base t T
 have G_u:FnOk P w K mg base (CX1 P w) 38 t.a_u t.d_u ["rows","tops","under"] (sp_u K t):=ok_u T Gs
 have G_1:FnOk P w K mg base (CX1 P w) 38 t.a_1 t.d_1 ["rows","tops","under"] (sp_1 K t):=ok_1 T Gs
 have G_b:=@ok_b P w K mg base t T
 refine T.F_x.ok sc_x (by walk_at "v") (fun cdv A outer s H vs Q E hr h=>?_)
 ·obtain ⟨a,ns,rfl,hS,hl,hb,htb,hQ⟩:=h
  have hu:=hr.units
  refine ⟨_,(a_C (a_L (i:=1) sc_x.nd rfl (Or.inl rfl) (a_K G_h hr.mo rfl T.m_h T.F_h.kp T.b_h .nil a_W (a_A (pv 0) a_B)))
   (a_C (a_L (i:=2) sc_x.nd rfl (Or.inl rfl) (a_J a_U rfl T.z_len (by decide +kernel) (a_A (pv 1) a_B)))
   (a_C (c_q (i:=3) (xs:=["_law_k"]) (fr:=[("_law_script",0)]) (g:=(a_R 0)) (tt:=(tEl (tOp (rI0 fun i j=>.int (i - j)) (tOp (rI (fun _ j=>j≠0) fun i j=>.int (i.fmod j)) (d_Q (sp_7 K) [] E0 (b_O (tVar 1) (b_O (tVar 0) tNil))) (tC (.int 41))) (tC (.int 20))))) (a_T (sc:=a_G s_x) (N:=N_x) rfl rfl (by decide +kernel)) rfl sc_x.nd rfl rfl (c_f rfl T.z_range (a_A (pv 2) a_B)) (fun _ _ _ hE1=>(b_z (N:=["_law_k","_law_script"]) (i:=0) hE1 rfl (by decide +kernel))) (fun _ _ _ hE1=>(c_g (a_O d_m (a_O b_Q (a_K G_7 hr.mo rfl T.m_7 T.F_7.kp T.b_7 .nil a_W (a_A (pv 1) (a_A (pv 0) a_B))) a_D) a_D))))
   (a_C (a_L (i:=4) sc_x.nd rfl (Or.inl rfl) (a_O c_K a_D (a_O b_Q (a_K G_7 hr.mo rfl T.m_7 T.F_7.kp T.b_7 .nil a_W (a_A (pv 0) (a_A (pv 2) a_B))) a_D)))
   (a_C (b_W (PW.pt (k_v (e_V (c_C (a_K G_6 hr.mo rfl T.m_6 T.F_6.kp T.b_6 .nil a_W (a_A (pv 1) (a_A (pv 3) (a_A c_Q a_B)))))) (i_w (e_V (c_C (a_K G_6 hr.mo rfl T.m_6 T.F_6.kp T.b_6 .nil a_W (a_A (pv 1) (a_A (pv 3) (a_A c_Q a_B)))))))))
   (a_I (a_S c_Q))
   b_y)
   (a_C (a_L (i:=5) sc_x.nd rfl (Or.inl rfl) (c_L (a_A (b_G (xs:=["_law_row"]) (fr:=[]) (g:=(a_R 0)) (tt:=(tEl (tCB (e_c K) (b_O (tVar 0) tNil)))) (a_T (sc:=a_G s_x) (N:=N_x) rfl rfl (by decide +kernel)) rfl (c_r (pv 1)) (fun _ _ _ hE1=>(b_z (N:=["_law_row"]) (i:=0) hE1 rfl (by decide +kernel))) (fun _ _ _ hE1=>(c_g (c_l d_L rfl T.z_list (by decide +kernel) (a_A (pv 0) a_B))))) (a_A (c_l d_L rfl T.z_list (by decide +kernel) (a_A (pv 3) a_B)) a_B))))
   (a_C (a_L (i:=6) sc_x.nd rfl (Or.inl rfl) (a_K G_f hr.mo rfl T.m_f T.F_f.kp T.b_f .nil a_W (a_A (px (pv 5) a_D) a_B)))
   (a_C (a_L (i:=7) sc_x.nd rfl (Or.inl rfl) (a_K G_e hr.mo rfl T.m_e T.F_e.kp T.b_e .nil a_W (a_A (pv 6) a_B)))
   (a_C (a_L (i:=8) sc_x.nd rfl (Or.inl rfl) (a_K G_u hr.mo rfl T.m_u T.F_u.kp T.b_u .nil e_r (a_A (px (pv 5) a_D) (a_A (px (pv 5) a_D) (a_A (pv 4) a_B)))))
   (a_C (a_L (i:=9) sc_x.nd rfl (Or.inl rfl) (a_K G_1 hr.mo rfl T.m_1 T.F_1.kp T.b_1 .nil e_r (a_A (px (pv 5) a_D) (a_A (px (pv 5) a_D) (a_A (pv 4) a_B)))))
   (a_C (d_V (a_O c_K (px (px (px (pv 5) a_D) a_D) a_D) a_D) (d_U (px (px (pv 5) a_D) a_D) a_D c_A))
   (a_C (b_L (h_q PySem.F.plainAttrs_list PySem.F.slot_list_reverse PySem.F.type_list_reverse i_I (px (pv 5) a_D)))
   (a_C (d_V (a_O c_K (px (px (pv 5) a_D) a_D) a_D) (d_U (px (pv 5) a_D) a_D c_A))
   (a_C (b_L (a_K G_f hr.mo rfl T.m_f T.F_f.kp T.b_f .nil a_W (a_A (px (pv 5) a_D) a_B)))
   (a_C (b_L (a_K G_u hr.mo rfl T.m_u T.F_u.kp T.b_u .nil e_r (a_A (px (pv 5) a_D) (a_A (px (pv 5) a_D) (a_A (pv 4) a_B)))))
   (a_C (b_L (a_K G_1 hr.mo rfl T.m_1 T.F_1.kp T.b_1 .nil e_r (a_A (px (pv 5) a_D) (a_A (px (pv 5) a_D) (a_A (pv 4) a_B)))))
   (a_C (b_W (a_X (k_P hu) (a_K G_e hr.mo rfl T.m_e T.F_e.kp T.b_e .nil a_W (a_A (pv 6) a_B)) (pv 7) (a_V _))
   (a_I (a_S c_Q))
   b_y)
   (a_C (b_W (PW.pt (k_v (e_V (c_C (a_K G_b hr.mo rfl T.m_b T.F_b.kp T.b_b .nil a_W (a_A (pv 8) (a_A (pv 1) (a_A (pv 3) (a_A (pv 4) (a_A c_Q a_B)))))))) (i_w (e_V (c_C (a_K G_b hr.mo rfl T.m_b T.F_b.kp T.b_b .nil a_W (a_A (pv 9) (a_A (pv 1) (a_A (pv 3) (a_A (pv 4) (a_A c_Q a_B)))))))))))
   (a_I (a_S c_Q))
   b_y)
   (a_C (b_L (h_q PySem.F.plainAttrs_list PySem.F.slot_list_clear PySem.F.type_list_clear g_m (px (pv 6) a_D)))
   (a_C (b_L (h_q PySem.F.plainAttrs_list PySem.F.slot_list_clear PySem.F.type_list_clear g_m (px (pv 6) a_D)))
   (a_C (b_L (h_q PySem.F.plainAttrs_list PySem.F.slot_list_clear PySem.F.type_list_clear g_m (px (pv 6) a_D)))
   (a_C (b_W (a_X (k_P hu) (px (a_K G_f hr.mo rfl T.m_f T.F_f.kp T.b_f .nil a_W (a_A (pv 1) a_B)) a_D) (px (pv 7) a_D) (a_V _))
   (a_I (a_S c_Q))
   b_y)
   (a_I (a_S (a_K G_b hr.mo rfl T.m_b T.F_b.kp T.b_b .nil a_W (a_A (a_K G_u hr.mo rfl T.m_u T.F_u.kp T.b_u .nil e_r (a_A (pv 1) (a_A (pv 3) (a_A (pv 4) a_B)))) (a_A (pv 1) (a_A (pv 3) (a_A (pv 4) (a_A c_Q a_B)))))))))))))))))))))))))))))),?_⟩
  show tSeq _ _ _ [some (.ref a),none,none,none,none,none,none,none,none,none] H
  have tt:TT K t H:=⟨.inl (htb _ (by simp)),.inl (htb _ (by simp)),.inl (htb _ (by simp)),fun z=>by
   have:=T.h_r
   rw [z] at this
   simp at this,fun z=>by
   have:=T.h_s
   rw [z] at this
   simp at this,fun z=>by
   have:=T.h_t
   rw [z] at this
   simp at this⟩
  have eU:uS=1048576:=rfl
  have eW:wB=4194304:=rfl
  refine st fun N1 e1=>?_
  walk_at "r"
  refine ⟨a,ns,rfl,hS,hl,fun ar H1 MA n d B s1 hM hR hfit n1 n40 d1 d12=>?_⟩
  obtain ⟨mn,mw,mb⟩:=id hR
  have hB:B+1<=uS:=(hfit 0 (by omega) (by omega)).1
  have mb1:BdM (2 ^ (B+1)) MA:=fun r hr z hz=>Nat.le_trans (mb r hr z hz) (Nat.pow_le_pow_right (by decide) (by omega))
  subst e1
  refine st fun N1 e1=>?_
  walk_at "r"
  refine e_u (hM.b (K:=K)) ?_
  rw [mn]
  subst e1
  refine st fun N1 e1=>?_
  have hS1:=s1.seq hS
  simp only [c_F]
  refine a_Y fun B1 eB1=>?_
  simp only [d_W]
  walk_at "r"
  refine ⟨by omega,by omega,fun tl htl=>?_⟩
  rw [Int.toNat_natCast]
  refine e_e (fun _ y _=>∃ x,y=.int x/\x.natAbs<=20) htl (by omega) (fun _ _ _ _ r _=>r) ?_ ?_
  ·intro k H2 zs hk s2 ez Q' hQ'
   subst eB1
   show tOp _ _ _ [some (.int (0+(k:Int))),some (.ref a)] H2 Q'
   walk_at "r"
   refine ⟨a,ns,_,rfl,s2.seq hS1,by omega,fun z=>?_⟩
   walk_at "r"
   have f2:=Int.fmod_nonneg_of_pos z (show (0:Int) < 41 by decide)
   have f3:=Int.fmod_lt_of_pos z (show (0:Int) < 41 by decide)
   exact ⟨by decide,hQ' _ _ (Same.refl _) ⟨_,rfl,by omega⟩⟩
  ·intro H2 ys s2 el hly hr2
   obtain ⟨ts,rfl,tb⟩:∃ xs:List Int,ys=xs.map V.int/\∀ x∈xs,x.natAbs<=20:=by
    clear el hly
    induction ys with
    | nil=>exact ⟨[],rfl,fun x hx=>by simp at hx⟩
    | cons y r ih =>
     obtain ⟨x,rfl,sx⟩:=hr2 0 y rfl
     obtain ⟨xs,rfl,hs⟩:=ih fun j z e=>hr2 (j+1) z (by simpa using e)
     exact ⟨x :: xs,rfl,fun z hz=>(List.mem_cons.mp hz).elim (fun e=>e ▸ sx) (hs z)⟩
   have tsl:ts.length=n:=by simpa using hly
   have pw:∀ {m:Nat},m<=21->∀ E:Nat,m<=2 ^ (E+5):=fun {m} hm E=>Nat.le_trans (show m<=2 ^ 5 by omega) (Nat.pow_le_pow_right (by decide) (by omega))
   have tb90:∀ z∈ts,z.natAbs<=2 ^ (B+1+90):=fun z hz=>Nat.le_trans (pw (show z.natAbs<=21 by have:=tb z hz; omega) (B+86)) (Nat.pow_le_pow_right (by decide) (by omega))
   have tb75:∀ z∈ts,z.natAbs<=2 ^ (B+75):=fun z hz=>Nat.le_trans (pw (show z.natAbs<=21 by have:=tb z hz; omega) (B+70)) (Nat.pow_le_pow_right (by decide) (by omega))
   have hM2:=hM.up s2
   have hS2:=s2.seq hS1
   show N1 [some (.ref a),some (.ref ar),some (.int n),some (.ref tl),none,none,none,none,none,none] H2
   clear hr2 hly
   subst e1
   refine st fun N1 e1=>?_
   walk_at "r"
   refine ⟨a,ns,_,rfl,hS2,by omega,fun z=>?_⟩
   walk_at "r"
   refine ⟨by decide,?_⟩
   have f2:=Int.fmod_nonneg_of_pos z (show (0:Int) < 30 by decide)
   have f3:=Int.fmod_lt_of_pos z (show (0:Int) < 30 by decide)
   obtain ⟨low,elow,l0,l30⟩:∃ low:Int,1+z.fmod 30=low/\1<=low/\low<=30:=⟨_,rfl,by omega,by omega⟩
   rw [elow]
   have lz:low≠0:=by omega
   have l90:low.natAbs<=2 ^ 90:=Nat.le_trans (show low.natAbs<=2 ^ 5 by omega) (Nat.pow_le_pow_right (by decide) (by omega))
   subst e1
   refine st fun N1 e1=>?_
   walk_at "r"
   have tt2:TT K t H2:=(a_P (S:=[]) (s1.trans s2)).2 tt
   refine ⟨ar,tl,true,MA,ts,d,n,B+1,rfl,hM2,el,mn,mw,n1,by omega,d1,d12,mb1,hfit,tsl,tb90,tt2,fun H3 s3=>⟨_,rfl,g_G (by decide) ?_⟩⟩
   refine ⟨ar,tl,false,MA,ts,d,n,B+1,rfl,hM2.up s3,s3 _ _ el,mn,mw,n1,by omega,d1,d12,mb1,hfit,tsl,tb90,(a_P (S:=[]) s3).2 tt2,fun H4 s4=>⟨_,rfl,g_G (by decide) ?_⟩⟩
   have hM4:=(hM2.up s3).up s4
   have el4:=s4 _ _ (s3 _ _ el)
   have tt4:TT K t H4:=(a_P (S:=[]) (s3.trans s4)).2 tt2
   clear hM2 tt2 hS1 hS2 hM
   subst e1
   refine st fun N1 e1=>?_
   walk_at "r"
   refine a_Y fun B1 eB1=>?_
   simp only [iSeq]
   walk_at "r"
   obtain ⟨psM,pm1,_⟩:=id hM4
   refine ⟨false,⟨_,SqB.lst pm1⟩,fun c1 hc1=>?_⟩
   subst eB1
   refine i_S (hM4.b (K:=K)) (by omega) hc1 fun H5 s5 hC=>?_
   refine ⟨false,tl,_,rfl,SqB.lst (s5 _ _ el4),fun tp htp=>?_⟩
   have ntp4:H4 tp=none:=c_J s5 htp
   have s6:Same H5 (upd H5 tp (.lst (ts.map V.int))):=Same.new htp
   have e6:(upd H5 tp (.lst (ts.map V.int))) tp=some (.lst (ts.map V.int)):=a_F
   generalize upd H5 tp (.lst (ts.map V.int))=H6 at s6 e6
   refine ⟨(by show 2<=sizeLine; decide),fun hd hhd=>?_⟩
   have s7:Same H6 (upd H6 hd (.lst [.ref c1,.ref tp])):=Same.new hhd
   have e7:(upd H6 hd (.lst [.ref c1,.ref tp])) hd=some (.lst [.ref c1,.ref tp]):=a_F
   generalize upd H6 hd (.lst [.ref c1,.ref tp])=H7 at s7 e7
   have hC7:=(hC.up s6).up s7
   have et7:=s7 _ _ e6
   have s47:=s5.trans (s6.trans s7)
   have tt7:TT K t H7:=(a_P (S:=[]) s47).2 tt4
   obtain ⟨ps5,k1,k2,k3,k4⟩:=id hC
   have row5:∀ p∈ps5,∃ zs,H5 p=some (.lst zs):=fun p hp=>by
    obtain ⟨i,hi,rfl⟩:=List.getElem_of_mem hp
    exact ⟨_,(k4 i _ _ (zqd hi) (zqd (show i < MA.length by omega))).2.2⟩
   have notp:tp ∉ c1 :: ps5:=fun z=>by
    rcases List.mem_cons.mp z with z | z
    ·rw [z,k1] at htp; cases htp
    ·obtain ⟨zs,e⟩:=row5 _ z
     rw [e] at htp; cases htp
   have hd5:∀ x o,H6 x=some o->x≠hd:=fun x o e=>a_H e hhd
   have in6:∀ x∈tp :: c1 :: ps5,∃ zs,H6 x=some (.lst zs):=fun x hx=>by
    rcases List.mem_cons.mp hx with z | z
    ·rw [z]; exact ⟨_,e6⟩
    ·rcases List.mem_cons.mp z with z | z
     ·rw [z]; exact ⟨_,s6 _ _ k1⟩
     ·obtain ⟨zs,e⟩:=row5 _ z
      exact ⟨zs,s6 _ _ e⟩
   have in7:∀ x∈tp :: c1 :: ps5,∃ zs,H7 x=some (.lst zs):=fun x hx=>let ⟨zs,e⟩:=in6 x hx; ⟨zs,s7 _ _ e⟩
   have k17:=s7 _ _ (s6 _ _ k1)
   clear hC s6 e6
   subst e1
   refine st fun N1 e1=>?_
   walk_at "r"
   refine ⟨false,hd,_,_,_,rfl,rfl,SqB.lst e7,rfl,?_⟩
   refine ⟨false,false,c1,MA,d,n,B+1,rfl,hC7.l.b,mn,mw,n1,by omega,by omega,mb1,hfit,tt7,fun r f g h F R C ks H8 ev8 tt8 er _ sta new=>?_⟩
   obtain ⟨ps,qs,us,pF,pR,pU,gf,hf,hg,new⟩:=new
   have ul:(g_v n C).length=n:=by simp [g_v]
   subst e1
   refine st fun N1 e1=>?_
   walk_at "r"
   refine ⟨r,f,g,h,F,R,g_v n C,rfl,er,pF.l,pR.l,pU.l,by rw [sta.fl]; omega,by rw [sta.rl]; omega,by omega,fun l H9 s9 hK=>?_⟩
   have ev9:Ev K t [] H7 H9:=ev8.trans (a_P s9)
   have tt9:=(a_P (S:=[]) s9).2 tt8
   subst e1
   refine st fun N1 e1=>?_
   walk_at "r"
   have e9:H9 hd=some (.lst [.ref c1,.ref tp]):=ev9.1 _ _ (fun z=>nomatch z) (fun _ z=>by cases z) e7
   have et9:H9 tp=some (.lst (ts.map V.int)):=ev9.1 _ _ (fun z=>nomatch z) (fun _ z=>by cases z) et7
   have hC9:=MatD.ev hC7 ev9
   refine ⟨false,hd,_,_,_,rfl,rfl,SqB.lst e9,rfl,false,hd,_,_,_,rfl,rfl,SqB.lst e9,rfl,?_⟩
   refine ⟨false,false,false,c1,tp,MA,ts,low,d,n,B+1,rfl,hC9.l.b,SqB.lst et9,mn,mw,n1,by omega,d1,d12,mb1,hfit,l90,tsl,tb90,tt9,fun z=>absurd z lz,fun _ v1 H10 ev10 tt10 hm1=>?_⟩
   subst e1
   refine st fun N1 e1=>?_
   walk_at "r"
   have e10:H10 hd=some (.lst [.ref c1,.ref tp]):=ev10.1 _ _ (fun z=>nomatch z) (fun _ z=>by cases z) e9
   have et10:H10 tp=some (.lst (ts.map V.int)):=ev10.1 _ _ (fun z=>nomatch z) (fun _ z=>by cases z) et9
   have hC10:=MatD.ev hC9 ev10
   refine ⟨false,hd,_,_,_,rfl,rfl,SqB.lst e10,rfl,false,hd,_,_,_,rfl,rfl,SqB.lst e10,rfl,?_⟩
   refine ⟨false,false,false,c1,tp,MA,ts,low,d,n,B+1,rfl,hC10.l.b,SqB.lst et10,mn,mw,n1,by omega,d1,d12,mb1,hfit,l90,tsl,tb90,tt10,fun z=>absurd z lz,fun _ v2 H11 ev11 tt11 hm2=>?_⟩
   subst e1
   refine st fun N1 e1=>?_
   walk_at "r"
   have e11:H11 hd=some (.lst [.ref c1,.ref tp]):=ev11.1 _ _ (fun z=>nomatch z) (fun _ z=>by cases z) e10
   have et11:H11 tp=some (.lst (ts.map V.int)):=ev11.1 _ _ (fun z=>nomatch z) (fun _ z=>by cases z) et10
   have hC11:=MatD.ev hC10 ev11
   obtain ⟨r0,e0⟩:∃ r0,MA[0]?=some r0:=⟨_,zqd (by omega)⟩
   have wr0:=mw r0 (zqb e0)
   obtain ⟨zs0,p0,z1,z2,z3,pc,p4,z4,hrow⟩:=hC11.row e0
   refine ⟨false,hd,_,_,_,rfl,rfl,SqB.lst e11,rfl,?_⟩
   refine ⟨false,c1,_,_,_,rfl,rfl,SqB.lst z1,b_H z2 rfl,?_⟩
   refine ⟨false,p0,_,_,_,rfl,rfl,SqB.lst z4,b_H (c_N (b_R (show 0 < r0.length by omega))) rfl,?_⟩
   walk_at "r"
   simp only [gSub]
   walk_at "r"
   refine ⟨false,hd,_,_,_,rfl,rfl,SqB.lst e11,rfl,?_⟩
   refine ⟨false,c1,_,_,_,rfl,rfl,SqB.lst z1,b_H z2 rfl,?_⟩
   refine ⟨p0,_,_,0,rfl,rfl,z4,(by rw [zqe]; exact c_X (show (0:Nat) < r0.length by omega)),?_⟩
   rw [← List.map_set]
   have hC12:=hrow (r0.set 0 (r0.getD 0 0+1))
   have evA:Ev K t [] H7 H11:=(ev9.trans ev10).trans ev11
   have k111:H11 c1=some (.lst (ps5.map V.ref)):=evA.1 _ _ (fun z=>nomatch z) (fun _ z=>by cases z) k17
   rw [k111] at z1
   cases z1
   have p05:p0∈ps5:=by
    rw [List.getElem?_map] at z2
    cases q:ps5[0]? with
    | none=>rw [q] at z2; cases z2
    | some x=>rw [q] at z2; cases z2; exact zqb q
   have inS:∀ x∈[p0,c1,tp],x∈tp :: c1 :: ps5:=fun x hx=>by
    simp only [List.mem_cons,List.not_mem_nil,or_false] at hx ⊢
    rcases hx with rfl | rfl | rfl
    ·exact .inr (.inr p05)
    ·exact .inr (.inl rfl)
    ·exact .inl rfl
   have in11:∀ x∈[p0,c1,tp],∃ zs,H11 x=some (.lst zs):=fun x hx=>by
    obtain ⟨zs,e⟩:=in7 x (inS x hx)
    exact ⟨zs,evA.1 _ _ (fun z=>nomatch z) (fun _ z=>by cases z) e⟩
   have ptp:tp≠p0:=fun z=>notp (by rw [z]; exact List.mem_cons_of_mem _ p05)
   have ctp:tp≠c1:=fun z=>notp (by rw [z]; exact List.mem_cons_self)
   have keep12:∀ x o,x≠p0->H11 x=some o->(upd H11 p0 (.lst ((r0.set 0 (r0.getD 0 0+1)).map V.int))) x=some o:=fun x o hx e=>by rw [a_E hx]; exact e
   generalize upd H11 p0 (.lst ((r0.set 0 (r0.getD 0 0+1)).map V.int))=H12 at hC12 keep12 ⊢
   have hdS:∀ x∈[p0,c1,tp],hd≠x:=fun x hx=>let ⟨zs,e⟩:=in6 x (inS x hx); Ne.symm (hd5 x _ e)
   have e12:=keep12 _ _ (hdS _ (by simp)) e11
   have et12:=keep12 _ _ ptp et11
   obtain ⟨zs1,y1,y2⟩:=MatD.rev hC12
   have y1':=keep12 _ _ (Ne.symm pc) k111
   rw [y1'] at y1
   cases y1
   subst e1
   refine st fun N1 e1=>?_
   walk_at "r"
   refine ⟨false,hd,_,_,_,rfl,rfl,SqB.lst e12,rfl,.inl ⟨rfl,_,SqL.of y1'⟩,c1,_,rfl,rfl,y1',?_⟩
   have keep13:∀ x o,x≠c1->H12 x=some o->(upd H12 c1 (.lst (ps5.map V.ref).reverse)) x=some o:=fun x o hx e=>by rw [a_E hx]; exact e
   have y3:(upd H12 c1 (.lst (ps5.map V.ref).reverse)) c1=some (.lst (ps5.map V.ref).reverse):=a_F
   generalize upd H12 c1 (.lst (ps5.map V.ref).reverse)=H13 at y2 y3 keep13 ⊢
   have e13:=keep13 _ _ (hdS _ (by simp)) e12
   have et13:=keep13 _ _ ctp et12
   subst e1
   refine st fun N1 e1=>?_
   walk_at "r"
   refine ⟨false,hd,_,_,_,rfl,rfl,SqB.lst e13,rfl,?_⟩
   refine ⟨false,tp,_,_,_,rfl,rfl,SqB.lst et13,b_H (c_N (b_R (show 0 < ts.length by omega))) rfl,?_⟩
   walk_at "r"
   simp only [gSub]
   walk_at "r"
   refine ⟨false,hd,_,_,_,rfl,rfl,SqB.lst e13,rfl,?_⟩
   refine ⟨tp,_,_,0,rfl,rfl,et13,(by rw [zqe]; exact c_X (show (0:Nat) < ts.length by omega)),?_⟩
   rw [← List.map_set]
   have hC14:=MatD.put (zs':=(ts.set 0 (ts.getD 0 0+1)).map V.int) y2 et13 fun ps' q=>fun z=>by
    rw [y3] at q
    have q2:(ps5.map V.ref).reverse=ps'.map V.ref:=HO.lst.inj (Option.some.inj q)
    rcases List.mem_cons.mp z with z | z
    ·exact ctp z
    ·have z2:V.ref tp∈(ps5.map V.ref).reverse:=by rw [q2]; exact List.mem_map_of_mem z
     obtain ⟨y,hy,ey⟩:=List.mem_map.mp (List.mem_reverse.mp z2)
     cases ey
     exact notp (List.mem_cons_of_mem _ hy)
   have evS:Ev K t [p0,c1,tp] H11 (upd H13 tp (.lst ((ts.set 0 (ts.getD 0 0+1)).map V.int))):=l_T (fun x o hx e=>by
    have hx':x≠p0/\x≠c1/\x≠tp:=by simpa using hx
    rw [a_E hx'.2.2]
    exact keep13 _ _ hx'.2.1 (keep12 _ _ hx'.1 e)) in11
   have et14:(upd H13 tp (.lst ((ts.set 0 (ts.getD 0 0+1)).map V.int))) tp=some (.lst ((ts.set 0 (ts.getD 0 0+1)).map V.int)):=a_F
   have e14:=evS.1 _ _ (fun z=>hdS _ z rfl) (fun _ z=>by cases z) e11
   show N1 _ (upd H13 tp (.lst ((ts.set 0 (ts.getD 0 0+1)).map V.int)))
   generalize upd H13 tp (.lst ((ts.set 0 (ts.getD 0 0+1)).map V.int))=H14 at hC14 evS et14 e14 ⊢
   clear keep12 keep13 y2 y3 e12 et12 e13 et13 hC12 hrow
   have tt14:=evS.2 tt11
   have two:2 ^ (B+1)=2*2 ^ B:=by rw [Nat.pow_succ]; omega
   have one:1<=2 ^ B:=Nat.two_pow_pos _
   have br0:∀ z∈r0.set 0 (r0.getD 0 0+1),z.natAbs<=2 ^ (B+1):=fun z hz=>by
    rcases b_S hz with e | e
    ·have:=d_O (k:=0) (mb r0 (zqb e0))
     rw [e]
     omega
    ·exact mb1 r0 (zqb e0) z e
   have memM:∀ x∈(MA.set 0 (r0.set 0 (r0.getD 0 0+1))).reverse,x=r0.set 0 (r0.getD 0 0+1)\/x∈MA:=fun x hx=>b_S (List.mem_reverse.mp hx)
   have mn':(MA.set 0 (r0.set 0 (r0.getD 0 0+1))).reverse.length=n:=by rw [List.length_reverse,List.length_set]; exact mn
   have mw':∀ x∈(MA.set 0 (r0.set 0 (r0.getD 0 0+1))).reverse,x.length=d:=fun x hx=>by
    rcases memM x hx with e | e
    ·rw [e,List.length_set]; exact wr0
    ·exact mw x e
   have mb':BdM (2 ^ (B+1)) (MA.set 0 (r0.set 0 (r0.getD 0 0+1))).reverse:=fun x hx z hz=>by
    rcases memM x hx with e | e
    ·rw [e] at hz; exact br0 z hz
    ·exact mb1 x e z hz
   have tsl':(ts.set 0 (ts.getD 0 0+1)).length=n:=by rw [List.length_set]; exact tsl
   have tb':∀ z∈ts.set 0 (ts.getD 0 0+1),z.natAbs<=2 ^ (B+1+90):=fun z hz=>by
    refine Nat.le_trans (pw (show z.natAbs<=21 from ?_) (B+86)) (Nat.pow_le_pow_right (by decide) (by omega))
    rcases b_S hz with e | e
    ·have:=tb _ (L2.getD_mem (show 0 < ts.length by omega))
     rw [e]
     omega
    ·have:=tb z e; omega
   have hC14:=hC14.l
   generalize (MA.set 0 (r0.set 0 (r0.getD 0 0+1))).reverse=MB at hC14 mn' mw' mb' memM
   generalize ts.set 0 (ts.getD 0 0+1)=us' at et14 tsl' tb'
   subst e1
   refine st fun N1 e1=>?_
   walk_at "r"
   refine ⟨false,hd,_,_,_,rfl,rfl,SqB.lst e14,rfl,?_⟩
   refine ⟨false,false,c1,MB,d,n,B+1,rfl,hC14.b,mn',mw',n1,by omega,by omega,mb',hfit,tt14,fun _ _ _ _ _ _ _ _ H15 ev15 tt15 _ _ _ _=>?_⟩
   have e15:H15 hd=some (.lst [.ref c1,.ref tp]):=ev15.1 _ _ (fun z=>nomatch z) (fun _ z=>by cases z) e14
   have et15:H15 tp=some (.lst (us'.map V.int)):=ev15.1 _ _ (fun z=>nomatch z) (fun _ z=>by cases z) et14
   have hC15:=c_W hC14 ev15 (fun z=>nomatch z) (fun _ z=>nomatch z)
   subst e1
   refine st fun N1 e1=>?_
   walk_at "r"
   refine ⟨false,hd,_,_,_,rfl,rfl,SqB.lst e15,rfl,false,hd,_,_,_,rfl,rfl,SqB.lst e15,rfl,?_⟩
   refine ⟨false,false,false,c1,tp,MB,us',low,d,n,B+1,rfl,hC15.b,SqB.lst et15,mn',mw',n1,by omega,d1,d12,mb',hfit,l90,tsl',tb',tt15,fun z=>absurd z lz,fun _ _ H16 ev16 tt16 _=>?_⟩
   have e16:H16 hd=some (.lst [.ref c1,.ref tp]):=ev16.1 _ _ (fun z=>nomatch z) (fun _ z=>by cases z) e15
   have et16:H16 tp=some (.lst (us'.map V.int)):=ev16.1 _ _ (fun z=>nomatch z) (fun _ z=>by cases z) et15
   have hC16:=c_W hC15 ev16 (fun z=>nomatch z) (fun _ z=>nomatch z)
   subst e1
   refine st fun N1 e1=>?_
   walk_at "r"
   refine ⟨false,hd,_,_,_,rfl,rfl,SqB.lst e16,rfl,false,hd,_,_,_,rfl,rfl,SqB.lst e16,rfl,?_⟩
   refine ⟨false,false,false,c1,tp,MB,us',low,d,n,B+1,rfl,hC16.b,SqB.lst et16,mn',mw',n1,by omega,d1,d12,mb',hfit,l90,tsl',tb',tt16,fun z=>absurd z lz,fun _ _ H17 ev17 tt17 _=>?_⟩
   have evT:Ev K t [p0,c1,tp] H11 H17:=evS.trans (Ev.sub ((ev15.trans ev16).trans ev17) fun x z=>nomatch z)
   clear e14 et14 e15 et15 e16 et16 hC14 hC15 hC16 mn' mw' mb' memM tsl' tb' tt14 tt15 tt16 ev15 ev16 ev17 evS
   have ev4:Ev K t [] H4 H17:=Ev.over ((a_P s47).trans evA) evT fun x hx o _ e=>by
    simp only [List.mem_cons,List.not_mem_nil,or_false] at hx
    rcases hx with rfl | rfl | rfl
    ·rw [p4] at e; cases e
    ·rw [hc1] at e; cases e
    ·rw [ntp4] at e; cases e
   have evB:Ev K t [] H8 H11:=(a_P s9).trans (ev10.trans ev11)
   have nS:∀ y,(y∈f :: ps\/y∈g :: qs\/y∈h :: us)->y ∉ [p0,c1,tp]:=fun y hy hy'=>by
    obtain ⟨zs,e⟩:=in7 y (inS y hy')
    obtain ⟨w1,w2,w3⟩:=new y _ (fun _ z=>by cases z) e
    rcases hy with w | w | w
    ·exact w1 w
    ·exact w2 w
    ·exact w3 w
   have pF17:=MatP.ev (MatP.ev pF evB (fun x _ z=>nomatch z)) evT (fun x hx=>nS x (.inl hx))
   have pR17:=MatP.ev (MatP.ev pR evB (fun x _ z=>nomatch z)) evT (fun x hx=>nS x (.inr (.inl hx)))
   have pU17:=MatP.ev (MatP.ev pU evB (fun x _ z=>nomatch z)) evT (fun x hx=>nS x (.inr (.inr hx)))
   have er17:=Ev.tup evT in11 (Ev.tup evB LstS.nil er)
   have hK17:=Kept.ev (Kept.ev hK (ev10.trans ev11) (fun x z=>nomatch z)) evT fun x hx z=>by
    obtain ⟨zs,e⟩:=in7 x (inS x hx)
    rw [ev8.1 _ _ (fun z=>nomatch z) (fun _ z=>by cases z) e] at z
    cases z
   have hm1':=c_H.ev (c_H.ev hm1 ev11 LstS.nil) evT in11
   have hm2':=c_H.ev hm2 evT in11
   have hM17:=c_W hM4 ev4 (fun z=>nomatch z) (fun _ z=>nomatch z)
   have el17:H17 tl=some (.lst (ts.map V.int)):=ev4.1 _ _ (fun z=>nomatch z) (fun _ z=>by cases z) el4
   subst e1
   refine st fun N1 e1=>?_
   walk_at "r"
   refine ⟨r,f,g,h,F,R,g_v n C,rfl,er17,pF17.l,pR17.l,pU17.l,by rw [sta.fl]; omega,by rw [sta.rl]; omega,by omega,fun l2 H18 s18 hK2=>?_⟩
   refine l_e 3 (by decide) (Keep.dt hK2.keep) (Keep.dt (hK17.keep.up s18)) (j_U _ _ _) (j_U _ _ _) (b:=true) (by simp) ?_
   refine ⟨_,rfl,g_G (by decide) ?_⟩
   subst e1
   refine st fun N1 e1=>?_
   walk_at "r"
   refine ⟨v1,ar,tl,ts,low,false,MA,n,d,B,rfl,c_H.ev (K:=K) (t:=t) hm1' (a_P s18) LstS.nil,hM17.up s18,s18 _ _ el17,hR,n1,n40,d1,d12,by omega,l0,by omega,tsl,tb75,fun H19 s19=>⟨_,rfl,g_G (by decide) ?_⟩⟩
   have s189:=s18.trans s19
   refine ⟨v2,ar,tl,ts,low,true,MA,n,d,B,rfl,c_H.ev (K:=K) (t:=t) hm2' (a_P s189) LstS.nil,hM17.up s189,s189 _ _ el17,hR,n1,n40,d1,d12,by omega,l0,by omega,tsl,tb75,fun H20 s20=>⟨_,rfl,g_G (by decide) ?_⟩⟩
   have s1720:=s189.trans s20
   have ev420:=ev4.trans (a_P s1720)
   have pF20:=pF17.up s1720
   have pR20:=pR17.up s1720
   have pU20:=pU17.up s1720
   have er20:=s1720 _ _ er17
   have hK20:=Kept.ev (t:=t) (K:=K) hK17 (a_P (S:=[]) s1720) (fun x z=>nomatch z)
   have tt20:=(a_P (S:=[]) s1720).2 tt17
   clear s18 s19 s20 s189 s1720 hm1 hm2 hm1' hm2' hM17 el17 pF17 pR17 pU17 er17 hK17 hK2
   subst e1
   refine st fun N1 e1=>?_
   walk_at "r"
   refine ⟨true,r,_,_,_,rfl,rfl,SqB.tup er20,rfl,.inl ⟨rfl,_,SqL.of pF20.1⟩,f,_,rfl,rfl,pF20.1,?_⟩
   have keep1:∀ x o,x≠f->H20 x=some o->(upd H20 f (.lst [])) x=some o:=fun x o hx e=>by rw [a_E hx]; exact e
   have in20:∀ x∈[f,g,h],∃ zs,H20 x=some (.lst zs):=fun x hx=>by
    simp only [List.mem_cons,List.not_mem_nil,or_false] at hx
    rcases hx with rfl | rfl | rfl
    ·exact ⟨_,pF20.1⟩
    ·exact ⟨_,pR20.1⟩
    ·exact ⟨_,pU20.1⟩
   have rS:∀ x∈[f,g,h],r≠x:=fun x hx z=>by
    obtain ⟨zs,e⟩:=in20 x hx
    rw [← z,er20] at e
    cases e
   generalize upd H20 f (.lst [])=H21 at keep1 ⊢
   have er21:=keep1 _ _ (rS _ (by simp)) er20
   have g21:=keep1 _ _ gf pR20.1
   have h21:=keep1 _ _ hf pU20.1
   subst e1
   refine st fun N1 e1=>?_
   walk_at "r"
   refine ⟨true,r,_,_,_,rfl,rfl,SqB.tup er21,rfl,.inl ⟨rfl,_,SqL.of g21⟩,g,_,rfl,rfl,g21,?_⟩
   have keep2:∀ x o,x≠g->H21 x=some o->(upd H21 g (.lst [])) x=some o:=fun x o hx e=>by rw [a_E hx]; exact e
   generalize upd H21 g (.lst [])=H22 at keep2 ⊢
   have er22:=keep2 _ _ (rS _ (by simp)) er21
   have h22:=keep2 _ _ hg h21
   subst e1
   refine st fun N1 e1=>?_
   walk_at "r"
   refine ⟨true,r,_,_,_,rfl,rfl,SqB.tup er22,rfl,.inl ⟨rfl,_,SqL.of h22⟩,h,_,rfl,rfl,h22,?_⟩
   have evU:Ev K t [f,g,h] H20 (upd H22 h (.lst [])):=l_T (fun x o hx e=>by
    have hx':x≠f/\x≠g/\x≠h:=by simpa using hx
    rw [a_E hx'.2.2]
    exact keep2 _ _ hx'.2.1 (keep1 _ _ hx'.1 e)) in20
   generalize upd H22 h (.lst [])=H23 at evU ⊢
   clear keep1 keep2 er21 er22 g21 h21 h22
   have ev23:Ev K t [] H4 H23:=Ev.over ev420 evU fun x hx o ho e=>by
    have e7':=s47 _ _ e
    obtain ⟨w1,w2,w3⟩:=new x o ho e7'
    simp only [List.mem_cons,List.not_mem_nil,or_false] at hx
    rcases hx with rfl | rfl | rfl
    ·exact w1 List.mem_cons_self
    ·exact w2 List.mem_cons_self
    ·exact w3 List.mem_cons_self
   have hM23:=c_W hM4 ev23 (fun z=>nomatch z) (fun _ z=>nomatch z)
   have el23:H23 tl=some (.lst (ts.map V.int)):=ev23.1 _ _ (fun z=>nomatch z) (fun _ z=>by cases z) el4
   have tt23:=evU.2 tt20
   have hK23:=Kept.ev hK20 evU fun x hx z=>by
    simp only [List.mem_cons,List.not_mem_nil,or_false] at hx
    rcases hx with rfl | rfl | rfl
    ·rw [pF.1] at z; cases z
    ·rw [pR.1] at z; cases z
    ·rw [pU.1] at z; cases z
   subst e1
   refine st fun N1 e1=>?_
   walk_at "r"
   refine ⟨false,false,ar,MA,d,n,B+1,rfl,hM23.b,mn,mw,n1,by omega,by omega,mb1,hfit,tt23,fun r2 f2 g2 h2 F2 R2 C2 ks2 H24 ev24 tt24 er2 _ sta2 new2=>?_⟩
   obtain ⟨ps2,qs2,us2,pF2,_⟩:=new2
   have eF:=l_U sta2 sta mn mw
   subst eF
   have hK24:=(Kept.ev hK23 ev24 (fun x z=>nomatch z)).keep
   obtain ⟨f',g',h',el',m1,m2,m3⟩:=hK24
   refine ⟨true,r2,_,_,_,rfl,rfl,SqB.tup er2,rfl,false,l,_,_,_,rfl,rfl,SqB.lst el',rfl,?_⟩
   refine l_e 2 (by decide) (Dt.matB (pF2.l.b (K:=K))) (Dt.matB (m1.b (K:=K))) (g_t _ _ 0 _) (g_t _ _ 0 _) (b:=true) (by simp) ?_
   refine ⟨_,rfl,g_G (by decide) ?_⟩
   have hM24:=c_W hM23 ev24 (fun z=>nomatch z) (fun _ z=>nomatch z)
   have el24:H24 tl=some (.lst (ts.map V.int)):=ev24.1 _ _ (fun z=>nomatch z) (fun _ z=>by cases z) el23
   subst e1
   walk_at "r"
   refine ⟨false,false,false,ar,tl,MA,ts,low,d,n,B+1,rfl,hM24.b,SqB.lst el24,mn,mw,n1,by omega,d1,d12,mb1,hfit,l90,tsl,tb90,tt24,fun z=>absurd z lz,fun _ v3 H25 ev25 tt25 hm3=>?_⟩
   exact ⟨v3,ar,tl,ts,low,false,MA,n,d,B,rfl,hm3,c_W hM24 ev25 (fun z=>nomatch z) (fun _ z=>nomatch z),ev25.1 _ _ (fun z=>nomatch z) (fun _ z=>by cases z) el24,hR,n1,n40,d1,d12,by omega,l0,by omega,tsl,tb75,fun H26 s26=>hQ H26⟩
end
theorem us1 {α:Type} {us:List α} (h:us.length=1):∃ a0,us=[a0]:=match us,h with | [a0],_=>⟨a0,rfl⟩
theorem us2 {α:Type} {us:List α} (h:us.length=2):∃ a0 a1,us=[a0,a1]:=match us,h with | [a0,a1],_=>⟨a0,a1,rfl⟩
theorem us3 {α:Type} {us:List α} (h:us.length=3):∃ a0 a1 a2,us=[a0,a1,a2]:=match us,h with | [a0,a1,a2],_=>⟨a0,a1,a2,rfl⟩
theorem us4 {α:Type} {us:List α} (h:us.length=4):∃ a0 a1 a2 a3,us=[a0,a1,a2,a3]:=match us,h with | [a0,a1,a2,a3],_=>⟨a0,a1,a2,a3,rfl⟩
theorem us5 {α:Type} {us:List α} (h:us.length=5):∃ a0 a1 a2 a3 a4,us=[a0,a1,a2,a3,a4]:=match us,h with | [a0,a1,a2,a3,a4],_=>⟨a0,a1,a2,a3,a4,rfl⟩
abbrev caG (K:Frag) (C:Addr):Prop:=findIn K (.ref C) "__class__" = some (some (.builtin "object.__class__"))
abbrev nG (K:Frag) (x:Str) (f:Addr):Prop:=nsIn K mainGlobals x=some (some (.ref f))
local macro_rules | `(tactic| walk_at "1")=>`(tactic| (intro _ _ _ _ _ _ us hl; obtain ⟨_,hh⟩:=us1 hl; subst hh; rfl))
local macro_rules | `(tactic| walk_at "2")=>`(tactic| (intro _ _ _ _ _ _ us hl; obtain ⟨_,_,hh⟩:=us2 hl; subst hh; rfl))
local macro_rules | `(tactic| walk_at "3")=>`(tactic| (intro _ _ _ _ _ _ us hl; obtain ⟨_,_,_,hh⟩:=us3 hl; subst hh; rfl))
local macro_rules | `(tactic| walk_at "4")=>`(tactic| (intro _ _ _ _ _ _ us hl; obtain ⟨_,_,_,_,hh⟩:=us4 hl; subst hh; rfl))
local macro_rules | `(tactic| walk_at "5")=>`(tactic| (intro _ _ _ _ _ _ us hl; obtain ⟨_,_,_,_,_,hh⟩:=us5 hl; subst hh; rfl))
theorem txt_mk {K:Frag} {h:Heap} {mg:Str->Option Value} (X:K.In h) (G:h.Ns mainGlobals mg)
  {C_y C_8 C_m C_13 C_1a C_10 C_1b C_18 C_11 C_1c C_15 C_19 C_16 C_12 C_z C_14 C_17 f_r f_s f_q f_j f_d f_w f_t f_v f_p f_c f_5 f_g f_0 f_4 f_2 f_f f_k f_l f_a f_u f_1 f_o f_i f_h f_7 f_9 f_6 f_n f_3 f_b f_e f_x:Addr} {d_r d_s d_q d_j d_d d_w d_t d_v d_p d_c d_5 d_g d_0 d_4 d_2 d_f d_k d_l d_a d_u d_1 d_o d_i d_h d_7 d_9 d_6 d_n d_3 d_b d_e d_x:FuncData}
  {ts:List Addr}
  (n_y:nG K "CrystalError" C_y)
  (n_8:nG K "NoPlace" C_8)
  (n_m:nG K "Steps" C_m)
  (n_13:nG K "NoChange" C_13)
  (n_1a:nG K "NoDeed" C_1a)
  (n_10:nG K "NoDrawing" C_10)
  (n_1b:nG K "NoForm" C_1b)
  (n_18:nG K "NoName" C_18)
  (n_11:nG K "NoNumber" C_11)
  (n_1c:nG K "NoRow" C_1c)
  (n_15:nG K "NoSheet" C_15)
  (n_19:nG K "NoText" C_19)
  (n_16:nG K "NotKept" C_16)
  (n_12:nG K "NotLeast" C_12)
  (n_z:nG K "NotWithin" C_z)
  (n_14:nG K "OffSheet" C_14)
  (n_17:nG K "TooMany" C_17)
  (n_r:nG K "divisor" f_r)
  (F_r:Fun K "divisor" "divisor" s_r f_r d_r)
  (n_s:nG K "nearest" f_s)
  (F_s:Fun K "nearest" "nearest" s_s f_s d_s)
  (n_q:nG K "place" f_q)
  (F_q:Fun K "place" "place" s_q f_q d_q)
  (n_j:nG K "rest_place" f_j)
  (F_j:Fun K "rest_place" "rest_place" s_j f_j d_j)
  (n_d:nG K "still_rows" f_d)
  (F_d:Fun K "still_rows" "still_rows" s_d f_d d_d)
  (n_w:nG K "dot" f_w)
  (F_w:Fun K "dot" "dot" s_w f_w d_w)
  (n_t:nG K "turned" f_t)
  (F_t:Fun K "turned" "turned" s_t f_t d_t)
  (n_v:nG K "less" f_v)
  (F_v:Fun K "less" "less" s_v f_v d_v)
  (n_p:nG K "exchange" f_p)
  (F_p:Fun K "exchange" "exchange" s_p f_p d_p)
  (n_c:nG K "turn_signs" f_c)
  (F_c:Fun K "turn_signs" "turn_signs" s_c f_c d_c)
  (n_5:findIn K (.ref C_m) "__init__" = some (some (.ref f_5)))
  (F_5:Fun K "__init__" "Steps.__init__" s_5 f_5 d_5)
  (n_g:findIn K (.ref C_m) "take" = some (some (.ref f_g)))
  (F_g:Fun K "take" "Steps.take" s_g f_g d_g)
  (n_0:findIn K (.ref C_m) "rising" = some (some (.ref f_0)))
  (F_0:Fun K "rising" "Steps.rising" s_0 f_0 d_0)
  (n_4:findIn K (.ref C_m) "gather" = some (some (.ref f_4)))
  (F_4:Fun K "gather" "Steps.gather" s_4 f_4 d_4)
  (n_2:findIn K (.ref C_m) "set_lead" = some (some (.ref f_2)))
  (F_2:Fun K "set_lead" "Steps.set_lead" s_2 f_2 d_2)
  (n_f:nG K "stairs" f_f)
  (F_f:Fun K "stairs" "stairs" s_f f_f d_f)
  (n_k:nG K "leads_of" f_k)
  (F_k:Fun K "leads_of" "leads_of" s_k f_k d_k)
  (n_l:nG K "climbed" f_l)
  (F_l:Fun K "climbed" "climbed" s_l f_l d_l)
  (n_a:nG K "meeting" f_a)
  (F_a:Fun K "meeting" "meeting" s_a f_a d_a)
  (n_u:nG K "met" f_u)
  (F_u:Fun K "met" "met" s_u f_u d_u)
  (n_1:nG K "whole_met" f_1)
  (F_1:Fun K "whole_met" "whole_met" s_1 f_1 d_1)
  (n_o:nG K "_law_cell" f_o)
  (F_o:Fun K "_law_cell" "_law_cell" s_o f_o d_o)
  (n_i:nG K "_law_number" f_i)
  (F_i:Fun K "_law_number" "_law_number" s_i f_i d_i)
  (n_h:nG K "_law_rows" f_h)
  (F_h:Fun K "_law_rows" "_law_rows" s_h f_h d_h)
  (n_7:nG K "_law_from_end" f_7)
  (F_7:Fun K "_law_from_end" "_law_from_end" s_7 f_7 d_7)
  (n_9:nG K "_law_another" f_9)
  (F_9:Fun K "_law_another" "_law_another" s_9 f_9 d_9)
  (n_6:nG K "_law_refused" f_6)
  (F_6:Fun K "_law_refused" "_law_refused" s_6 f_6 d_6)
  (n_n:nG K "_law_dot" f_n)
  (F_n:Fun K "_law_dot" "_law_dot" s_n f_n d_n)
  (n_3:nG K "_law_shown_none" f_3)
  (F_3:Fun K "_law_shown_none" "_law_shown_none" s_3 f_3 d_3)
  (n_b:nG K "_law_right" f_b)
  (F_b:Fun K "_law_right" "_law_right" s_b f_b d_b)
  (n_e:nG K "_law_copied" f_e)
  (F_e:Fun K "_law_copied" "_law_copied" s_e f_e d_e)
  (n_x:nG K "law" f_x)
  (F_x:Fun K "law" "law" s_x f_x d_x)
  (y_abs:nsIn K mainGlobals "abs" = some none)
  (y_enumerate:nsIn K mainGlobals "enumerate" = some none)
  (y_isinstance:nsIn K mainGlobals "isinstance" = some none)
  (y_len:nsIn K mainGlobals "len" = some none)
  (y_list:nsIn K mainGlobals "list" = some none)
  (y_max:nsIn K mainGlobals "max" = some none)
  (y_range:nsIn K mainGlobals "range" = some none)
  (y_reversed:nsIn K mainGlobals "reversed" = some none)
  (y_sorted:nsIn K mainGlobals "sorted" = some none)
  (y_sum:nsIn K mainGlobals "sum" = some none)
  (y_tuple:nsIn K mainGlobals "tuple" = some none)
  (y_zip:nsIn K mainGlobals "zip" = some none)
  (y_ValueError:nsIn K mainGlobals "ValueError" = some none)
  (q_i:L2.Cls K C_m)
  (q_j:L2.Mk K C_m f_5)
  (q_k:findIn K (.ref C_m) "lines" = some none)
  (q_8:findIn K (.ref C_m) "columns" = some none)
  (q_4:L2.Meth K C_m "take" f_g)
  (q_1:L2.Meth K C_m "rising" f_0)
  (q_2:L2.Meth K C_m "gather" f_4)
  (q_0:L2.Meth K C_m "set_lead" f_2)
  (q_d:PySem.W.excIn K C_8 [.type "ValueError",.type "Exception",.type "BaseException",.type "object"] "ValueError.__new__" = true)
  (q_3:L2.tabOk K f_0=true)
  (q_q:L2.tabOk K f_u=true)
  (q_5:L2.tabOk K f_1=true)
  (q_r:(L2.tabP K f_0 == L2.tabP K f_u)=false)
  (q_s:(L2.tabP K f_0 == L2.tabP K f_1)=false)
  (q_t:(L2.tabP K f_u == L2.tabP K f_1)=false)
  (q_xm:PySem.W.exmOne K (.ref C_8) (.ref C_y)=some true)
  (q_u:findIn K (.ref C_8) "__getattribute__" = some (some (.builtin "BaseException.__getattribute__")))
  (q_v:findIn K (.ref C_8) "__getattr__" = some none)
  (q_w:caG K C_8)
  (q_x:PySem.W.specialIn K (.builtin "object.__class__") "__get__" = some (some (.builtin "getset_descriptor.__get__")))
  (q_y:PySem.W.takesIn K (.builtin "object.__class__")=some true)
  (q_z:PySem.W.mroIn K C_8 (.type "object")=some true)
  (q_10:PySem.W.mroIn K C_8 (.type "BaseException")=some true)
  (q_11:kitOne K (.ref C_8) (.type "ValueError")=some true)
  (q_e:kitOne K (.ref C_8) (.ref C_8)=some true)
  (q_9:kitOne K (.ref C_8) (.ref C_13)=some false)
  (q_l:kitOne K (.ref C_8) (.ref C_1a)=some false)
  (q_6:kitOne K (.ref C_8) (.ref C_10)=some false)
  (q_m:kitOne K (.ref C_8) (.ref C_1b)=some false)
  (q_n:kitOne K (.ref C_8) (.ref C_18)=some false)
  (q_a:kitOne K (.ref C_8) (.ref C_11)=some false)
  (q_p:kitOne K (.ref C_8) (.ref C_1c)=some false)
  (q_f:kitOne K (.ref C_8) (.ref C_15)=some false)
  (q_o:kitOne K (.ref C_8) (.ref C_19)=some false)
  (q_g:kitOne K (.ref C_8) (.ref C_16)=some false)
  (q_b:kitOne K (.ref C_8) (.ref C_12)=some false)
  (q_7:kitOne K (.ref C_8) (.ref C_z)=some false)
  (q_c:kitOne K (.ref C_8) (.ref C_14)=some false)
  (q_h:kitOne K (.ref C_8) (.ref C_17)=some false)
  (w_Steps_rising:ts.contains (L2.tabP K f_0)=true)
  (w_met:ts.contains (L2.tabP K f_u)=true)
  (w_whole_met:ts.contains (L2.tabP K f_1)=true)
  : ∃ t,Txt K mg t/\∀ f∈[Adr.a_0 t,Adr.a_u t,Adr.a_1 t],L2.tabP K f∈ts:=by
 have b_r:=F_r.binds (ps:=["one","other"]) (by walk_at "2")
 have b_s:=F_s.binds (ps:=["one","other"]) (by walk_at "2")
 have b_q:=F_q.binds (ps:=["tops","under"]) (by walk_at "2")
 have b_j:=F_j.binds (ps:=["one"]) (by walk_at "1")
 have b_d:=F_d.binds (ps:=["size"]) (by walk_at "1")
 have b_w:=F_w.binds (ps:=["one","other"]) (by walk_at "2")
 have b_t:=F_t.binds (ps:=["rows"]) (by walk_at "1")
 have b_v:=F_v.binds (ps:=["one","other","count"]) (by walk_at "3")
 have b_p:=F_p.binds (ps:=["table","i","j"]) (by walk_at "3")
 have b_c:=F_c.binds (ps:=["table","i"]) (by walk_at "2")
 have b_5:=F_5.binds (ps:=["self","rows"]) (by walk_at "2")
 have b_g:=F_g.binds (ps:=["self","i","j","count"]) (by walk_at "4")
 have b_0:=F_0.binds (ps:=["self","top","k"]) (by walk_at "3")
 have b_4:=F_4.binds (ps:=["self","top","k"]) (by walk_at "3")
 have b_2:=F_2.binds (ps:=["self","top","k"]) (by walk_at "3")
 have b_f:=F_f.binds (ps:=["rows"]) (by walk_at "1")
 have b_k:=F_k.binds (ps:=["form"]) (by walk_at "1")
 have b_l:=F_l.binds (ps:=["form","leads","tops","under"]) (by walk_at "4")
 have b_a:=F_a.binds (ps:=["rows","spot","fits"]) (by walk_at "3")
 have b_u:=F_u.binds (ps:=["rows","tops","under"]) (by walk_at "3")
 have b_1:=F_1.binds (ps:=["rows","tops","under"]) (by walk_at "3")
 have b_o:=F_o.binds (ps:=["_law_script","_law_k"]) (by walk_at "2")
 have b_i:=F_i.binds (ps:=["_law_cell_here","_law_way"]) (by walk_at "2")
 have b_h:=F_h.binds (ps:=["_law_script"]) (by walk_at "1")
 have b_7:=F_7.binds (ps:=["_law_script","_law_k"]) (by walk_at "2")
 have b_9:=F_9.binds (ps:=["_law_e"]) (by walk_at "1")
 have b_6:=F_6.binds (ps:=["_law_rows_here","_law_tops","_law_whole"]) (by walk_at "3")
 have b_n:=F_n.binds (ps:=["_law_one","_law_other"]) (by walk_at "2")
 have b_3:=F_3.binds (ps:=["_law_found","_law_rows_here"]) (by walk_at "2")
 have b_b:=F_b.binds (ps:=["_law_found","_law_rows_here","_law_tops","_law_low","_law_whole"]) (by walk_at "5")
 have b_e:=F_e.binds (ps:=["_law_told"]) (by walk_at "1")
 have b_x:=F_x.binds (ps:=["_law_script"]) (by walk_at "1")
 obtain ⟨_,_,_,_,_,_,_,_,_,rfl,_,_⟩:=id F_x.ex
 exact ⟨⟨f_r,_,f_s,_,f_q,_,f_j,_,f_d,_,f_w,_,f_t,_,f_v,_,f_p,_,f_c,_,f_5,_,f_g,_,f_0,_,f_4,_,f_2,_,f_f,_,f_k,_,f_l,_,f_a,_,f_u,_,f_1,_,f_o,_,f_i,_,f_h,_,f_7,_,f_9,_,f_6,_,f_n,_,f_3,_,f_b,_,f_e,_,f_x,_,C_y,C_8,C_m,C_13,C_1a,C_10,C_1b,C_18,C_11,C_1c,C_15,C_19,C_16,C_12,C_z,C_14,C_17⟩,⟨F_r,mg_of X G n_r,b_r,F_s,mg_of X G n_s,b_s,F_q,mg_of X G n_q,b_q,F_j,mg_of X G n_j,b_j,F_d,mg_of X G n_d,b_d,F_w,mg_of X G n_w,b_w,F_t,mg_of X G n_t,b_t,F_v,mg_of X G n_v,b_v,F_p,mg_of X G n_p,b_p,F_c,mg_of X G n_c,b_c,F_5,b_5,F_g,b_g,F_0,b_0,F_4,b_4,F_2,b_2,F_f,mg_of X G n_f,b_f,F_k,mg_of X G n_k,b_k,F_l,mg_of X G n_l,b_l,F_a,mg_of X G n_a,b_a,F_u,mg_of X G n_u,b_u,F_1,mg_of X G n_1,b_1,F_o,mg_of X G n_o,b_o,F_i,mg_of X G n_i,b_i,F_h,mg_of X G n_h,b_h,F_7,mg_of X G n_7,b_7,F_9,mg_of X G n_9,b_9,F_6,mg_of X G n_6,b_6,F_n,mg_of X G n_n,b_n,F_3,mg_of X G n_3,b_3,F_b,mg_of X G n_b,b_b,F_e,mg_of X G n_e,b_e,F_x,mg_of X G n_x,b_x,PySem.W.mg_none_of X G y_abs,PySem.W.mg_none_of X G y_enumerate,PySem.W.mg_none_of X G y_isinstance,PySem.W.mg_none_of X G y_len,PySem.W.mg_none_of X G y_list,PySem.W.mg_none_of X G y_max,PySem.W.mg_none_of X G y_range,PySem.W.mg_none_of X G y_reversed,PySem.W.mg_none_of X G y_sorted,PySem.W.mg_none_of X G y_sum,PySem.W.mg_none_of X G y_tuple,PySem.W.mg_none_of X G y_zip,PySem.W.mg_none_of X G y_ValueError,mg_of X G n_y,mg_of X G n_8,mg_of X G n_m,mg_of X G n_13,mg_of X G n_1a,mg_of X G n_10,mg_of X G n_1b,mg_of X G n_18,mg_of X G n_11,mg_of X G n_1c,mg_of X G n_15,mg_of X G n_19,mg_of X G n_16,mg_of X G n_12,mg_of X G n_z,mg_of X G n_14,mg_of X G n_17,q_i,q_j,q_k,q_8,q_4,q_1,q_2,q_0,q_d,q_3,q_q,q_5,q_r,q_s,q_t,q_xm,q_u,q_v,q_w,q_x,q_y,q_z,q_10,q_11,q_e,q_9,q_l,q_6,q_m,q_n,q_a,q_p,q_f,q_o,q_g,q_b,q_7,q_c,q_h,fun s v=>.of_eq rfl⟩,List.forall_mem_cons.mpr ⟨by simpa using w_Steps_rising,List.forall_mem_cons.mpr ⟨by simpa using w_met,List.forall_mem_cons.mpr ⟨by simpa using w_whole_met,fun _ h=>nomatch h⟩⟩⟩⟩
theorem head_mk {P:Program} {w:World} {K:Frag} {mg:Str->Option Value} {fa:Addr} {ts:List Addr} (tr:P.given.tree=none) (h:∃ t,Txt K mg t/\∀ f∈[Adr.a_0 t,Adr.a_u t,Adr.a_1 t],L2.tabP K f∈ts) (hmg:mg "law" = some (.ref fa)) :
  ∃ (fd:FuncData) (fl:List Addr),(∀ f∈fl,tabOk K f=true/\tabP K f∈ts)/\(∀ (s:Shared) (u:Value),BindsTo s fd ⟨[u],[]⟩ [("_law_script",u)])/\∀ base:Heap,K.In base->base.Ns mainGlobals mg->f_R mg base->base.NoSeer->FnOk P w K mg base CX0 46 fa fd ["_law_script"] (i_W K fl):=by
 obtain ⟨t,T,W⟩:=h
 have e0:=hmg.symm.trans T.m_x
 cases e0
 have W1:=List.forall_mem_cons.mp W
 have W2:=List.forall_mem_cons.mp W1.2
 have W3:=List.forall_mem_cons.mp W2.2
 exact ⟨t.d_x,[t.a_0,t.a_u,t.a_1],List.forall_mem_cons.mpr ⟨⟨T.tb_0,W1.1⟩,List.forall_mem_cons.mpr ⟨⟨T.tb_u,W2.1⟩,List.forall_mem_cons.mpr ⟨⟨T.tb_1,W3.1⟩,fun _ h=>nomatch h⟩⟩⟩,T.bl,fun base _ _ bm se=>ok_x T ⟨bm,se,tr⟩⟩
end Cw
open PySem PySem.W PyProof.Rows
/-! Names that the head would else lay equations under (of whole heaps and of their trees): the proof wants none of them. -/
namespace PySem.W.Fast
def tw15673841382028118287:=Nat
def tw11147301262588658076:=Nat
def tw16973972286244424856:=Nat
def tw11209888784545762565:=Nat
def tw293300187691932897:=Nat
def tw2094342248495521873:=Nat
def tw4436429703593805694:=Nat
def tw6776801649039987226:=Nat
def tw2106940951053985733:=Nat
def tw15652799086335259751:=Nat
def tw16519429730812349005:=Nat
def tw7579362599881720843:=Nat
def tw11425009466393898664:=Nat
def tw3667065925991335601:=Nat
def tw12742992044016019229:=Nat
def tw1574079251065631704:=Nat
def tw15140110904753926307:=Nat
def tw8901687408145374730:=Nat
def tw15654898655695676397:=Nat
def tw9195867709768681278:=Nat
def tw529571178356835610:=Nat
def tw1992773490883228282:=Nat
def tw13998879958498383260:=Nat
def tw8927001350925786354:=Nat
def tw7022977221372411476:=Nat
def tw4094167795785854333:=Nat
def tw6080550409067757426:=Nat
def tw15736544556846975596:=Nat
def tw13794674022600820031:=Nat
def tw14657076694885121014:=Nat
def tw11164862822109605722:=Nat
def tw11266925608958424364:=Nat
def tw14393413221992479677:=Nat
def tw2037119701233023387:=Nat
def tw1882856786015713523:=Nat
def tw14160557126802995891:=Nat
def tw8423846626808864753:=Nat
def tw3876882052980701772:=Nat
def tw18385159225005340776:=Nat
def tw14948456140038629439:=Nat
def tw4519135866963571289:=Nat
def tw15344475892699038102:=Nat
def tw5937512803287879449:=Nat
def tw12782013209818755876:=Nat
def tw13057626197636845948:=Nat
def tw12001808860430692850:=Nat
def tw1559484832870112375:=Nat
def tw3534780095470415902:=Nat
def tw5255773805230182465:=Nat
def tw4175814728645785552:=Nat
def tw13948298894212554320:=Nat
def tw8724622514475758820:=Nat
def tw11258437524747524569:=Nat
def tw3199911196866841885:=Nat
def tw10270453657871717427:=Nat
def tw17970186503878668636:=Nat
def tw6127141462682782460:=Nat
def tw2199082954975786479:=Nat
def tw13593398226189461849:=Nat
def tw10534613021872112487:=Nat
def tw16357662811982746320:=Nat
def tw401251462383922608:=Nat
def tw1732326019531686922:=Nat
def tw17490180128135632207:=Nat
def tw1971988764768823439:=Nat
def tw11076716052845002549:=Nat
def tw1302678516230310305:=Nat
def tw12886290603971242560:=Nat
def tw14003948710383785594:=Nat
def tw11410857862799720673:=Nat
def tw13903617734277894719:=Nat
def tw4746198575747993732:=Nat
def tw7760659210209896361:=Nat
def tw17977991639541843506:=Nat
def tw3890889422747673443:=Nat
def tw17963528827005943800:=Nat
def tw4833560616819804272:=Nat
def tw11694190072696666446:=Nat
def tw3969281136744012428:=Nat
def tw18018555409320656344:=Nat
def tw4503293133576560851:=Nat
def tw8774144286721574179:=Nat
def tw825872151840841181:=Nat
def tw9471376515315872180:=Nat
def tw8249203997369524304:=Nat
def tw16348654098941495868:=Nat
def tw15718156513872843098:=Nat
def tw3848380549125875508:=Nat
def tw10520208851231874647:=Nat
def tw3042003616273257114:=Nat
def tw3406730722297557456:=Nat
def tw1541996209506703986:=Nat
def tw2919202626269971927:=Nat
def tw3581865982861201298:=Nat
def tw9598713725707964440:=Nat
def tw5179552684320520220:=Nat
def tw2112843196300509489:=Nat
def tw13740780487952597608:=Nat
def tw11681215391430056136:=Nat
def tw14488512574518515150:=Nat
def tw9074766531814592204:=Nat
def tw170658679091994844:=Nat
def tw3462021725672301698:=Nat
def tw14727615547029653655:=Nat
def tw18389431353035024866:=Nat
def tw15603283190292824337:=Nat
def tw6379039557901967044:=Nat
def tw11689491235826991109:=Nat
def tw16042661146972854107:=Nat
def tw4664892928247314270:=Nat
def tw5030020681289313640:=Nat
def tw8537034313428760322:=Nat
def tw9229082509884509387:=Nat
def tw5310666640124127115:=Nat
def tw11711493888954993726:=Nat
def tw4907779026471555905:=Nat
def tw1935897771191417569:=Nat
def tw8513700695820998423:=Nat
def tw16242341753533841377:=Nat
def tw7307340781493063453:=Nat
def tw12609978996806058209:=Nat
def tw12506758475143765969:=Nat
def tw15017704268587945481:=Nat
def tw15398688495792422846:=Nat
def tw231798414119661236:=Nat
def tw248089949475880220:=Nat
def tw7204336399109168663:=Nat
def tw10537875446426713401:=Nat
def tw13746686837288553433:=Nat
def tw2967765070460524050:=Nat
def tw6001711404991427776:=Nat
def tw5086884266279254801:=Nat
def tw4039413505551591047:=Nat
def tw4180599386741060230:=Nat
def tw12333238053409563881:=Nat
def tw15145107984892589945:=Nat
def tw8054999707742453796:=Nat
def tw16800821382263814103:=Nat
def tw11609842023919180238:=Nat
def tw2077445326871738758:=Nat
def tw9348495030745982291:=Nat
def tw6489809940622409029:=Nat
def tw3130315917460100936:=Nat
def tw4589879017750981568:=Nat
def tw3626534859569917233:=Nat
def tw8395606408873865523:=Nat
def tw740625379883262275:=Nat
def tw17412776813553750547:=Nat
def tw5938029351130290351:=Nat
def tw16423923941096699805:=Nat
def tw5560976395199348878:=Nat
def tw1804623702530605850:=Nat
def tw17003989966618126439:=Nat
def tw5009662375579302692:=Nat
def tw4739652617759578962:=Nat
def tw16986992126895529379:=Nat
def tw5527845351702855008:=Nat
def tw17200087636499506221:=Nat
def tw14598059141510666921:=Nat
def tw2259637433964813362:=Nat
def tw18150781512138795056:=Nat
def tw17910167081317663063:=Nat
def tw627310307764761804:=Nat
def tw15244761123027466637:=Nat
def tw10073779723117086085:=Nat
def tw15053382905136636233:=Nat
def tw3311404859907484499:=Nat
def tw5791175665725991715:=Nat
def tw2181730323397394698:=Nat
def tw13038340957530405128:=Nat
def tw8301233073033948209:=Nat
def tw1867096702524238257:=Nat
def tw4081536676418606405:=Nat
def tw7794041149681618562:=Nat
def tw3009876545781105647:=Nat
def tw10880048985752799103:=Nat
def tw17100736965478249494:=Nat
def tw13007630599712225362:=Nat
def tw5093469912766723525:=Nat
def tw16690180636705645618:=Nat
def tw2080755663327896214:=Nat
def tw17545865761237142159:=Nat
def tw17992159605751296496:=Nat
def tw2119012679691037335:=Nat
def tw12663516228573603487:=Nat
def tw13379053800234555398:=Nat
def tw11432377758810875573:=Nat
def tw11932077593522282583:=Nat
def tw10708854947296991333:=Nat
def tw9212208185680637567:=Nat
def tw3432878313458205:=Nat
def tw16748410513450028963:=Nat
def tw9552957863515613783:=Nat
def tw1213343929443806487:=Nat
def tw4971866917982019605:=Nat
def tw17987385988489931792:=Nat
def tw16142489073157873910:=Nat
def tw10724680314826393012:=Nat
def tw18439733188346271824:=Nat
def tw9963692814678927382:=Nat
def tw12955277927284578876:=Nat
def tw3027654947410993217:=Nat
def tw7605927508615164169:=Nat
def tw16804891115994574648:=Nat
def tw17127549780128942276:=Nat
def tw4399843207037077948:=Nat
def tw15548987068626243887:=Nat
def tw1077279290520187932:=Nat
def tw6292347511574832583:=Nat
def tw8696768910506789290:=Nat
def tw9892132955806596320:=Nat
def tw8764356721326276593:=Nat
def tw314091888477154105:=Nat
def tw17308089672260514044:=Nat
def tw14852552199174225897:=Nat
def tw12583883894787481627:=Nat
def tw13055354848421723256:=Nat
def tw6754156619973760620:=Nat
def tw10141572736343752577:=Nat
def tw1433406468937359210:=Nat
def tw644501692851489815:=Nat
def tw16431890774680846940:=Nat
def tw16810960167706787321:=Nat
def tw3100906926273891313:=Nat
def tw2641733836921401300:=Nat
def tw1426699237770640817:=Nat
def tw364506514362464691:=Nat
def tw10458542779824028470:=Nat
def tw12735865306002990819:=Nat
def tw12521781524054727047:=Nat
def tw90273905608604112:=Nat
def tw3092908661551299927:=Nat
def tw1535078005394582226:=Nat
def tw15141269026345109846:=Nat
def tw5645195254257807133:=Nat
def tw6412297332082753017:=Nat
def tw932187681377733266:=Nat
def tw7724178432816846361:=Nat
def tw16892910973381672674:=Nat
def tw18092118816745119851:=Nat
def tw17837506653969657248:=Nat
def tw10177350263582458390:=Nat
def tw15437105332185359335:=Nat
def tw15900916914176411570:=Nat
def tw12126014126064920311:=Nat
def tw4667599593685240785:=Nat
def tw862142803358012423:=Nat
def tw14554898740963535960:=Nat
def tw7024918506524498024:=Nat
def tw12232572755468043822:=Nat
def tw16331075106958874527:=Nat
def tw5690341829846298978:=Nat
def tw1186423470775458987:=Nat
def tw2219452084412344894:=Nat
def tw8501016591162224117:=Nat
def tw10934083052463258918:=Nat
def tw10635772659748383488:=Nat
def tw13744777060809936429:=Nat
def tw2467216990262727287:=Nat
def tw14506961693611943326:=Nat
def tw16370689402152167079:=Nat
def tw17416164097444362747:=Nat
def tw2945433216097893960:=Nat
def tw14354308554465485708:=Nat
def tw15906751481708700036:=Nat
def tw5766085127525383096:=Nat
def tw9168153529223987204:=Nat
def tw12219304396942534142:=Nat
def tw13684384035280539810:=Nat
def tw10981868641505066417:=Nat
def tw2596680872361600475:=Nat
def tw10749015669970334019:=Nat
def tw1376747437827386945:=Nat
def tw12342481926339195604:=Nat
def tw15554510970050938396:=Nat
def tw15147568908106534161:=Nat
def tw1397033280006779851:=Nat
def tw9062759699369999038:=Nat
def tw1006112485251810336:=Nat
def tw923684302251611514:=Nat
def tw8135771801535593490:=Nat
def tw12846407514468550235:=Nat
def tw814357965167792104:=Nat
def tw11135347399892615246:=Nat
def tw13159089228017343911:=Nat
def tw12803031534488495479:=Nat
def tw15363165004831929272:=Nat
def tw16245607461314237099:=Nat
def tw9836319109254564963:=Nat
def tw12377974337776686209:=Nat
def tw10019646575976298801:=Nat
def tw4974150893648760732:=Nat
def tw1926089953273335066:=Nat
def tw9492223599774029814:=Nat
def tw5013722039917850086:=Nat
def tw13240915158843926100:=Nat
def tw6662202490173687253:=Nat
def tw9470765794260635178:=Nat
def tw5069599051782954749:=Nat
def tw6848193444891980848:=Nat
def tw9604239061017909072:=Nat
def tw3670556795567454924:=Nat
def tw1037328328882151087:=Nat
def tw6060854872143287794:=Nat
def tw4446150747339573120:=Nat
def tw18146012775845543118:=Nat
def tw68222695171874673:=Nat
def tw11559006838052779210:=Nat
def tw6458359001726433886:=Nat
def tw13679136315588218777:=Nat
def tw16241049559344480930:=Nat
def tw1735259982996450738:=Nat
def tw8575801334314697454:=Nat
def tw2642451029249935668:=Nat
def tw985022640526545391:=Nat
end PySem.W.Fast
set_option maxRecDepth 100000 in
set_option maxHeartbeats 0 in
theorem PySem.Challenge.cw_crystalwords_k27_kept_and_refused_holds : PySem.Challenge.rw_crystalwords_k27_kept_and_refused.Holds := by
 w_on; o_law; k_head; (case hw=>w_witness2)
 k_fill
 refine L2.walkT (l:=PySem.Challenge.rw_crystalwords_k27_kept_and_refused) (k:=46) (x := "_law_script") rfl rfl (by decide +kernel) ⟨rfl,by decide,by decide⟩ (fun w h Y=>⟨PySem.W.km_in_of Y,PySem.W.km_tabs_of Y⟩) ?F
 case F =>
  intro w mg fa h KX G hmg
  refine Cw.head_mk (K:=L2.KOf KX) (by rfl) ?T hmg
  dsimp only [L2.KOf]
  refine' Cw.txt_mk KX G ?n_y ?n_8 ?n_m ?n_13 ?n_1a ?n_10 ?n_1b ?n_18 ?n_11 ?n_1c ?n_15 ?n_19 ?n_16 ?n_12 ?n_z ?n_14 ?n_17 ?n_r ?F_r ?n_s ?F_s ?n_q ?F_q ?n_j ?F_j ?n_d ?F_d ?n_w ?F_w ?n_t ?F_t ?n_v ?F_v ?n_p ?F_p ?n_c ?F_c ?n_5 ?F_5 ?n_g ?F_g ?n_0 ?F_0 ?n_4 ?F_4 ?n_2 ?F_2 ?n_f ?F_f ?n_k ?F_k ?n_l ?F_l ?n_a ?F_a ?n_u ?F_u ?n_1 ?F_1 ?n_o ?F_o ?n_i ?F_i ?n_h ?F_h ?n_7 ?F_7 ?n_9 ?F_9 ?n_6 ?F_6 ?n_n ?F_n ?n_3 ?F_3 ?n_b ?F_b ?n_e ?F_e ?n_x ?F_x ?y_abs ?y_enumerate ?y_isinstance ?y_len ?y_list ?y_max ?y_range ?y_reversed ?y_sorted ?y_sum ?y_tuple ?y_zip ?y_ValueError ?q_i ?q_j ?q_k ?q_8 ?q_4 ?q_1 ?q_2 ?q_0 ?q_d ?q_3 ?q_q ?q_5 ?q_r ?q_s ?q_t ?q_xm ?q_u ?q_v ?q_w ?q_x ?q_y ?q_z ?q_10 ?q_11 ?q_e ?q_9 ?q_l ?q_6 ?q_m ?q_n ?q_a ?q_p ?q_f ?q_o ?q_g ?q_b ?q_7 ?q_c ?q_h ?w_Steps_rising ?w_met ?w_whole_met
  (case n_y | n_8 | n_m | n_13 | n_1a | n_10 | n_1b | n_18 | n_11 | n_1c | n_15 | n_19 | n_16 | n_12 | n_z | n_14 | n_17 | n_r | n_s | n_q | n_j | n_d | n_w | n_t | n_v | n_p | n_c | n_f | n_k | n_l | n_a | n_u | n_1 | n_o | n_i | n_h | n_7 | n_9 | n_6 | n_n | n_3 | n_b | n_e | n_x=>show _=_; k_is)
  (case n_5 | n_g | n_0 | n_4 | n_2 | y_abs | y_enumerate | y_isinstance | y_len | y_list | y_max | y_range | y_reversed | y_sorted | y_sum | y_tuple | y_zip | y_ValueError | q_k | q_8 | q_u | q_v | q_w | q_x | q_y | q_z | q_10=>show _=_; k_is)
  (case F_r | F_s | F_q | F_j | F_d | F_w | F_t | F_v | F_p | F_c | F_5 | F_g | F_0 | F_4 | F_2 | F_f | F_k | F_l | F_a | F_u | F_1 | F_o | F_i | F_h | F_7 | F_9 | F_6 | F_n | F_3 | F_b | F_e | F_x=>refine' L2.fun_mk ?l ?c ?k; (case l=>k_is); (case c=>k_is); (case k=>k_is))
  (case q_i | q_j=>exact ⟨by k_is,by k_is,by k_is,by k_is⟩)
  (case q_4 | q_1 | q_2 | q_0=>exact ⟨by k_is,by k_is,by k_is⟩)
  (case q_d=>k_exc)
  (case q_3 | q_q | q_5 | q_r | q_s | q_t | w_Steps_rising | w_met | w_whole_met=>kernel_rfl)
  (case q_xm=>kts_exm)
  (case q_11 | q_e | q_9 | q_l | q_6 | q_m | q_n | q_a | q_p | q_f | q_o | q_g | q_b | q_7 | q_c | q_h=>kit_is)
#print axioms PySem.Challenge.cw_crystalwords_k27_kept_and_refused_holds